/- Depth, free and bound variables, pure. No condition. -/
import Derived.Test.YtpdigaankmgagaaTK
import Derived.Deep.RegionHeld3
set_option linter.unusedVariables false
set_option linter.unusedSimpArgs false
namespace Go.Proofs.Ytpdigaankmgagaa.Sx

/-- how high the terms are -/
def depT : Fo → Nat
  | .nil => 0
  | .cons _ _ kids _ rest => max (depT kids + 1) (depT rest)
theorem depT_le (f : Fo) : depT f ≤ fsize f := by
  induction f with
  | nil => simp [depT]
  | cons k t kids o r ih1 ih2 => simp only [depT, fsize]; omega

/-- is the node the occurrence of a variable that is free within b bodies -/
def freeB (k o b : Int) : Bool := decide (k = 5) && decide (b ≤ o)
/-- how many bodies are round argument i -/
def aroundB (k : Int) (i : Nat) (b : Int) : Int := if k = 6 ∧ i = 1 then b + 1 else b
/-- no variable is free in the arguments r (from argument i on) of a node of kind pk within b bodies -/
def closedL (pk : Int) : Nat → Int → Fo → Bool
  | _, _, .nil => true
  | i, b, .cons k _ kids o rest => (!freeB k o (aroundB pk i b) && closedL k 0 (aroundB pk i b) kids) && closedL pk (i + 1) b rest
def closed1 (k o : Int) (kids : Fo) (b : Int) : Bool := !freeB k o b && closedL k 0 b kids
theorem closedL_cons (pk : Int) (i : Nat) (b k : Int) (t : List UInt8) (kids : Fo) (o : Int) (rest : Fo) : closedL pk i b (.cons k t kids o rest) = (closed1 k o kids (aroundB pk i b) && closedL pk (i + 1) b rest) := rfl
end Go.Proofs.Ytpdigaankmgagaa.Sx
namespace Go.Proofs.Ytpdigaankmgagaa
open Go.RowKit Sx

theorem sum_in (n m : Nat) (h : n + m ≤ 4611686018427387904) : wrap64 ((n : Int) + ((m : Int) + 1)) = (n : Int) + ((m : Int) + 1) ∧ IntKind.i64.wrap ((n : Int) + ((m : Int) + 1)) = (n : Int) + ((m : Int) + 1) :=
  ⟨wrap64_in (by omega) (by omega), (IntKind.wrap_i64 _).trans (by omega)⟩

/-- a term as a value -/
abbrev TV (k : Int) (t : List UInt8) (o : Int) (A : Option Addr) (n c : Nat) : Value := .agg #[.int .i64 k, .string ⟨t.toArray⟩, .int .i64 o, .slice A n c]

end Go.Proofs.Ytpdigaankmgagaa
