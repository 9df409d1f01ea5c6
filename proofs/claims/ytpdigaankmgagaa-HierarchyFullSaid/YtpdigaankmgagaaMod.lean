/- telmake.Mod: a residue. No condition but that the modulus is small and positive. -/
import Derived.Test.YtpdigaankmgagaaUtil
set_option linter.unusedVariables false
set_option linter.unusedSimpArgs false
namespace Go.Proofs.Ytpdigaankmgagaa
open Go.RowKit

/-- A drawn region is stood at: the walk goes no further. -/
theorem stop_region {P : Program} (id : Nat) {ops : Array Oper} {b : Bool} {Q : Exit → Act → World → Prop} {a : Act} {w : World} (h : Hid ((Code.region id ops b).wp P Q a w)) : (Code.region id ops b).wp P Q a w := h

theorem tmod_bounds (n m : Int) (hm : 0 < m) : -m < n.tmod m ∧ n.tmod m < m := by
  have h1 := Int.tmod_lt_of_pos n hm
  have h2 := Int.lt_tmod_of_pos n hm
  exact ⟨h2, h1⟩

def modI (n m : Int) : Int := if n.tmod m < 0 then n.tmod m + m else n.tmod m

theorem modI_bounds (n m : Int) (hm : 0 < m) : 0 ≤ modI n m ∧ modI n m < m := by
  obtain ⟨h1, h2⟩ := tmod_bounds n m hm
  unfold modI
  split <;> omega

theorem mod_any (n m : Int) (w : World) (hm : 0 < m) (hm2 : m ≤ 65536) :
    Calls Try.prog 6 #[.int .i64 n, .int .i64 m] w fun e w' => e = .returned (.int .i64 (modI n m)) ∧ w = w' := by
  obtain ⟨h1, h2⟩ := tmod_bounds n m hm
  have hne : ¬ m = 0 := by omega
  unfold modI
  generalize hk : n.tmod m = k at *
  by_cases h0 : k < 0
  · rw [if_pos h0]
    go_enter Try.func6, Try.ntmps6
    go_wp2
    go_ret
    exact ⟨rfl, rfl⟩
  · rw [if_neg h0]
    go_enter Try.func6, Try.ntmps6
    go_wp2
    go_ret
    exact ⟨rfl, rfl⟩
end Go.Proofs.Ytpdigaankmgagaa
