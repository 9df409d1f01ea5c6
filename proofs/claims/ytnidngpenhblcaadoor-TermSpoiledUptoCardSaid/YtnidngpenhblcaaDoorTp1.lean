/- What the laws over one arbitrary term have in common: a term in its box; the size of a term that AnyTerm answers; its names. No condition. -/
import Derived.Test.YtnidngpenhblcaaDoorTlw
import Derived.Deep.CutBlock
set_option linter.unusedVariables false
set_option linter.unusedSimpArgs false
namespace Go.Proofs.YtnidngpenhblcaaDoor.TL
open Go.RowKit Sx

/-- a term in its box -/
structure P1 (w X : World) (N : Nat) (k o : Int) (t : List UInt8) (kids : Fo) (A : Option Addr) (c : Nat) : Prop where
  r0 : X.heap[N]? = some (.cells #[.int .i64 k, .string ⟨t.toArray⟩, .int .i64 o, .slice A kids.len c] 25 (0, 0))
  k0 : KT X kids A c
  bel : Below w.heap.size w X
theorem P1.below {w X X' : World} {N : Nat} {k o : Int} {t : List UInt8} {kids : Fo} {A : Option Addr} {c : Nat} (h : P1 w X N k o t kids A c) (hb : Below X.heap.size X X') : P1 w X' N k o t kids A c :=
  ⟨(hb.block _ (heap_lt h.r0)).trans h.r0, h.k0.below hb, h.bel.trans (hb.mono h.bel.size)⟩
theorem P1.cells {w X : World} {N : Nat} {k o : Int} {t : List UInt8} {kids : Fo} {A : Option Addr} {c : Nat} (h : P1 w X N k o t kids A c) :
    X.cell? ⟨N, 0, none⟩ = some (.int .i64 k) ∧ X.cell? ⟨N, 1, none⟩ = some (.string ⟨t.toArray⟩) ∧ X.cell? ⟨N, 2, none⟩ = some (.int .i64 o) ∧ X.cell? ⟨N, 3, none⟩ = some (.slice A kids.len c) := by
  obtain ⟨a0, a1, a2, a3, _⟩ := row4 h.r0
  exact ⟨a0, a1, a2, a3⟩

theorem kids_okA5 {W : List (List UInt8)} {k o : Int} {t : List UInt8} {kids : Fo} (h : okA W 5 (.one k t kids o)) : fsize kids ≤ 1073741824 := by
  have := size_okA (W := W) kids 4 h.1.2.2.2
  have h8 : kids.len * (1 + KB 4) ≤ 8 * (1 + KB 4) := Nat.mul_le_mul_right _ h.1.2.1
  have : KB 4 = 4680 := by decide
  omega
theorem okA_len {W : List (List UInt8)} (hW : ∀ s ∈ W, s.length ≤ 1048576) (f : Fo) : ∀ d, okA W d f → lenT f := by
  induction f with
  | nil => intro d _; trivial
  | cons k t kids o r ihk ihr =>
    intro d h
    obtain ⟨⟨ht, _, _, hk⟩, hr⟩ := h
    refine ⟨?_, ihk _ hk, ihr _ hr⟩
    rcases ht with rfl | ht
    · exact Nat.zero_le _
    · exact hW _ ht
end Go.Proofs.YtnidngpenhblcaaDoor.TL
