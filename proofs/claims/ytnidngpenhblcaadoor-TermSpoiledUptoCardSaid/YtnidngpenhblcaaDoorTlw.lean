/- What the laws over terms have in common: integers that came in, the names, a stream over the integers; the size of a term that AnyTerm answers. No condition. -/
import Derived.Test.YtnidngpenhblcaaDoorLaid
import Derived.Test.YtnidngpenhblcaaDoorTat
import Derived.Test.YtnidngpenhblcaaDoorTck
set_option linter.unusedVariables false
set_option linter.unusedSimpArgs false
namespace Go.Proofs.YtnidngpenhblcaaDoor.TL
open Go.RowKit Sx

/-- what is told of a slice of integers that came in -/
def IsRow (k : IntKind) (w : World) (a : Option Addr) (len cap : Nat) (zs : List Int) : Prop :=
  (a = none ∧ len = 0 ∧ cap = 0 ∧ zs = []) ∨
  ∃ x, a = some x ∧ len ≤ cap ∧ cap ≤ maxLen ∧ zs.length = cap ∧ (∀ i, i < zs.length → w.cell? (x.add i) = some (.int k (zs.getD i 0))) ∧ ∀ n ∈ zs, (Lit.int k n).wf = true

theorem lt_of_cell {w : World} {p : Addr} {v : Value} (h : w.cell? p = some v) : p.block < w.heap.size := by
  rcases Nat.lt_or_ge p.block w.heap.size with hh | hh
  · exact hh
  · unfold World.cell? at h
    rw [Array.getElem?_eq_none hh] at h
    split at h
    · rename_i heq; cases heq
    · cases h

theorem IsRow.ints {w : World} {a : Option Addr} {len cap : Nat} {zs : List Int} (h : IsRow .i64 w a len cap zs) : len ≤ maxLen ∧ Ints w a len zs := by
  rcases h with ⟨rfl, rfl, rfl, rfl⟩ | ⟨x, rfl, hl, hm, hz, hcell, hwz⟩
  · exact ⟨Nat.zero_le _, fun h => absurd h (by omega)⟩
  · refine ⟨by omega, fun hp => ?_⟩
    obtain ⟨b, off, spot⟩ := x
    have hc := hcell 0 (by omega)
    have hspot : spot = none := by simpa [Addr.add] using World.cell?_spot hc
    subst hspot
    have e : ∀ i, (⟨b, off, none⟩ : Addr).add i = ⟨b, off + i, none⟩ := by
      intro i
      unfold Addr.add
      split
      · rename_i h; rw [h]; rfl
      · rfl
    refine ⟨b, off, rfl, ?_, fun i hi => ?_⟩
    · have := lt_of_cell hc
      rwa [blk_add] at this
    · rw [← e]
      exact hcell i (by omega)

/-- a table, whatever the stream's block -/
structure TabW (w : World) (v n : Nat) (S : List (List UInt8)) (g o c : Nat) : Prop where
  head : w.cell? ⟨v, 0, none⟩ = some (.slice (some ⟨g, o, none⟩) n c)
  row : ∀ i : Nat, i < n → ∃ s : List UInt8, s ∈ S ∧ w.cell? ⟨g, o + i, none⟩ = some (.string ⟨s.toArray⟩)
  pos : 0 < n ∧ n ≤ 65536
theorem TabW.lt {w : World} {v n : Nat} {S : List (List UInt8)} {g o c : Nat} (h : TabW w v n S g o c) : v < w.heap.size ∧ g < w.heap.size := by
  obtain ⟨s, _, hc⟩ := h.row 0 h.pos.1
  exact ⟨lt_of_cell h.head, lt_of_cell hc⟩
theorem TabW.tab {w0 w : World} {b v n : Nat} {S : List (List UInt8)} {g o c : Nat} (h : TabW w0 v n S g o c) (hB : Below w0.heap.size w0 w) (hb : w0.heap.size ≤ b) : Tab w b v n S g o c := by
  obtain ⟨h1, h2⟩ := h.lt
  have hs := hB.size
  exact ⟨(World.cell?_of_block (hB.block v h1)).trans h.head, fun i hi => by
    obtain ⟨s, hs, hc⟩ := h.row i hi
    exact ⟨s, hs, (World.cell?_of_block (hB.block g h2)).trans hc⟩, by omega, by omega, by omega, by omega, h.pos⟩

theorem gen_newT {w0 w : World} {a : Option Addr} {len cap : Nat} {zs : List Int} {W : List (List UInt8)} {g o c : Nat} (hB : Below w0.heap.size w0 w) (hl : len ≤ maxLen) (hI : Ints w0 a len zs) (hW : TabW w0 0 11 W g o c) :
    GenT (w.alloc (.cells #[.slice a len cap, .int .i64 0] 55)) ⟨w.heap.size, a, len, cap, zs, W, g, o, c⟩ := by
  have hs := hB.size
  have hB' := hB.alloc hs (.cells #[.slice a len cap, .int .i64 0] 55)
  refine ⟨⟨0, heap_alloc_new w _, ?_, ?_, Nat.zero_le _, hl⟩, hW.tab hB' hs⟩
  · exact hI.keep hB'.size fun g off _ hl => hB'.block g hl
  · intro hp g off e
    obtain ⟨g', off', e', hlt, _⟩ := hI hp
    have e2 : some (⟨g, off, none⟩ : Addr) = some ⟨g', off', none⟩ := e.symm.trans e'
    cases e2
    show g ≠ w.heap.size
    omega

def KB : Nat → Nat
  | 0 => 0
  | d + 1 => 8 * (1 + KB d)
theorem size_okA {W : List (List UInt8)} (f : Fo) : ∀ d, okA W d f → fsize f ≤ f.len * (1 + KB d) := by
  induction f with
  | nil => intro d _; simp [fsize, Fo.len]
  | cons k t kids o r ihk ihr =>
    intro d h
    obtain ⟨⟨_, h8, h0, hk⟩, hr⟩ := h
    have h1 := ihr d hr
    have h2 : fsize kids ≤ KB d := by
      cases d with
      | zero => rw [h0 rfl]; simp [fsize]
      | succ d =>
        have := ihk d hk
        have h3 : kids.len * (1 + KB d) ≤ 8 * (1 + KB d) := Nat.mul_le_mul_right _ h8
        simp only [KB]
        omega
    simp only [fsize, Fo.len, Nat.add_mul, Nat.one_mul]
    omega
theorem kids_okA {W : List (List UInt8)} {k o : Int} {t : List UInt8} {kids : Fo} (h : okA W 4 (.one k t kids o)) : fsize kids ≤ 1073741824 := by
  have := size_okA (W := W) kids 3 h.1.2.2.2
  have h8 : kids.len * (1 + KB 3) ≤ 8 * (1 + KB 3) := Nat.mul_le_mul_right _ h.1.2.1
  have : KB 3 = 584 := by decide
  omega
end Go.Proofs.YtnidngpenhblcaaDoor.TL
