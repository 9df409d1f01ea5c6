/- What the laws over terms have in common: integers that came in, a table of strings. No condition. -/
import Derived.Test.YtddfpbcdopcdhaaDoorLaid
import Derived.Test.YtddfpbcdopcdhaaDoorTck
set_option linter.unusedVariables false
set_option linter.unusedSimpArgs false
namespace Go.Proofs.YtddfpbcdopcdhaaDoor.TL
open Go.RowKit Sx

/-- what is told of a slice of integers that came in -/
def IsRow (k : IntKind) (w : World) (a : Option Addr) (len cap : Nat) (zs : List Int) : Prop :=
  (a = none ∧ len = 0 ∧ cap = 0 ∧ zs = []) ∨
  ∃ x, a = some x ∧ len ≤ cap ∧ cap ≤ maxLen ∧ zs.length = cap ∧ (∀ i, i < zs.length → w.cell? (x.add i) = some (.int k (zs.getD i 0))) ∧ ∀ n ∈ zs, (Lit.int k n).wf = true

theorem lt_of_cell {w : World} {p : Addr} {v : Value} (h : w.cell? p = some v) : p.block < w.heap.size := by
  rcases Nat.lt_or_ge p.block w.heap.size with hh | hh
  · exact hh
  · unfold World.cell? at h
    rw [Array.getElem?_eq_none hh] at h
    split at h
    · rename_i heq; cases heq
    · cases h

theorem IsRow.ints {w : World} {a : Option Addr} {len cap : Nat} {zs : List Int} (h : IsRow .i64 w a len cap zs) : len ≤ maxLen ∧ Ints w a len zs := by
  rcases h with ⟨rfl, rfl, rfl, rfl⟩ | ⟨x, rfl, hl, hm, hz, hcell, hwz⟩
  · exact ⟨Nat.zero_le _, fun h => absurd h (by omega)⟩
  · refine ⟨by omega, fun hp => ?_⟩
    obtain ⟨b, off, spot⟩ := x
    have hc := hcell 0 (by omega)
    have hspot : spot = none := by simpa [Addr.add] using World.cell?_spot hc
    subst hspot
    have e : ∀ i, (⟨b, off, none⟩ : Addr).add i = ⟨b, off + i, none⟩ := by
      intro i
      unfold Addr.add
      split
      · rename_i h; rw [h]; rfl
      · rfl
    refine ⟨b, off, rfl, ?_, fun i hi => ?_⟩
    · have := lt_of_cell hc
      rwa [blk_add] at this
    · rw [← e]
      exact hcell i (by omega)

/-- a table, whatever the stream's block -/
structure TabW (w : World) (v n : Nat) (S : List (List UInt8)) (g o c : Nat) : Prop where
  head : w.cell? ⟨v, 0, none⟩ = some (.slice (some ⟨g, o, none⟩) n c)
  row : ∀ i : Nat, i < n → ∃ s : List UInt8, s ∈ S ∧ w.cell? ⟨g, o + i, none⟩ = some (.string ⟨s.toArray⟩)
  pos : 0 < n ∧ n ≤ 65536
theorem TabW.lt {w : World} {v n : Nat} {S : List (List UInt8)} {g o c : Nat} (h : TabW w v n S g o c) : v < w.heap.size ∧ g < w.heap.size := by
  obtain ⟨s, _, hc⟩ := h.row 0 h.pos.1
  exact ⟨lt_of_cell h.head, lt_of_cell hc⟩
theorem TabW.tab {w0 w : World} {b v n : Nat} {S : List (List UInt8)} {g o c : Nat} (h : TabW w0 v n S g o c) (hB : Below w0.heap.size w0 w) (hb : w0.heap.size ≤ b) : Tab w b v n S g o c := by
  obtain ⟨h1, h2⟩ := h.lt
  have hs := hB.size
  exact ⟨(World.cell?_of_block (hB.block v h1)).trans h.head, fun i hi => by
    obtain ⟨s, hs, hc⟩ := h.row i hi
    exact ⟨s, hs, (World.cell?_of_block (hB.block g h2)).trans hc⟩, by omega, by omega, by omega, by omega, h.pos⟩
end Go.Proofs.YtddfpbcdopcdhaaDoor.TL
