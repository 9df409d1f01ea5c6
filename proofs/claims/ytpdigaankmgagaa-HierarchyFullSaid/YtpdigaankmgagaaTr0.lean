/- A slice that reads as integers, cell by cell; blocks of the call's own. No condition. -/
import Derived.Test.YtpdigaankmgagaaApp
import Derived.Test.YtpdigaankmgagaaTrq
set_option linter.unusedVariables false
set_option linter.unusedSimpArgs false
namespace Go.Proofs.Ytpdigaankmgagaa
open Go.RowKit Sx

theorem Cel.int_at {w : World} {A : Option Addr} {l : List Int} {c k : Nat} (h : Cel w 1 A l.length c (l.map (Value.int .i64))) (hk : k < l.length) :
    ∃ g off : Nat, A = some ⟨g, off, none⟩ ∧ g < w.heap.size ∧ w.cell? ⟨g, off + k, none⟩ = some (.int .i64 (l.getD k 0)) := by
  obtain ⟨_, _, _, _, h5⟩ := h
  obtain ⟨g, off, e, hg, hc⟩ := h5 (by omega)
  exact ⟨g, off, e, hg, hc k _ (by simp [hk])⟩
theorem one_cell (l : List Int) : ∀ u ∈ l.map (Value.int .i64), u.oneCell' = true := by
  intro u hu
  obtain ⟨x, _, rfl⟩ := List.mem_map.1 hu
  rfl

theorem bh_alloc {w X : World} (h : BH w X) (o : Obj) : BH w (X.alloc o) := Below.alloc h (Below.size h) o
theorem bh_own {w X Y : World} {row : Option Nat} (h : BH w X) (k : X.grownBy Y row) (hr : ∀ q, row = some q → w.heap.size ≤ q) : BH w Y :=
  ⟨k.os.trans (Below.os h), k.tape.trans (Below.tape h), k.output.trans (Below.output h), Nat.le_trans (Below.size h) k.size,
   fun i hi => (k.block i (Nat.lt_of_lt_of_le hi (Below.size h)) (fun e => by have := hr i e.symm; omega)).trans (Below.block h i hi)⟩
end Go.Proofs.Ytpdigaankmgagaa
