/- A row of bytes of one's own, converted to a string. No condition. -/
import Derived.Test.YtpdigaankmgagaaUtil
import Derived.Maps.AppendAt
import Derived.Lib.UnsafeStr
set_option linter.unusedVariables false
set_option linter.unusedSimpArgs false
namespace Go.Proofs.Ytpdigaankmgagaa
open Go.RowKit

theorem infoU8 : (Try.prog.info? 5).map (fun i => (i.zero, i.size, i.bytes)) = some (some (.int .u8 0), 1, 1) := by kernel_rfl

theorem conv_own (W w : World) (base : Nat) (v : Value) (l : List UInt8) (h : w.ownsRow base 5 1 v l.length (Lib.byteCells l)) (hk : ∀ g, v.ownBlock = some g → W.heap[g]? = w.heap[g]?) :
    (convert 66 9 v).run Try.prog W = .ok (.string ⟨l.toArray⟩) W := by
  rcases h.2 with ⟨rfl, h0⟩ | ⟨g, cap, cur, rfl, hb, hg, hnc, _, hcs, htake⟩
  · rw [run_convert_bytes_nil W 66 5 Try.underlying66 Try.underlying5 0 0 9 Try.underlying9]
    have : l = [] := List.eq_nil_of_length_eq_zero h0
    subst this
    rfl
  · refine run_convert_bytes_back W 66 9 5 _ cap l Try.underlying66 Try.underlying5 Try.underlying9 fun j hj => ?_
    have hc := h.cells (g := g) rfl j (.int .u8 (l[j].toNat : Int)) (by simp [Lib.byteCells, hj])
    rw [← hc]
    refine World.cell?_of_block ?_
    have e : ((⟨g, 0, none⟩ : Addr).add j).block = g := by unfold Addr.add; split <;> rfl
    rw [e]
    exact hk g rfl

end Go.Proofs.Ytpdigaankmgagaa
