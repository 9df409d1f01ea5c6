/- A term's box, stored into cell by cell. No condition. -/
import Derived.Test.YtpdigaankmgagaaTMem
set_option linter.unusedVariables false
set_option linter.unusedSimpArgs false
namespace Go.Proofs.Ytpdigaankmgagaa
open Go.RowKit Sx

theorem s4 {w : World} {N : Nat} {t : TypeId} {x y z u : Value} (h : w.heap[N]? = some (.cells #[x, y, z, u] t (0, 0))) (a b c d : Value) :
    ((((w.setCell ⟨N, 0, none⟩ a).setCell ⟨N, 1, none⟩ b).setCell ⟨N, 2, none⟩ c).setCell ⟨N, 3, none⟩ d).heap[N]? = some (.cells #[a, b, c, d] t (0, 0)) := by
  have h0 := heap_set (i := 0) h a
  have h1 := heap_set (i := 1) h0 b
  have h2 := heap_set (i := 2) h1 c
  exact heap_set (i := 3) h2 d
theorem s4_far {w : World} {N x : Nat} (hx : x ≠ N) (a b c d : Value) :
    ((((w.setCell ⟨N, 0, none⟩ a).setCell ⟨N, 1, none⟩ b).setCell ⟨N, 2, none⟩ c).setCell ⟨N, 3, none⟩ d).heap[x]? = w.heap[x]? :=
  (heap_far (p := ⟨N, 3, none⟩) hx d).trans ((heap_far (p := ⟨N, 2, none⟩) hx c).trans ((heap_far (p := ⟨N, 1, none⟩) hx b).trans (heap_far (p := ⟨N, 0, none⟩) hx a)))
theorem s4_gb {w0 w : World} {b N : Nat} (h : w0.grownBy w (some b)) (hN : w0.heap.size ≤ N) (x y z u : Value) :
    w0.grownBy ((((w.setCell ⟨N, 0, none⟩ x).setCell ⟨N, 1, none⟩ y).setCell ⟨N, 2, none⟩ z).setCell ⟨N, 3, none⟩ u) (some b) := by
  refine gb_setCell ?_ (.inr hN) _
  refine gb_setCell ?_ (.inr hN) _
  refine gb_setCell ?_ (.inr hN) _
  exact gb_setCell h (.inr hN) _

theorem reads_nil (w : World) (S : Nat → Prop) : readsAt w S none 0 [] := fun h => absurd h (by omega)

theorem infoTg : (Try.prog.info? 31).map (fun i => (i.zero, i.size, i.bytes)) = some (some (.agg #[.int .i64 0, .string ⟨#[]⟩, .int .i64 0, .slice none 0 0]), 4, 56) := by kernel_rfl

end Go.Proofs.Ytpdigaankmgagaa
