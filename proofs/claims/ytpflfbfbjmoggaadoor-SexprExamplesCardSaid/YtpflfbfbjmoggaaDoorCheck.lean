/- tellaw1.check: the sanity check of chapter 1 holds. -/
import Derived.Test.YtpflfbfbjmoggaaDoorParse
import Derived.KernelRfl
set_option linter.unusedVariables false
set_option linter.unusedSimpArgs false
namespace Go.Proofs.YtpflfbfbjmoggaaDoor
open Go.RowKit Sx

def checkFo : Fo := .cons 3 [] (.cons 1 [97, 100, 100] .nil 1 (.cons 1 [120] .nil 5 (.cons 2 [97, 32, 98] .nil 7 .nil))) 0 .nil

theorem parse_check : parseR [40, 97, 100, 100, 32, 120, 32, 34, 97, 32, 98, 34, 41, 32, 59, 32, 115, 117, 109] = .ok checkFo 19 := by kernel_rfl

set_option maxHeartbeats 2000000 in
set_option maxRecDepth 100000 in
theorem check_any (w : World) : Calls Tryd.prog 14 #[] w fun e w' => e = .returned (.bool true) ∧ Below w.heap.size w w' := by
  go_enter Tryd.func14, Tryd.ntmps14
  go_wp2_with (fail)
  refine (parse_any _ _ (by decide)).mono ?_
  intro e w1 hpost
  unfold ParsePost at hpost
  have hp : parseR (ByteArray.mk #[40, 97, 100, 100, 32, 120, 32, 34, 97, 32, 98, 34, 41, 32, 59, 32, 115, 117, 109]).data.toList = .ok checkFo 19 := parse_check
  rw [hp] at hpost
  obtain ⟨⟨v, rfl, hsl⟩, hb⟩ := hpost
  obtain ⟨A, c, xs, rfl, hc, hr, hx⟩ := hsl
  clear hp
  obtain ⟨g, off, rfl, _, hlt, hcell⟩ := hr (by decide)
  obtain ⟨A1, c1, ys, zs, rfl, hc1, hr1, hy, _⟩ := hx
  obtain ⟨g1, off1, rfl, _, hlt1, hcell1⟩ := hr1 (by decide)
  obtain ⟨A2, c2, ys2, zs2, rfl, _, _, _, hz2⟩ := hy
  obtain ⟨A3, c3, ys3, zs3, rfl, _, _, _, hz3⟩ := hz2
  obtain ⟨A4, c4, ys4, zs4, rfl, _, _, _, _⟩ := hz3
  have a0 := hcell 0 _ rfl
  have a2 := hcell 2 _ rfl
  have b7 := hcell1 7 _ rfl
  have b9 := hcell1 9 _ rfl
  rw [Nat.add_zero] at a0
  have hl1 : checkFo.len = 1 := rfl
  rw [hl1]
  clear hcell hcell1 hc hc1
  go_wp2_with (fail)
  go_ret
  exact ⟨rfl, hb.alloc hb.size _⟩
end Go.Proofs.YtpflfbfbjmoggaaDoor
