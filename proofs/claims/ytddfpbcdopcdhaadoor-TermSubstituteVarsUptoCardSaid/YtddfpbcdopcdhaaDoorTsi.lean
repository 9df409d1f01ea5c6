/- telmake.SameInts at two slices that read as one row. No condition but a bounded length. -/
import Derived.Test.YtddfpbcdopcdhaaDoorTr0
import Derived.Test.YtddfpbcdopcdhaaDoorApp
set_option linter.unusedVariables false
set_option linter.unusedSimpArgs false
namespace Go.Proofs.YtddfpbcdopcdhaaDoor
open Go.RowKit Sx

set_option maxHeartbeats 2000000 in
theorem sameInts_any (l : List Int) (A A' : Option Addr) (c c' : Nat) (w : World) (h : Cel w 1 A l.length c (l.map (Value.int .i64))) (h' : Cel w 1 A' l.length c' (l.map (Value.int .i64))) (hl : l.length ≤ 8796093022208) :
    Calls Tryd.prog 18 #[.slice A l.length c, .slice A' l.length c'] w fun e w' => e = .returned (.bool true) ∧ BH w w' := by
  have H := Lib.hid h
  have H' := Lib.hid h'
  clear h h'
  obtain ⟨L, hL⟩ : ∃ L, l.length = L := ⟨_, rfl⟩
  rw [hL] at hl ⊢
  have HL := Lib.hid hL
  clear hL
  go_enter Tryd.func18, Tryd.ntmps18
  go_wp2_with (fail)
  go_loopw [5] (fun iv wr => ∃ i : Nat, iv = .int .i64 (i : Int) ∧ i ≤ L ∧ BH w wr) (fun iv _ => L - (match iv with | .int _ n => n.toNat | _ => 0))
  case atStart => exact ⟨0, rfl, Nat.zero_le _, BH.refl _⟩
  case round =>
    obtain ⟨i, rfl, hiL0, hbh⟩ := hrel
    by_cases hlt : i < L
    · obtain ⟨g, off, rfl, hg, q0⟩ := (H.out.bh hbh).int_at (k := i) (by rw [HL.out]; exact hlt)
      obtain ⟨g', off', rfl, hg', q1⟩ := (H'.out.bh hbh).int_at (k := i) (by rw [HL.out]; exact hlt)
      obtain ⟨x, hx⟩ : ∃ x, l.getD i 0 = x := ⟨_, rfl⟩
      rw [hx] at q0 q1
      have hge : decide ((i : Int) < (L : Int)) = true := by rw [decide_eq_true_eq]; omega
      have hiL : (i : Int) < (L : Int) := by omega
      have hi0 : (0 : Int) ≤ (i : Int) := by omega
      have HBh := Lib.hid hbh
      clear hx hbh
      go_wp2_with (fail)
      go_quiet (fail)
      go_wp2_with (fail)
      exact ⟨⟨i + 1, rfl, hlt, BH.trans HBh.out (below_drewN' (Below.refl _ _) _)⟩, by simp; omega⟩
    · have hge : decide ((i : Int) < (L : Int)) = false := by rw [decide_eq_false_iff_not]; omega
      have hge2 : decide (i < L) = false := by rw [decide_eq_false_iff_not]; omega
      have HBh := Lib.hid hbh
      clear hbh
      go_wp2_with (fail)
      go_ret
      exact ⟨rfl, HBh.out⟩

end Go.Proofs.YtddfpbcdopcdhaaDoor
