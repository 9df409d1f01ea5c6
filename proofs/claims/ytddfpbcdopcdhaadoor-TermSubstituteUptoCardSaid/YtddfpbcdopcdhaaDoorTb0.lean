/- telref1.binders. No condition. -/
import Derived.Test.YtddfpbcdopcdhaaDoorTcl
set_option linter.unusedVariables false
set_option linter.unusedSimpArgs false
namespace Go.Proofs.YtddfpbcdopcdhaaDoor
open Go.RowKit Sx

theorem binders_any (k o : Int) (i : Nat) (t : List UInt8) (A : Option Addr) (n c : Nat) (w : World) :
    Calls Tryd.prog 50 #[.agg #[.int .i64 k, .string ⟨t.toArray⟩, .int .i64 o, .slice A n c], .int .i64 (i : Int)] w fun e w' => e = .returned (.int .i64 (aroundB k i 0)) ∧ BH w w' := by
  obtain ⟨b0, b1, b2, b3⟩ := box4 w (.int .i64 k) (.string ⟨t.toArray⟩) (.int .i64 o) (.slice A n c) 25
  have B1 : BH w (w.alloc (.cells #[.int .i64 k, .string ⟨t.toArray⟩, .int .i64 o, .slice A n c] 25 (0, 0))) := (Below.refl _ _).alloc (Nat.le_refl _) _
  have HB := Lib.hid B1
  clear B1
  by_cases hk : k = 6
  · subst hk
    by_cases hi : i = 1
    · subst hi
      rw [show aroundB 6 1 0 = 1 from by simp [aroundB]]
      go_enter Tryd.func50, Tryd.ntmps50
      go_wp2_with (fail)
      go_ret
      exact ⟨rfl, HB.out⟩
    · have t1 : ((i : Int) == 1) = false := by rw [beq_eq_false_iff_ne]; omega
      rw [show aroundB 6 i 0 = 0 from by simp [aroundB, hi]]
      go_enter Tryd.func50, Tryd.ntmps50
      go_wp2_with (fail)
      go_ret
      exact ⟨rfl, HB.out⟩
  · have t1 : (k == 6) = false := by simp [hk]
    rw [show aroundB k i 0 = 0 from by simp [aroundB, hk]]
    go_enter Tryd.func50, Tryd.ntmps50
    go_wp2_with (fail)
    go_ret
    exact ⟨rfl, HB.out⟩
end Go.Proofs.YtddfpbcdopcdhaaDoor
