/- telref1.binders, telref1.IsTypeKeyword. No condition. -/
import Derived.Test.YtnidngpenhblcaaDoorTcl
import Derived.Test.YtnidngpenhblcaaDoorIdp
set_option linter.unusedVariables false
set_option linter.unusedSimpArgs false
namespace Go.Proofs.YtnidngpenhblcaaDoor
open Go.RowKit Sx

theorem binders_any (k o : Int) (i : Nat) (t : List UInt8) (A : Option Addr) (n c : Nat) (w : World) :
    Calls Tryd.prog 74 #[.agg #[.int .i64 k, .string ⟨t.toArray⟩, .int .i64 o, .slice A n c], .int .i64 (i : Int)] w fun e w' => e = .returned (.int .i64 (aroundB k i 0)) ∧ BH w w' := by
  obtain ⟨b0, b1, b2, b3⟩ := box4 w (.int .i64 k) (.string ⟨t.toArray⟩) (.int .i64 o) (.slice A n c) 25
  have B1 : BH w (w.alloc (.cells #[.int .i64 k, .string ⟨t.toArray⟩, .int .i64 o, .slice A n c] 25 (0, 0))) := (Below.refl _ _).alloc (Nat.le_refl _) _
  have HB := Lib.hid B1
  clear B1
  by_cases hk : k = 6
  · subst hk
    by_cases hi : i = 1
    · subst hi
      rw [show aroundB 6 1 0 = 1 from by simp [aroundB]]
      go_enter Tryd.func74, Tryd.ntmps74
      go_wp2_with (fail)
      go_ret
      exact ⟨rfl, HB.out⟩
    · have t1 : ((i : Int) == 1) = false := by rw [beq_eq_false_iff_ne]; omega
      rw [show aroundB 6 i 0 = 0 from by simp [aroundB, hi]]
      go_enter Tryd.func74, Tryd.ntmps74
      go_wp2_with (fail)
      go_ret
      exact ⟨rfl, HB.out⟩
  · have t1 : (k == 6) = false := by simp [hk]
    rw [show aroundB k i 0 = 0 from by simp [aroundB, hk]]
    go_enter Tryd.func74, Tryd.ntmps74
    go_wp2_with (fail)
    go_ret
    exact ⟨rfl, HB.out⟩

set_option maxHeartbeats 1000000 in
theorem isTypeKeyword_any (s : ByteArray) (w : World) {V : Bool} (hV : kwL.contains s.data.toList = V) :
    Calls Tryd.prog 82 #[.string s] w fun e w' => e = .returned (.bool V) ∧ w = w' := by
  subst hV
  have ext : ∀ l : List UInt8, s.data.toList = l → s = ⟨l.toArray⟩ := fun l h => by
    apply ByteArray.ext
    apply Array.ext'
    rw [h]
  by_cases h1 : s.data.toList = [65, 110, 121]
  · obtain rfl := ext _ h1
    clear ext
    go_enter Tryd.func82, Tryd.ntmps82
    go_wp2_with (fail)
    go_ret
    exact ⟨rfl, rfl⟩
  by_cases h2 : s.data.toList = [78, 101, 118, 101, 114]
  · obtain rfl := ext _ h2
    clear ext
    go_enter Tryd.func82, Tryd.ntmps82
    go_wp2_with (fail)
    go_ret
    exact ⟨rfl, rfl⟩
  by_cases h3 : s.data.toList = [116, 117, 112, 108, 101]
  · obtain rfl := ext _ h3
    clear ext
    go_enter Tryd.func82, Tryd.ntmps82
    go_wp2_with (fail)
    go_ret
    exact ⟨rfl, rfl⟩
  by_cases h4 : s.data.toList = [117, 110, 105, 111, 110]
  · obtain rfl := ext _ h4
    clear ext
    go_enter Tryd.func82, Tryd.ntmps82
    go_wp2_with (fail)
    go_ret
    exact ⟨rfl, rfl⟩
  by_cases h5 : s.data.toList = [101, 120, 105, 115, 116, 115]
  · obtain rfl := ext _ h5
    clear ext
    go_enter Tryd.func82, Tryd.ntmps82
    go_wp2_with (fail)
    go_ret
    exact ⟨rfl, rfl⟩
  rw [show kwL.contains s.data.toList = false by simp [kwL, h1, h2, h3, h4, h5]]
  rw [← ByteArray.toList_eq] at h1 h2 h3 h4 h5
  have q1 : (s.toList == [65, 110, 121]) = false := by simpa using h1
  have q2 : (s.toList == [78, 101, 118, 101, 114]) = false := by simpa using h2
  have q3 : (s.toList == [116, 117, 112, 108, 101]) = false := by simpa using h3
  have q4 : (s.toList == [117, 110, 105, 111, 110]) = false := by simpa using h4
  have q5 : (s.toList == [101, 120, 105, 115, 116, 115]) = false := by simpa using h5
  clear ext
  go_enter Tryd.func82, Tryd.ntmps82
  go_wp2_with (fail)
  go_ret
  exact ⟨rfl, rfl⟩
end Go.Proofs.YtnidngpenhblcaaDoor
