/- telref1's bytes: letters, digits, bytes of words. No condition. -/
import Derived.Test.YtnidngpenhblcaaDoorUtil
import Derived.Test.YtnidngpenhblcaaDoorSx
set_option linter.unusedVariables false
set_option linter.unusedSimpArgs false
namespace Go.Proofs.YtnidngpenhblcaaDoor
open Go.RowKit Sx

theorem rIsLetter_any (n : Int) (w : World) (h0 : 0 ≤ n) (h1 : n ≤ 255) :
    Calls Tryd.prog 95 #[.int .u8 n] w fun e w' => e = .returned (.bool (letterB n)) ∧ w = w' := by
  go_enter Tryd.func95, Tryd.ntmps95
  go_wp2
  all_goals go_ret
  all_goals exact ⟨ret_bool (by rw [Bool.eq_iff_iff]; simp [letterB] <;> omega), rfl⟩
theorem rIsDigit_any (n : Int) (w : World) (h0 : 0 ≤ n) (h1 : n ≤ 255) :
    Calls Tryd.prog 121 #[.int .u8 n] w fun e w' => e = .returned (.bool (digitB n)) ∧ w = w' := by
  go_enter Tryd.func121, Tryd.ntmps121
  go_wp2
  all_goals go_ret
  all_goals exact ⟨ret_bool (by rw [Bool.eq_iff_iff]; simp [digitB] <;> omega), rfl⟩
theorem rIsWordByte_any (n : Int) (w : World) (h0 : 0 ≤ n) (h1 : n ≤ 255) :
    Calls Tryd.prog 96 #[.int .u8 n] w fun e w' => e = .returned (.bool (wordB n)) ∧ w = w' := by
  go_enter Tryd.func96, Tryd.ntmps96
  go_wp2_with (first | (go_at_call 95; refine (rIsLetter_any _ _ (by assumption) (by assumption)).mono ?_; rintro e w' ⟨rfl, rfl⟩) | (go_at_call 121; refine (rIsDigit_any _ _ (by assumption) (by assumption)).mono ?_; rintro e w' ⟨rfl, rfl⟩))
  all_goals go_ret
  all_goals exact ⟨ret_bool (by rw [Bool.eq_iff_iff]; simp_all [wordB]), rfl⟩
theorem rIsWordByte_yes (n : Int) (w : World) (h0 : 0 ≤ n) (h1 : n ≤ 255) (h : wordB n = true) :
    Calls Tryd.prog 96 #[.int .u8 n] w fun e w' => e = .returned (.bool true) ∧ w = w' :=
  (rIsWordByte_any n w h0 h1).mono fun _ _ ⟨he, hw⟩ => ⟨by rw [he, h], hw⟩
theorem rIsWordByte_no (n : Int) (w : World) (h0 : 0 ≤ n) (h1 : n ≤ 255) (h : wordB n = false) :
    Calls Tryd.prog 96 #[.int .u8 n] w fun e w' => e = .returned (.bool false) ∧ w = w' :=
  (rIsWordByte_any n w h0 h1).mono fun _ _ ⟨he, hw⟩ => ⟨by rw [he, h], hw⟩
end Go.Proofs.YtnidngpenhblcaaDoor
