/- telref1's bytes: letters, digits, bytes of words. No condition. -/
import Derived.Test.YtnidngpenhblcaaUtil
import Derived.Test.YtnidngpenhblcaaSx
set_option linter.unusedVariables false
set_option linter.unusedSimpArgs false
namespace Go.Proofs.Ytnidngpenhblcaa
open Go.RowKit Sx

theorem rIsLetter_any (n : Int) (w : World) (h0 : 0 ≤ n) (h1 : n ≤ 255) :
    Calls Try.prog 56 #[.int .u8 n] w fun e w' => e = .returned (.bool (letterB n)) ∧ w = w' := by
  go_enter Try.func56, Try.ntmps56
  go_wp2
  all_goals go_ret
  all_goals exact ⟨ret_bool (by rw [Bool.eq_iff_iff]; simp [letterB] <;> omega), rfl⟩
theorem rIsDigit_any (n : Int) (w : World) (h0 : 0 ≤ n) (h1 : n ≤ 255) :
    Calls Try.prog 62 #[.int .u8 n] w fun e w' => e = .returned (.bool (digitB n)) ∧ w = w' := by
  go_enter Try.func62, Try.ntmps62
  go_wp2
  all_goals go_ret
  all_goals exact ⟨ret_bool (by rw [Bool.eq_iff_iff]; simp [digitB] <;> omega), rfl⟩
theorem rIsWordByte_any (n : Int) (w : World) (h0 : 0 ≤ n) (h1 : n ≤ 255) :
    Calls Try.prog 57 #[.int .u8 n] w fun e w' => e = .returned (.bool (wordB n)) ∧ w = w' := by
  go_enter Try.func57, Try.ntmps57
  go_wp2_with (first | (go_at_call 56; refine (rIsLetter_any _ _ (by assumption) (by assumption)).mono ?_; rintro e w' ⟨rfl, rfl⟩) | (go_at_call 62; refine (rIsDigit_any _ _ (by assumption) (by assumption)).mono ?_; rintro e w' ⟨rfl, rfl⟩))
  all_goals go_ret
  all_goals exact ⟨ret_bool (by rw [Bool.eq_iff_iff]; simp_all [wordB]), rfl⟩
theorem rIsWordByte_yes (n : Int) (w : World) (h0 : 0 ≤ n) (h1 : n ≤ 255) (h : wordB n = true) :
    Calls Try.prog 57 #[.int .u8 n] w fun e w' => e = .returned (.bool true) ∧ w = w' :=
  (rIsWordByte_any n w h0 h1).mono fun _ _ ⟨he, hw⟩ => ⟨by rw [he, h], hw⟩
theorem rIsWordByte_no (n : Int) (w : World) (h0 : 0 ≤ n) (h1 : n ≤ 255) (h : wordB n = false) :
    Calls Try.prog 57 #[.int .u8 n] w fun e w' => e = .returned (.bool false) ∧ w = w' :=
  (rIsWordByte_any n w h0 h1).mono fun _ _ ⟨he, hw⟩ => ⟨by rw [he, h], hw⟩
end Go.Proofs.Ytnidngpenhblcaa
