/- Contracts of layer 1's small predicates on bytes, for every byte. -/
import Derived.Test.YtkndlbcmbfgoaaaUtil
import Derived.Test.YtkndlbcmbfgoaaaSx
set_option linter.unusedVariables false
set_option linter.unusedSimpArgs false
namespace Go.Proofs.Ytkndlbcmbfgoaaa
open Go.RowKit Sx

theorem isLetter_any (n : Int) (w : World) (h0 : 0 ≤ n) (h1 : n ≤ 255) :
    Calls Try.prog 19 #[.int .u8 n] w fun e w' => e = .returned (.bool (letterB n)) ∧ w = w' := by
  go_enter Try.func19, Try.ntmps19
  go_wp2
  all_goals go_ret
  all_goals exact ⟨ret_bool (by rw [Bool.eq_iff_iff]; simp [letterB] <;> omega), rfl⟩

theorem isDigit_any (n : Int) (w : World) (h0 : 0 ≤ n) (h1 : n ≤ 255) :
    Calls Try.prog 20 #[.int .u8 n] w fun e w' => e = .returned (.bool (digitB n)) ∧ w = w' := by
  go_enter Try.func20, Try.ntmps20
  go_wp2
  all_goals go_ret
  all_goals exact ⟨ret_bool (by rw [Bool.eq_iff_iff]; simp [digitB] <;> omega), rfl⟩

theorem isStringByte_any (n : Int) (w : World) (h0 : 0 ≤ n) (h1 : n ≤ 255) :
    Calls Try.prog 42 #[.int .u8 n] w fun e w' => e = .returned (.bool (strB n)) ∧ w = w' := by
  go_enter Try.func42, Try.ntmps42
  go_wp2
  all_goals go_ret
  all_goals exact ⟨ret_bool (by rw [Bool.eq_iff_iff]; simp [strB] <;> omega), rfl⟩

theorem mustEscape_any (n : Int) (w : World) (h0 : 0 ≤ n) (h1 : n ≤ 255) :
    Calls Try.prog 41 #[.int .u8 n] w fun e w' => e = .returned (.bool (escB n)) ∧ w = w' := by
  go_enter Try.func41, Try.ntmps41
  go_wp2
  all_goals go_ret
  all_goals exact ⟨ret_bool (by rw [Bool.eq_iff_iff]; simp [escB] <;> omega), rfl⟩

theorem isWordByte_any (n : Int) (w : World) (h0 : 0 ≤ n) (h1 : n ≤ 255) :
    Calls Try.prog 24 #[.int .u8 n] w fun e w' => e = .returned (.bool (wordB n)) ∧ w = w' := by
  go_enter Try.func24, Try.ntmps24
  go_wp2_with (first | (go_at_call 19; refine (isLetter_any _ _ (by assumption) (by assumption)).mono ?_; rintro e w' ⟨rfl, rfl⟩) | (go_at_call 20; refine (isDigit_any _ _ (by assumption) (by assumption)).mono ?_; rintro e w' ⟨rfl, rfl⟩))
  all_goals go_ret
  all_goals exact ⟨ret_bool (by rw [Bool.eq_iff_iff]; simp_all [wordB]), rfl⟩
theorem isWordByte_yes (n : Int) (w : World) (h0 : 0 ≤ n) (h1 : n ≤ 255) (h : wordB n = true) :
    Calls Try.prog 24 #[.int .u8 n] w fun e w' => e = .returned (.bool true) ∧ w = w' :=
  (isWordByte_any n w h0 h1).mono fun _ _ ⟨he, hw⟩ => ⟨by rw [he, h], hw⟩
theorem isWordByte_no (n : Int) (w : World) (h0 : 0 ≤ n) (h1 : n ≤ 255) (h : wordB n = false) :
    Calls Try.prog 24 #[.int .u8 n] w fun e w' => e = .returned (.bool false) ∧ w = w' :=
  (isWordByte_any n w h0 h1).mono fun _ _ ⟨he, hw⟩ => ⟨by rw [he, h], hw⟩
end Go.Proofs.Ytkndlbcmbfgoaaa
