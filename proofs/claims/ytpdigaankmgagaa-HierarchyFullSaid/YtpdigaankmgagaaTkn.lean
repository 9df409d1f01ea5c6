/- telref1.Var, Named. No condition. -/
import Derived.Test.YtpdigaankmgagaaTls
import Derived.Test.YtpdigaankmgagaaTva
set_option linter.unusedVariables false
set_option linter.unusedSimpArgs false
namespace Go.Proofs.Ytpdigaankmgagaa
open Go.RowKit Sx

theorem setI_one (x : Int) : setI [x] = [x] := by unfold setI; rw [List.mergeSort_singleton]; rfl

theorem varC (i : Int) (w : World) : Calls Try.prog 12 #[.int .i64 i] w fun e w' => e = .returned (.agg #[.int .i64 5, .string ⟨#[]⟩, .int .i64 i, .slice none 0 0]) ∧ BH w w' := by
  go_enter Try.func12, Try.ntmps12
  go_wp2_with (fail)
  obtain ⟨m0, m1, m2, m3⟩ := box4 w (.int .i64 5) (.string ⟨#[]⟩) (.int .i64 i) (.slice none 0 0) 31
  exact bodyPost_ret (v := .agg #[.int .i64 5, .string ⟨#[]⟩, .int .i64 i, .slice none 0 0]) (by simp [results, Try.results12, go_sem, m0, m1, m2, m3]) rfl ⟨rfl, (Below.refl _ _).alloc (Nat.le_refl _) _⟩
theorem namedC (s : ByteArray) (A : Option Addr) (n c : Nat) (w : World) : Calls Try.prog 11 #[.string s, .slice A n c] w fun e w' => e = .returned (.agg #[.int .i64 2, .string s, .int .i64 0, .slice A n c]) ∧ BH w w' := by
  go_enter Try.func11, Try.ntmps11
  go_wp2_with (fail)
  obtain ⟨m0, m1, m2, m3⟩ := box4 w (.int .i64 2) (.string s) (.int .i64 0) (.slice A n c) 31
  exact bodyPost_ret (v := .agg #[.int .i64 2, .string s, .int .i64 0, .slice A n c]) (by simp [results, Try.results11, go_sem, m0, m1, m2, m3]) rfl ⟨rfl, (Below.refl _ _).alloc (Nat.le_refl _) _⟩

end Go.Proofs.Ytpdigaankmgagaa
