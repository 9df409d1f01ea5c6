/- The limits, said of the plain functions: what a word, a string, nested lists and spaces of so many letters are read as. No condition. -/
import Derived.Test.YtkndlbcmbfgoaaaSp
import Derived.KernelRfl
set_option linter.unusedVariables false
set_option linter.unusedSimpArgs false
namespace Go.Proofs.Ytkndlbcmbfgoaaa.Sx

/-- what a text is read as, but for the nodes: kind and place of the fault -/
def sumR : Res → Int × Nat
  | .bad k a => (k, a)
  | .ok _ _ => (0, 0)

theorem sumR_pre (f : Fo) (r : Res) : sumR (r.pre f) = sumR r := by cases r <;> rfl

theorem skipN_spaces (n : Nat) : skipN false (List.replicate n 32) = n := by
  induction n with
  | zero => rfl
  | succ n ih => rw [List.replicate_succ, skipN_32 (by decide) (by decide), ih]

theorem lim_spaces (n : Nat) : sumR (parseR (List.replicate n 32)) = if 65536 < n then (4, 0) else (0, 0) := by
  unfold parseR
  rw [List.length_replicate]
  split
  · rfl
  · rw [elems_nil rfl (by rw [skipN_spaces, List.drop_eq_nil_iff]; simp)]
    rfl

theorem quot_s (n : Nat) (f : Nat) : n < f → quot f (List.replicate n 115 ++ [34]) = .ok (List.replicate n 115) (n + 1) := by
  induction n generalizing f with
  | zero =>
    intro h
    obtain ⟨f, rfl⟩ : ∃ f', f = f' + 1 := ⟨f - 1, by omega⟩
    exact quot_close (by decide)
  | succ n ih =>
    intro h
    obtain ⟨f, rfl⟩ : ∃ f', f = f' + 1 := ⟨f - 1, by omega⟩
    rw [List.replicate_succ, List.cons_append, quot_step (by decide) (strStep_plain (by decide) (by decide)), List.drop_succ_cons, List.drop_zero, ih f (by omega)]
    simp [QRes.pre, List.replicate_succ]
    try omega

theorem lim_text (n : Nat) (hn : n ≤ 3000) : sumR (parseR (32 :: 34 :: (List.replicate n 115 ++ [34]))) = if 2000 < n then (4, 1) else (0, 0) := by
  have hlen : (32 :: 34 :: (List.replicate n (115 : UInt8) ++ [34])).length = n + 3 := by simp
  have hsk : skipN false (32 :: 34 :: (List.replicate n 115 ++ [34])) = 1 := by
    rw [skipN_32 (by decide) (by decide), skipN_else (by decide) (by decide) (by decide)]
  unfold parseR
  rw [if_neg (by rw [hlen]; omega), hlen, elems_str (p1 := 1) (by rw [hsk]) (by rw [hsk]; rfl) (by decide) (by decide), quot_s n _ (by simp; omega)]
  simp only [List.length_replicate]
  split
  · rfl
  · rw [sumR_pre, List.drop_eq_nil_of_le (by simp), elems_nil (by rfl) (by rfl)]
    rfl

theorem lim_word : sumR (parseR (32 :: List.replicate 23 119)) = (0, 0) ∧ sumR (parseR (32 :: List.replicate 24 119)) = (0, 0) ∧ sumR (parseR (32 :: List.replicate 25 119)) = (4, 1) :=
  ⟨by kernel_rfl, by kernel_rfl, by kernel_rfl⟩

theorem lim_deep : sumR (parseR (List.replicate 39 40 ++ List.replicate 39 41)) = (0, 0) ∧ sumR (parseR (List.replicate 40 40 ++ List.replicate 40 41)) = (0, 0) ∧ sumR (parseR (List.replicate 41 40 ++ List.replicate 41 41)) = (9, 40) :=
  ⟨by kernel_rfl, by kernel_rfl, by kernel_rfl⟩
end Go.Proofs.Ytkndlbcmbfgoaaa.Sx
