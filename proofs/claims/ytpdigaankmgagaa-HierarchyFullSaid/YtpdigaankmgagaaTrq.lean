/- What telref1's readers of a term answer, as pure functions: the same as typeterm's. No condition. -/
import Derived.Test.YtpdigaankmgagaaTfr
import Derived.Test.YtpdigaankmgagaaTva
set_option linter.unusedVariables false
set_option linter.unusedSimpArgs false
namespace Go.Proofs.Ytpdigaankmgagaa.Sx
open Go.RowKit
/-- n in its place of a sorted row -/
def insI : List Int → Int → List Int
  | [], n => [n]
  | x :: r, n => if x < n then x :: insI r n else if x = n then x :: r else n :: x :: r
def insA (l xs : List Int) : List Int := xs.foldl insI l
theorem insI_ne (l : List Int) (n : Int) : insI l n ≠ [] := by
  cases l with
  | nil => simp [insI]
  | cons x r =>
    simp only [insI]
    split
    · simp
    · split <;> simp
theorem insI_len (l : List Int) (n : Int) : (insI l n).length ≤ l.length + 1 := by
  induction l with
  | nil => simp [insI]
  | cons x r ih =>
    simp only [insI]
    split
    · simp; omega
    · split <;> simp
theorem insA_len (xs : List Int) : ∀ l, (insA l xs).length ≤ l.length + xs.length := by
  induction xs with
  | nil => intro l; simp [insA]
  | cons x xs ih =>
    intro l
    have h1 := ih (insI l x)
    have h2 := insI_len l x
    simp only [insA, List.foldl_cons, List.length_cons] at *
    omega
theorem insA_ne (xs : List Int) : ∀ l, l ≠ [] → insA l xs ≠ [] := by
  induction xs with
  | nil => intro l h; exact h
  | cons x xs ih => intro l h; exact ih _ (insI_ne l x)
theorem insA_nil (xs : List Int) : (insA [] xs = []) ↔ xs = [] := by
  cases xs with
  | nil => simp [insA]
  | cons x xs => simp only [reduceCtorEq, iff_false]; exact insA_ne xs _ (insI_ne _ _)
theorem insA_app (l xs ys : List Int) : insA l (xs ++ ys) = insA (insA l xs) ys := by simp [insA]
/-- the place that the search finds -/
theorem insI_at (l : List Int) (n : Int) : ∀ k, k ≤ l.length → (∀ j, j < k → l.getD j 0 < n) → (k = l.length ∨ ¬ l.getD k 0 < n) → insI l n = if k < l.length ∧ l.getD k 0 = n then l else l.take k ++ n :: l.drop k := by
  induction l with
  | nil =>
    intro k hk _ _
    obtain rfl : k = 0 := by simpa using hk
    simp [insI]
  | cons x r ih =>
    intro k hk hlo hat
    cases k with
    | zero =>
      have h : ¬ x < n := by
        rcases hat with h | h
        · simp at h
        · simpa using h
      simp only [insI, if_neg h]
      by_cases hx : x = n
      · simp [hx]
      · simp [hx]
    | succ k =>
      have h0 : x < n := by simpa using hlo 0 (by omega)
      have := ih k (by simpa using hk) (fun j hj => by simpa using hlo (j + 1) (by omega)) (by
        rcases hat with h | h
        · left; simpa using h
        · right; simpa using h)
      simp only [insI, if_pos h0, this]
      by_cases hc : k < r.length ∧ r.getD k 0 = n
      · rw [if_pos hc, if_pos (by simpa using hc)]
      · rw [if_neg hc, if_neg (by simpa using hc)]
        simp

theorem free_nil (f : Fo) : ∀ pk i b, (freeL pk i b f = []) ↔ closedL pk i b f = true := by
  induction f with
  | nil => intro pk i b; simp [freeL, closedL]
  | cons k t kids o r ih1 ih2 =>
    intro pk i b
    simp only [freeL, closedL, List.append_eq_nil_iff, Bool.and_eq_true, ih1, ih2]
    cases freeB k o (aroundB pk i b) <;> simp
theorem free1_nil (k o : Int) (kids : Fo) (b : Int) : free1 k o kids b = [] ↔ closed1 k o kids b = true := by
  unfold free1 closed1
  simp only [List.append_eq_nil_iff, Bool.and_eq_true, free_nil]
  cases freeB k o b <;> simp
theorem free1_len (k o : Int) (kids : Fo) (b : Int) : (free1 k o kids b).length ≤ fsize kids + 1 := by
  have h5 := freeL_len kids k 0 b
  simp only [free1, List.length_append]
  split <;> simp <;> omega
theorem closedL_plain (f : Fo) : ∀ pk i, pk ≠ 6 → closedL pk i 0 f = true → plainL f = true := by
  induction f with
  | nil => intros; rfl
  | cons k t kids o r ih1 ih2 =>
    intro pk i hpk h
    have ha : aroundB pk i 0 = 0 := by simp [aroundB, hpk]
    rw [closedL_cons, ha, Bool.and_eq_true] at h
    rw [plainL_cons, Bool.and_eq_true]
    refine ⟨?_, ih2 pk (i + 1) hpk h.2⟩
    unfold plain1
    split
    · rfl
    · split
      · rename_i _ h2
        subst h2
        have h1 := h.1
        unfold closed1 at h1
        simp only [Bool.and_eq_true] at h1
        exact ih1 2 0 (by decide) h1.2
      · exact h.1
theorem closed_plain1 {k o : Int} {kids : Fo} (h : closed1 k o kids 0 = true) : plain1 k o kids = true := by
  unfold plain1
  split
  · rfl
  · split
    · rename_i _ h2
      subst h2
      unfold closed1 at h
      simp only [Bool.and_eq_true] at h
      exact closedL_plain kids 2 0 (by decide) h.2
    · exact h
/-- what Validate answers, told by the two sizes -/
theorem validV_eq (k : Int) (t : List UInt8) (o : Int) (kids : Fo) : validV k t o kids = if 200 < (fsize kids : Int) + 1 ∨ 12 < (depT kids : Int) + 1 then 4 else if validT k t o kids then 0 else 2 := by
  unfold validV spendV
  by_cases h : (fsize kids : Int) + 1 ≤ 200 ∧ (depT kids : Int) + 1 ≤ 12
  · rw [if_pos h, if_neg (show ¬ (200 - 1 - (fsize kids : Int) < 0) by omega), if_neg (show ¬ (200 < (fsize kids : Int) + 1 ∨ 12 < (depT kids : Int) + 1) by omega)]
  · rw [if_neg h, if_pos (by decide), if_pos (show (200 < (fsize kids : Int) + 1 ∨ 12 < (depT kids : Int) + 1) by omega)]
end Go.Proofs.Ytpdigaankmgagaa.Sx
