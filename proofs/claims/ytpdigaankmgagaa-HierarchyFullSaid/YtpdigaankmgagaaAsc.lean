/- Sorted rows without repetitions: sorting and leaving out repetitions is the same as putting each element in its place. Pure. No condition. -/
import Derived.Test.YtpdigaankmgagaaUtil
import Derived.Lib.SlicesCompact
set_option linter.unusedVariables false
set_option linter.unusedSimpArgs false
namespace Go.Proofs.Ytpdigaankmgagaa.Sx
open Go.Lib
section
variable {α : Type} [Inhabited α] [DecidableEq α] [LT α] [LE α] [DecidableRel (α := α) (· < ·)] [DecidableRel (α := α) (· ≤ ·)]

structure Lin (α : Type) [LT α] [LE α] : Prop where
  irr : ∀ a : α, ¬ a < a
  trans : ∀ a b c : α, a < b → b < c → a < c
  tri : ∀ a b : α, a < b ∨ a = b ∨ b < a
  le : ∀ a b : α, a ≤ b ↔ ¬ b < a

omit [Inhabited α] [LE α] [DecidableRel (α := α) (· ≤ ·)] in
def insG : List α → α → List α
  | [], n => [n]
  | x :: r, n => if x < n then x :: insG r n else if x = n then x :: r else n :: x :: r
def insAG (l xs : List α) : List α := xs.foldl insG l

omit [Inhabited α] [LE α] [DecidableRel (α := α) (· ≤ ·)] in
theorem insG_len (l : List α) (n : α) : (insG l n).length ≤ l.length + 1 := by
  induction l with
  | nil => simp [insG]
  | cons x r ih =>
    simp only [insG]
    split
    · simp; omega
    · split <;> simp
omit [Inhabited α] [LE α] [DecidableRel (α := α) (· ≤ ·)] in
theorem insAG_len (xs : List α) : ∀ l : List α, (insAG l xs).length ≤ l.length + xs.length := by
  induction xs with
  | nil => intro l; simp [insAG]
  | cons x xs ih =>
    intro l
    have h1 := ih (insG l x)
    have h2 := insG_len l x
    simp only [insAG, List.foldl_cons, List.length_cons] at *
    omega
omit [Inhabited α] [LE α] [DecidableRel (α := α) (· ≤ ·)] in
theorem insAG_app (l xs ys : List α) : insAG l (xs ++ ys) = insAG (insAG l xs) ys := by simp [insAG]
omit [LE α] [DecidableRel (α := α) (· ≤ ·)] in
theorem insG_at (l : List α) (n : α) : ∀ k, k ≤ l.length → (∀ j, j < k → l.getD j default < n) → (k = l.length ∨ ¬ l.getD k default < n) → insG l n = if k < l.length ∧ l.getD k default = n then l else l.take k ++ n :: l.drop k := by
  induction l with
  | nil =>
    intro k hk _ _
    obtain rfl : k = 0 := by simpa using hk
    simp [insG]
  | cons x r ih =>
    intro k hk hlo hat
    cases k with
    | zero =>
      have h : ¬ x < n := by
        rcases hat with h | h
        · simp at h
        · simpa using h
      simp only [insG, if_neg h]
      by_cases hx : x = n
      · simp [hx]
      · simp [hx]
    | succ k =>
      have h0 : x < n := by simpa using hlo 0 (by omega)
      have := ih k (by simpa using hk) (fun j hj => by simpa using hlo (j + 1) (by omega)) (by
        rcases hat with h | h
        · left; simpa using h
        · right; simpa using h)
      simp only [insG, if_pos h0, this]
      by_cases hc : k < r.length ∧ r.getD k default = n
      · rw [if_pos hc, if_pos (by simpa using hc)]
      · rw [if_neg hc, if_neg (by simpa using hc)]
        simp

abbrev Asc (l : List α) : Prop := l.Pairwise (· < ·)

omit [Inhabited α] [LE α] [DecidableRel (α := α) (· ≤ ·)] in
theorem mem_insG (l : List α) (n a : α) : a ∈ insG l n ↔ a = n ∨ a ∈ l := by
  induction l with
  | nil => simp [insG]
  | cons x r ih =>
    simp only [insG]
    split
    · simp only [List.mem_cons, ih]
      constructor
      · rintro (h | h | h) <;> simp [h]
      · rintro (h | h | h) <;> simp [h]
    · split
      · rename_i _ h; subst h; simp
      · simp
omit [Inhabited α] [DecidableRel (α := α) (· ≤ ·)] in
theorem asc_insG (L : Lin α) (l : List α) (n : α) (h : Asc l) : Asc (insG l n) := by
  induction l with
  | nil => simp [insG, Asc]
  | cons x r ih =>
    obtain ⟨h1, h2⟩ := List.pairwise_cons.1 h
    simp only [insG]
    split
    · rename_i hx
      refine List.pairwise_cons.2 ⟨fun y hy => ?_, ih h2⟩
      rcases (mem_insG r n y).1 hy with rfl | hy
      · exact hx
      · exact h1 y hy
    · split
      · exact h
      · rename_i hx hn
        have hnx : n < x := by
          rcases L.tri x n with h | h | h
          · exact absurd h hx
          · exact absurd h hn
          · exact h
        refine List.pairwise_cons.2 ⟨fun y hy => ?_, h⟩
        rcases List.mem_cons.1 hy with rfl | hy
        · exact hnx
        · exact L.trans _ _ _ hnx (h1 y hy)
omit [Inhabited α] [LE α] [DecidableRel (α := α) (· ≤ ·)] in
theorem mem_insAG (xs : List α) (a : α) : ∀ l : List α, a ∈ insAG l xs ↔ a ∈ xs ∨ a ∈ l := by
  induction xs with
  | nil => intro l; simp [insAG]
  | cons x xs ih =>
    intro l
    have := ih (insG l x)
    simp only [insAG, List.foldl_cons] at *
    rw [this, mem_insG]
    simp only [List.mem_cons]
    constructor
    · rintro (h | h | h) <;> simp [h]
    · rintro ((h | h) | h) <;> simp [h]
omit [Inhabited α] [DecidableRel (α := α) (· ≤ ·)] in
theorem asc_insAG (L : Lin α) (xs : List α) : ∀ l : List α, Asc l → Asc (insAG l xs) := by
  induction xs with
  | nil => intro l h; exact h
  | cons x xs ih => intro l h; exact ih _ (asc_insG L l x h)

omit [Inhabited α] [DecidableEq α] [DecidableRel (α := α) (· < ·)] [DecidableRel (α := α) (· ≤ ·)] in
theorem asc_ext (L : Lin α) : ∀ l1 l2 : List α, Asc l1 → Asc l2 → (∀ a, a ∈ l1 ↔ a ∈ l2) → l1 = l2 := by
  intro l1
  induction l1 with
  | nil =>
    intro l2 _ _ h
    cases l2 with
    | nil => rfl
    | cons y ys => exact absurd ((h y).2 (by simp)) (by simp)
  | cons x xs ih =>
    intro l2 h1 h2 h
    cases l2 with
    | nil => exact absurd ((h x).1 (by simp)) (by simp)
    | cons y ys =>
      obtain ⟨a1, b1⟩ := List.pairwise_cons.1 h1
      obtain ⟨a2, b2⟩ := List.pairwise_cons.1 h2
      have hxy : x = y := by
        rcases List.mem_cons.1 ((h x).1 (by simp)) with e | hx
        · exact e
        · rcases List.mem_cons.1 ((h y).2 (by simp)) with e | hy
          · exact e.symm
          · exact absurd (L.trans _ _ _ (a2 x hx) (a1 y hy)) (L.irr y)
      subst hxy
      congr 1
      refine ih ys b1 b2 fun a => ?_
      constructor
      · intro ha
        rcases List.mem_cons.1 ((h a).1 (List.mem_cons_of_mem _ ha)) with e | h'
        · subst e; exact absurd (a1 a ha) (L.irr a)
        · exact h'
      · intro ha
        rcases List.mem_cons.1 ((h a).2 (List.mem_cons_of_mem _ ha)) with e | h'
        · subst e; exact absurd (a2 a ha) (L.irr a)
        · exact h'

omit [DecidableRel (α := α) (· < ·)] [DecidableRel (α := α) (· ≤ ·)] in
theorem compact_asc (L : Lin α) (d : Array α) (hs : ∀ i j, i < j → j < d.size → d[i]! ≤ d[j]!) : ∀ m, m ≤ d.size → Asc (compactUpTo d m) ∧ ∀ a, a ∈ compactUpTo d m ↔ ∃ j, j < m ∧ a = d[j]! := by
  intro m
  induction m with
  | zero => intro _; exact ⟨by simp [compactUpTo, Asc], fun a => by simp [compactUpTo]⟩
  | succ m ih =>
    intro hm
    obtain ⟨h1, h2⟩ := ih (by omega)
    rw [compactUpTo_succ]
    by_cases hk : keeps d m = true
    · rw [if_pos hk]
      refine ⟨List.pairwise_append.2 ⟨h1, by simp, fun a ha b hb => ?_⟩, fun a => ?_⟩
      · obtain ⟨j, hj, rfl⟩ := (h2 a).1 ha
        obtain rfl : b = d[m]! := by simpa using hb
        have hne : d[m]! ≠ d[m - 1]! := by
          simp only [keeps, decide_eq_true_eq] at hk
          rcases hk with h | h
          · omega
          · exact h
        have hle : d[m - 1]! ≤ d[m]! := hs _ _ (by omega) (by omega)
        have hlt : d[m - 1]! < d[m]! := by
          rcases L.tri (d[m - 1]!) (d[m]!) with h | h | h
          · exact h
          · exact absurd h.symm hne
          · exact absurd h ((L.le _ _).1 hle)
        by_cases hj1 : j = m - 1
        · rw [hj1]; exact hlt
        · have hle2 : d[j]! ≤ d[m - 1]! := hs _ _ (by omega) (by omega)
          rcases L.tri (d[j]!) (d[m - 1]!) with h | h | h
          · exact L.trans _ _ _ h hlt
          · rw [h]; exact hlt
          · exact absurd h ((L.le _ _).1 hle2)
      · rw [List.mem_append, h2, List.mem_singleton]
        constructor
        · rintro (⟨j, hj, rfl⟩ | rfl)
          · exact ⟨j, by omega, rfl⟩
          · exact ⟨m, by omega, rfl⟩
        · rintro ⟨j, hj, rfl⟩
          by_cases e : j = m
          · right; rw [e]
          · left; exact ⟨j, by omega, rfl⟩
    · rw [if_neg hk, List.append_nil]
      refine ⟨h1, fun a => ?_⟩
      rw [h2]
      have hm0 : 0 < m ∧ d[m]! = d[m - 1]! := by
        simp only [keeps, decide_eq_true_eq] at hk
        refine ⟨?_, ?_⟩
        · rcases Nat.eq_zero_or_pos m with h | h
          · exact absurd (Or.inl h) hk
          · exact h
        · exact Decidable.not_not.1 fun h => hk (Or.inr h)
      constructor
      · rintro ⟨j, hj, rfl⟩
        exact ⟨j, by omega, rfl⟩
      · rintro ⟨j, hj, rfl⟩
        by_cases e : j = m
        · exact ⟨m - 1, by omega, by rw [e, hm0.2]⟩
        · exact ⟨j, by omega, rfl⟩

/-- sorted, each once: the same in both ways -/
theorem set_eq (L : Lin α) (xs : List α) : compact (xs.mergeSort fun x y => decide (x ≤ y)) = insAG [] xs := by
  have htr : ∀ a b c : α, decide (a ≤ b) = true → decide (b ≤ c) = true → decide (a ≤ c) = true := by
    intro a b c h1 h2
    rw [decide_eq_true_eq, L.le] at *
    intro h
    rcases L.tri a b with h' | h' | h'
    · exact h2 (L.trans _ _ _ h h')
    · subst h'; exact h2 h
    · exact h1 h'
  have htot : ∀ a b : α, (decide (a ≤ b) || decide (b ≤ a)) = true := by
    intro a b
    rw [Bool.or_eq_true, decide_eq_true_eq, decide_eq_true_eq, L.le, L.le]
    by_cases h : b < a
    · right; intro h'; exact L.irr a (L.trans _ _ _ h' h)
    · exact .inl h
  have hp := List.pairwise_mergeSort htr htot xs
  obtain ⟨ys, hys⟩ : ∃ ys, (xs.mergeSort fun x y => decide (x ≤ y)) = ys := ⟨_, rfl⟩
  have hmem : ∀ a, a ∈ ys ↔ a ∈ xs := fun a => by rw [← hys]; exact List.mem_mergeSort
  rw [hys] at hp ⊢
  have hsorted : ∀ i j, i < j → j < ys.toArray.size → ys.toArray[i]! ≤ ys.toArray[j]! := by
    intro i j hij hj
    have hj' : j < ys.length := by simpa using hj
    have := List.pairwise_iff_getElem.1 hp i j (by omega) hj' hij
    rw [decide_eq_true_eq] at this
    rw [getElem!_pos ys.toArray i (by simpa using (by omega : i < ys.length)), getElem!_pos ys.toArray j hj]
    simpa using this
  obtain ⟨h1, h2⟩ := compact_asc L ys.toArray hsorted ys.length (by simp)
  refine asc_ext L _ _ h1 (asc_insAG L xs [] (by simp [Asc])) fun a => ?_
  unfold compact
  rw [h2, mem_insAG]
  constructor
  · rintro ⟨j, hj, rfl⟩
    left
    rw [← hmem, getElem!_pos ys.toArray j (by simpa using hj)]
    simp
  · rintro (h | h)
    · rw [← hmem] at h
      obtain ⟨j, hj, rfl⟩ := List.mem_iff_getElem.1 h
      exact ⟨j, hj, by rw [getElem!_pos ys.toArray j (by simpa using hj)]; simp⟩
    · cases h
end
theorem lin_int : Lin Int := ⟨fun a => Int.lt_irrefl a, fun a b c => Int.lt_trans, fun a b => by omega, fun a b => by omega⟩
theorem lin_str : Lin (List UInt8) where
  irr := List.lt_irrefl
  trans := fun a b c => List.lt_trans
  tri := fun a b => by
    by_cases h : a < b
    · exact .inl h
    · by_cases h2 : b < a
      · exact .inr (.inr h2)
      · exact .inr (.inl (List.le_antisymm (List.not_lt.1 h2) (List.not_lt.1 h)))
  le := fun a b => List.not_lt.symm
end Go.Proofs.Ytpdigaankmgagaa.Sx
