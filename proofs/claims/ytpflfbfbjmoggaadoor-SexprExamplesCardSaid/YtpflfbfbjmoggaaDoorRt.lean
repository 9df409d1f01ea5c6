/- A text that was written from nodes, with separators wherever they may stand, is read as those nodes. No condition but the limits. -/
import Derived.Test.YtpflfbfbjmoggaaDoorTxt
import Derived.Test.YtpflfbfbjmoggaaDoorFs
set_option linter.unusedVariables false
set_option linter.unusedSimpArgs false
namespace Go.Proofs.YtpflfbfbjmoggaaDoor.Sx

/-- a text that is skipped whole, whatever follows -/
def Sep (a : List UInt8) : Prop := ∀ r, skipN false (a ++ r) = a.length + skipN false r

theorem Sep.nil : Sep [] := fun r => by simp

def NW (z : List UInt8) : Prop := z = [] ∨ ∃ c r, z = c :: r ∧ wordB c.toNat = false

theorem Sep.nw {a z : List UInt8} (h : Sep a) (hn : a ≠ []) : NW (a ++ z) := by
  cases a with
  | nil => exact absurd rfl hn
  | cons c r =>
    refine .inr ⟨c, r ++ z, rfl, ?_⟩
    have h0 := h []
    simp only [List.append_nil, List.length_cons] at h0
    rw [show skipN false [] = 0 from rfl] at h0
    rw [skipN] at h0
    by_cases h1 : (c.toNat : Int) = 10
    · rw [h1]; decide
    · rw [if_neg h1] at h0
      by_cases h2 : (c.toNat : Int) = 32
      · rw [h2]; decide
      · rw [if_neg (by simpa using h2)] at h0
        by_cases h3 : (c.toNat : Int) = 59
        · rw [h3]; decide
        · rw [if_neg h3] at h0; simp at h0

/-- x is a text of the nodes f, which begins at position p; with the Bool, something separates it from what lies ahead -/
def TxtF : Nat → Bool → Fo → List UInt8 → Prop
  | _, _, .nil, x => Sep x
  | p, glue, .cons k t kids o rest, x => ∃ a e y, x = a ++ (e ++ y) ∧ Sep a ∧ (glue = true → a ≠ []) ∧ o = ((p + a.length : Nat) : Int) ∧
      ((k = 1 ∧ kids = .nil ∧ e = t ∧ t ≠ [] ∧ (∀ c ∈ t, wordB (c.toNat : Int) = true) ∧ t.length ≤ 24) ∨
       (k = 2 ∧ kids = .nil ∧ e = quoteB t ∧ (∀ c ∈ t, strB (c.toNat : Int) = true) ∧ t.length ≤ 2000) ∨
       (k = 3 ∧ t = [] ∧ ∃ z, e = 40 :: (z ++ [41]) ∧ TxtF (p + a.length + 1) false kids z)) ∧
      TxtF (p + a.length + e.length) true rest y

/-- what may follow -/
def Tail (open_ : Nat) (tl : List UInt8) : Prop := (open_ = 0 ∧ skipN false tl = tl.length ∧ NW tl) ∨ (0 < open_ ∧ ∃ r, tl = 41 :: r)

theorem Tail.nw {o : Nat} {tl : List UInt8} (h : Tail o tl) : NW tl := by
  rcases h with ⟨_, _, h⟩ | ⟨_, r, rfl⟩
  · exact h
  · exact .inr ⟨41, r, rfl, by decide⟩

theorem TxtF.nw {p : Nat} {f : Fo} {x tl : List UInt8} {o : Nat} (h : TxtF p true f x) (ht : Tail o tl) : NW (x ++ tl) := by
  cases f with
  | nil =>
    by_cases hx : x = []
    · rw [hx]; exact ht.nw
    · exact Sep.nw h hx
  | cons k t kids ofs rest =>
    obtain ⟨a, e, y, rfl, ha, hg, _⟩ := h
    rw [List.append_assoc]
    exact ha.nw (hg rfl)

theorem wordN_app (t z : List UInt8) (h : ∀ c ∈ t, wordB (c.toNat : Int) = true) (hz : NW z) : wordN (t ++ z) = t.length := by
  induction t with
  | nil =>
    rcases hz with rfl | ⟨c, r, rfl, hc⟩
    · rfl
    · exact wordN_no hc
  | cons c r ih =>
    rw [List.cons_append, wordN_yes (h c (by simp)), ih (fun d hd => h d (by simp [hd]))]
    rfl

theorem skipN_word {c : UInt8} {r : List UInt8} (h : wordB (c.toNat : Int) = true) : skipN false (c :: r) = 0 := by
  apply skipN_else
  · cases hh : ((c.toNat : Int) == 10)
    · rfl
    · rw [eq_of_beq hh] at h; exact absurd h (by decide)
  · cases hh : ((c.toNat : Int) == 32)
    · rfl
    · rw [eq_of_beq hh] at h; exact absurd h (by decide)
  · cases hh : ((c.toNat : Int) == 59)
    · rfl
    · rw [eq_of_beq hh] at h; exact absurd h (by decide)

theorem quot_esc (t : List UInt8) : ∀ (f : Nat) (z : List UInt8), (∀ c ∈ t, strB (c.toNat : Int) = true) → (escT t).length < f → quot f (escT t ++ 34 :: z) = .ok t ((escT t).length + 1) := by
  induction t with
  | nil =>
    intro f z _ hf
    obtain ⟨f, rfl⟩ : ∃ f', f = f' + 1 := ⟨f - 1, by omega⟩
    exact quot_close (by decide)
  | cons c r ih =>
    intro f z h hf
    obtain ⟨f, rfl⟩ : ∃ f', f = f' + 1 := ⟨f - 1, by omega⟩
    cases he : escB (c.toNat : Int) with
    | true =>
      rw [escT_yes he] at hf ⊢
      simp only [List.length_cons] at hf
      rw [List.cons_append, List.cons_append, quot_step (m := 2) (d := c) (by decide) (strStep_esc (by decide) he)]
      simp only [List.drop_succ_cons, List.drop_zero]
      rw [ih f z (fun d hd => h d (by simp [hd])) (by omega)]
      simp [QRes.pre]
    | false =>
      have hne : ((c.toNat : Int) == 34) = false ∧ ((c.toNat : Int) == 92) = false := by
        simp [escB] at he
        simp [he]
      rw [escT_no he] at hf ⊢
      simp only [List.length_cons] at hf
      rw [List.cons_append, quot_step (m := 1) (d := c) hne.1 (strStep_plain hne.2 (h c (by simp)))]
      simp only [List.drop_succ_cons, List.drop_zero]
      rw [ih f z (fun d hd => h d (by simp [hd])) (by omega)]
      simp [QRes.pre]

theorem elems_txt (f : Fo) : ∀ (p : Nat) (glue : Bool) (x tl : List UInt8) (o n : Nat), TxtF p glue f x → Tail o tl → dep f + o ≤ 40 → (x ++ tl).length < n →
    elems n o p (x ++ tl) = .ok f (p + x.length + (if o = 0 then tl.length else 0)) := by
  induction f with
  | nil =>
    intro p glue x tl o n h ht hd hn
    obtain ⟨n, rfl⟩ : ∃ n', n = n' + 1 := ⟨n - 1, by omega⟩
    have hs : skipN false (x ++ tl) = x.length + skipN false tl := h tl
    rcases ht with ⟨rfl, htl, _⟩ | ⟨ho, r, rfl⟩
    · rw [elems_nil rfl (by rw [hs, htl]; simp)]
      rw [hs, htl]
      simp
      omega
    · have h41 : skipN false (41 :: r) = 0 := skipN_else (by decide) (by decide) (by decide)
      rw [elems_close (c := 41) (r := r) rfl (by rw [hs, h41]; simp) (by decide) ho, hs, h41, if_neg (by omega)]
      rfl
  | cons k t kids ofs rest ihk ihr =>
    intro p glue x tl o n h ht hd hn
    obtain ⟨n, rfl⟩ : ∃ n', n = n' + 1 := ⟨n - 1, by omega⟩
    obtain ⟨a, e, y, rfl, ha, hg, rfl, hel, hrest⟩ := h
    simp only [dep] at hd
    have hs : ∀ z, skipN false (a ++ z) = a.length + skipN false z := ha
    have hnw := TxtF.nw hrest ht
    have e1 : a ++ (e ++ y) ++ tl = a ++ (e ++ (y ++ tl)) := by simp
    rw [e1] at hn ⊢
    simp only [List.length_append] at hn
    rcases hel with ⟨rfl, rfl, rfl, hne, hw, hl⟩ | ⟨rfl, rfl, rfl, hst, hl⟩ | ⟨rfl, rfl, z, rfl, hz⟩
    · obtain ⟨c, r, rfl⟩ : ∃ c r, e = c :: r := by cases e with | nil => exact absurd rfl hne | cons c r => exact ⟨c, r, rfl⟩
      have hc := hw c (by simp)
      have h0 : skipN false ((c :: r) ++ (y ++ tl)) = 0 := skipN_word hc
      have hwn := wordN_app (c :: r) (y ++ tl) hw hnw
      simp only [List.cons_append] at h0 hwn ⊢
      rw [elems_word (c := c) (r := r ++ (y ++ tl)) (p1 := p + a.length) (by rw [hs, h0]; rfl) (by rw [hs, h0]; simp) hc, if_neg (by rw [hwn]; omega), hwn]
      have ed : (c :: (r ++ (y ++ tl))).drop (c :: r).length = y ++ tl := by simp
      have et : (c :: (r ++ (y ++ tl))).take (c :: r).length = c :: r := by simp
      rw [ed, et, ihr _ _ _ _ _ _ hrest ht (by omega) (by simp only [List.length_append, List.length_cons] at hn ⊢; omega)]
      simp only [Res.pre, Fo.one, Fo.app, List.length_append, List.length_cons, Res.ok.injEq, true_and]
      omega
    · have h0 : skipN false (quoteB t ++ (y ++ tl)) = 0 := skipN_else (by decide) (by decide) (by decide)
      have eq1 : quoteB t ++ (y ++ tl) = 34 :: (escT t ++ 34 :: (y ++ tl)) := by simp [quoteB]
      rw [elems_str (c := 34) (r := escT t ++ 34 :: (y ++ tl)) (p1 := p + a.length) (by rw [hs, h0]; rfl) (by rw [hs, h0, ← eq1]; simp) (by decide) (by decide)]
      rw [quot_esc t _ _ hst (by simp; omega)]
      dsimp only
      rw [if_neg (by omega)]
      have ed : (escT t ++ 34 :: (y ++ tl)).drop ((escT t).length + 1) = y ++ tl := by
        rw [← List.drop_drop, List.drop_append_of_le_length (Nat.le_refl _)]; simp
      have hq : (quoteB t).length = (escT t).length + 2 := by simp [quoteB]
      rw [hq] at hrest hn
      rw [ed, show p + a.length + 1 + ((escT t).length + 1) = p + a.length + ((escT t).length + 2) from by omega, ihr _ _ _ _ _ _ hrest ht (by omega) (by simp only [List.length_append] at hn ⊢; omega)]
      simp only [Res.pre, Fo.one, Fo.app, List.length_append, Res.ok.injEq, true_and, hq]
      omega
    · have h0 : skipN false (40 :: (z ++ [41]) ++ (y ++ tl)) = 0 := skipN_else (by decide) (by decide) (by decide)
      simp only [if_true] at hd
      have eq1 : 40 :: (z ++ [41]) ++ (y ++ tl) = 40 :: (z ++ 41 :: (y ++ tl)) := by simp
      rw [elems_list (c := 40) (r := z ++ 41 :: (y ++ tl)) (p1 := p + a.length) (by rw [hs, h0]; rfl) (by rw [hs, h0, ← eq1]; simp) (by decide), if_neg (by omega)]
      simp only [List.length_cons, List.length_append, List.length_nil] at hn
      rw [ihk _ _ _ (41 :: (y ++ tl)) (o + 1) n hz (.inr ⟨by omega, _, rfl⟩) (by omega) (by simp only [List.length_append, List.length_cons]; omega)]
      dsimp only
      rw [if_neg (by omega)]
      have ed : (z ++ 41 :: (y ++ tl)).drop (p + a.length + 1 + z.length + 0 - (p + a.length)) = y ++ tl := by
        rw [show p + a.length + 1 + z.length + 0 - (p + a.length) = z.length + 1 from by omega, ← List.drop_drop, List.drop_append_of_le_length (Nat.le_refl _)]; simp
      have hq : (40 :: (z ++ [41])).length = z.length + 2 := by simp
      rw [hq] at hrest
      rw [ed, show p + a.length + 1 + z.length + 0 + 1 = p + a.length + (z.length + 2) from by omega, ihr _ _ _ _ _ _ hrest ht (by omega) (by simp only [List.length_append]; omega)]
      simp only [Res.pre, Fo.one, Fo.app, List.length_append, Res.ok.injEq, true_and, hq]
      omega

end Go.Proofs.YtpflfbfbjmoggaaDoor.Sx
