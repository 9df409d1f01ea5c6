/- Texts of nodes, the offsets left aside: built from the left, with separators. No condition but the limits. -/
import Derived.Test.YtpflfbfbjmoggaaDoorRt3
set_option linter.unusedVariables false
set_option linter.unusedSimpArgs false
namespace Go.Proofs.YtpflfbfbjmoggaaDoor.Sx

/-- x is a text of the nodes f, whatever their offsets -/
def TxtN : Bool → Fo → List UInt8 → Prop
  | _, .nil, x => Sep x
  | glue, .cons k t kids _ rest, x => ∃ a e y, x = a ++ (e ++ y) ∧ Sep a ∧ (glue = true → a ≠ []) ∧
      ((k = 1 ∧ kids = .nil ∧ e = t ∧ okW t = true) ∨ (k = 2 ∧ kids = .nil ∧ e = quoteB t ∧ okS t = true) ∨ (k = 3 ∧ t = [] ∧ ∃ z, e = 40 :: (z ++ [41]) ∧ TxtN false kids z)) ∧
      TxtN true rest y

/-- e is a text of one node -/
def Elt (k : Int) (t : List UInt8) (kids : Fo) (e : List UInt8) : Prop :=
  (k = 1 ∧ kids = .nil ∧ e = t ∧ okW t = true) ∨ (k = 2 ∧ kids = .nil ∧ e = quoteB t ∧ okS t = true) ∨ (k = 3 ∧ t = [] ∧ ∃ z, e = 40 :: (z ++ [41]) ∧ TxtN false kids z)

/-- the same, nothing behind the last node -/
def TxtE : Bool → Fo → List UInt8 → Prop
  | _, .nil, x => x = []
  | glue, .cons k t kids _ rest, x => ∃ a e y, x = a ++ (e ++ y) ∧ Sep a ∧ (glue = true → a ≠ []) ∧ Elt k t kids e ∧ TxtE true rest y

theorem TxtE.close (f : Fo) : ∀ (glue : Bool) (x a : List UInt8), TxtE glue f x → Sep a → TxtN glue f (x ++ a) := by
  induction f with
  | nil => intro glue x a h ha; rw [show x = [] from h]; exact ha
  | cons k t kids o rest _ ihr =>
    intro glue x a h ha
    obtain ⟨b, e, y, rfl, hb, hg, hel, hr⟩ := h
    exact ⟨b, e, y ++ a, by simp, hb, hg, hel, ihr _ _ _ hr ha⟩

theorem TxtE.snoc (f : Fo) : ∀ (glue : Bool) (x a e : List UInt8) (k o : Int) (t : List UInt8) (kids : Fo), TxtE glue f x → Sep a → a ≠ [] → Elt k t kids e → TxtE glue (f.app (.one k t kids o)) (x ++ (a ++ e)) := by
  induction f with
  | nil =>
    intro glue x a e k o t kids h ha hne hel
    rw [show x = [] from h]
    exact ⟨a, e, [], by simp, ha, fun _ => hne, hel, rfl⟩
  | cons k1 t1 kids1 o1 rest _ ihr =>
    intro glue x a e k o t kids h ha hne hel
    obtain ⟨b, e1, y, rfl, hb, hg, hel1, hr⟩ := h
    exact ⟨b, e1, y ++ (a ++ e), by simp, hb, hg, hel1, ihr _ _ _ _ _ _ _ _ hr ha hne hel⟩

theorem txt_off (f : Fo) : ∀ (glue : Bool) (x : List UInt8) (p : Nat), TxtN glue f x → ∃ g, sameF f g ∧ TxtF p glue g x := by
  induction f with
  | nil => intro glue x p h; exact ⟨.nil, trivial, h⟩
  | cons k t kids o rest ihk ihr =>
    intro glue x p h
    obtain ⟨a, e, y, rfl, ha, hg, hel, hr⟩ := h
    obtain ⟨g, hg1, hg2⟩ := ihr true y (p + a.length + e.length) hr
    rcases hel with ⟨rfl, rfl, rfl, hw⟩ | ⟨rfl, rfl, rfl, hs⟩ | ⟨rfl, rfl, z, rfl, hz⟩
    · refine ⟨.cons 1 e .nil _ g, ⟨rfl, rfl, trivial, hg1⟩, a, e, y, rfl, ha, hg, rfl, .inl ⟨rfl, rfl, rfl, ?_, ?_, okW_len hw⟩, hg2⟩
      · simp [okW] at hw; exact hw.1.1
      · simp [okW] at hw; exact hw.1.2
    · refine ⟨.cons 2 t .nil _ g, ⟨rfl, rfl, trivial, hg1⟩, a, _, y, rfl, ha, hg, rfl, .inr (.inl ⟨rfl, rfl, rfl, ?_, by have := okS_len hs; omega⟩), hg2⟩
      simp [okS] at hs; exact hs.1
    · obtain ⟨g2, hk1, hk2⟩ := ihk false z (p + a.length + 1) hz
      exact ⟨.cons 3 [] g2 _ g, ⟨rfl, rfl, hk1, hg1⟩, a, _, y, rfl, ha, hg, rfl, .inr (.inr ⟨rfl, rfl, z, rfl, hk2⟩), hg2⟩

/-- a text of nodes, with a tail that is skipped, is read as them -/
theorem parse_txt (f : Fo) (x tl : List UInt8) (h : TxtN false f x) (ht : skipN false tl = tl.length) (hn : NW tl) (hd : dep f ≤ 40) (hl : x.length + tl.length ≤ 65536) :
    ∃ g q, sameF f g ∧ parseR (x ++ tl) = .ok g q := by
  obtain ⟨g, hg, hx⟩ := txt_off f false x 0 h
  have hdg := sameF_dep _ _ hg
  have e : parseR (x ++ tl) = elems ((x ++ tl).length + 1) 0 0 (x ++ tl) := by rw [parseR, if_neg (by rw [List.length_append]; omega)]
  exact ⟨g, _, hg, e.trans (elems_txt g 0 false x tl 0 _ hx (.inl ⟨rfl, ht, hn⟩) (by omega) (by omega))⟩

theorem elt_of_v {k o : Int} {t : List UInt8} {kids : Fo} (hv : vF (.one k t kids o)) (hk : ¬ k = 3) : Elt k t kids (fmt1 k t (fmtF false kids)) := by
  rcases hv.1 with ⟨rfl, rfl, hw⟩ | ⟨rfl, rfl, hs⟩ | ⟨rfl, rfl, h⟩
  · exact .inl ⟨rfl, rfl, rfl, hw⟩
  · exact .inr (.inl ⟨rfl, rfl, rfl, hs⟩)
  · exact absurd rfl hk
end Go.Proofs.YtpflfbfbjmoggaaDoor.Sx
