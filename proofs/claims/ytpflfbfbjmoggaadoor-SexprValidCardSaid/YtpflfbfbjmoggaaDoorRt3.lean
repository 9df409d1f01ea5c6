/- What SexprPrefix asks of texts: one that breaks off, and two nodes in a row. No condition but the limits. -/
import Derived.Test.YtpflfbfbjmoggaaDoorRt2
set_option linter.unusedVariables false
set_option linter.unusedSimpArgs false
namespace Go.Proofs.YtpflfbfbjmoggaaDoor.Sx

theorem parse_cut (f : Fo) (x : Nat) (hv : vF f) (hd : dep f ≤ 39) (hx : x ≤ (fmtF false f).length) (hl : (fmtF false f).length ≤ 65000) : ∃ a, parseR (40 :: (fmtF false f).take x) = .bad 2 a := by
  obtain ⟨g, hg, ht⟩ := fmt_txt f 1 false hv
  have hdg := sameF_dep _ _ hg
  have hlen : ((fmtF false f).take x).length = x := by rw [List.length_take]; omega
  obtain ⟨a, ha⟩ := elems_cut g 1 false _ ((fmtF false f).take x) ((fmtF false f).drop x) 1 (x + 1) ht (List.take_append_drop _ _) (by omega) (by omega) (by omega)
  refine ⟨a, ?_⟩
  have h0 : skipN false (40 :: (fmtF false f).take x) = 0 := skipN_else (by decide) (by decide) (by decide)
  rw [parseR, if_neg (by simp only [List.length_cons]; omega)]
  rw [elems_list (c := 40) (r := (fmtF false f).take x) (p1 := 0) (by rw [h0]) (by rw [h0]; simp) (by decide), if_neg (by omega), List.length_cons, hlen, show 0 + 1 = 1 from rfl, ha]

theorem skipN_fmt1 {k : Int} {t : List UInt8} {kids : Fo} {o : Int} (hv : vF (.one k t kids o)) (s r : List UInt8) : skipN false (fmt1 k t s ++ r) = 0 := by
  rcases hv.1 with ⟨rfl, rfl, hw⟩ | ⟨rfl, rfl, hs⟩ | ⟨rfl, rfl, hk⟩
  · simp only [fmt1, if_true]
    cases t with
    | nil => simp [okW] at hw
    | cons c t =>
      simp [okW] at hw
      exact skipN_word hw.1.1
  · simp only [fmt1, show ¬ ((2 : Int) = 1) from by decide, if_false, if_true]
    exact skipN_else (by decide) (by decide) (by decide)
  · simp only [fmt1, show ¬ ((3 : Int) = 1) from by decide, show ¬ ((3 : Int) = 2) from by decide, if_false]
    exact skipN_else (by decide) (by decide) (by decide)

theorem parse_two (f : Fo) (k : Int) (t : List UInt8) (kids : Fo) (o : Int) (hv : vF f) (hv2 : vF (.one k t kids o)) (hd : dep f ≤ 39) (hd2 : dep (.one k t kids o) ≤ 40)
    (hl : (fmt1 3 [] (fmtF false f)).length + (fmt1 k t (fmtF false kids)).length ≤ 65000) :
    ∃ g1 g2 o1 q, parseR (fmt1 3 [] (fmtF false f) ++ (32 :: fmt1 k t (fmtF false kids))) = .ok (.cons 3 [] g1 o1 (.cons k t g2 (((fmt1 3 [] (fmtF false f)).length + 1 : Nat) : Int) .nil)) q := by
  obtain ⟨g1, hg1, ht1⟩ := fmt_txt f 1 false hv
  have hdg := sameF_dep _ _ hg1
  obtain ⟨g, hg, ht⟩ := fmt_txt (.one k t kids o) (fmt1 3 [] (fmtF false f)).length true hv2
  have hdg2 := sameF_dep _ _ hg
  have ex : fmtF true (.one k t kids o) = 32 :: fmt1 k t (fmtF false kids) := by simp [Fo.one, fmtF]
  rw [ex] at ht
  cases g with
  | nil => exact hg.elim
  | cons k' t' g2 o2 rest =>
    obtain ⟨rfl, rfl, hk2, hr2⟩ := hg
    cases rest with
    | cons => exact hr2.elim
    | nil =>
      have hT : TxtF 0 false (.cons 3 [] g1 ((0 + ([] : List UInt8).length : Nat) : Int) (.cons k t g2 o2 .nil)) (fmt1 3 [] (fmtF false f) ++ (32 :: fmt1 k t (fmtF false kids))) := by
        refine ⟨[], fmt1 3 [] (fmtF false f), _, rfl, Sep.nil, by simp, rfl, .inr (.inr ⟨rfl, rfl, _, rfl, ht1⟩), ?_⟩
        simpa using ht
      have ho2 : o2 = (((fmt1 3 [] (fmtF false f)).length + 1 : Nat) : Int) := by
        obtain ⟨a, e, y, hx, ha, hne, hoo, _⟩ := ht
        rw [hoo]
        have hn := hne rfl
        have h1 := ha (e ++ y)
        rw [← hx, skipN_32 (by decide) (by decide)] at h1
        have h0 := skipN_fmt1 hv2 (fmtF false kids) []
        rw [List.append_nil] at h0
        rw [h0] at h1
        cases a with
        | nil => exact absurd rfl hn
        | cons c a =>
          simp only [List.length_cons] at h1 ⊢
          omega
      subst ho2
      have hlen : (fmt1 3 [] (fmtF false f) ++ (32 :: fmt1 k t (fmtF false kids))).length = (fmt1 3 [] (fmtF false f)).length + ((fmt1 k t (fmtF false kids)).length + 1) := by simp
      have e : parseR (fmt1 3 [] (fmtF false f) ++ (32 :: fmt1 k t (fmtF false kids))) = elems ((fmt1 3 [] (fmtF false f) ++ (32 :: fmt1 k t (fmtF false kids))).length + 1) 0 0 (fmt1 3 [] (fmtF false f) ++ (32 :: fmt1 k t (fmtF false kids))) := by rw [parseR, if_neg (by rw [hlen]; omega)]
      have := elems_txt _ 0 false _ [] 0 ((fmt1 3 [] (fmtF false f) ++ (32 :: fmt1 k t (fmtF false kids))).length + 1) hT (.inl ⟨rfl, rfl, .inl rfl⟩) (by
        simp only [dep, Fo.one] at hdg hdg2 hd2 ⊢
        simp only [if_true]
        omega) (by rw [List.append_nil]; omega)
      rw [List.append_nil] at this
      exact ⟨g1, g2, _, _, e.trans this⟩
end Go.Proofs.YtpflfbfbjmoggaaDoor.Sx
