/- Formatted nodes are read back; a text that breaks off inside a list is faulty; how long a text can be. No condition but the limits. -/
import Derived.Test.YtpflfbfbjmoggaaDoorRt
import Derived.Test.YtpflfbfbjmoggaaDoorAnyA
set_option linter.unusedVariables false
set_option linter.unusedSimpArgs false
namespace Go.Proofs.YtpflfbfbjmoggaaDoor.Sx

def okW (t : List UInt8) : Bool := !t.isEmpty && t.all (fun c => wordB (c.toNat : Int)) && decide (t.length ≤ 24)
def okS (t : List UInt8) : Bool := t.all (fun c => strB (c.toNat : Int)) && decide (t.length ≤ 24)

/-- nodes that can be written -/
def vF : Fo → Prop
  | .nil => True
  | .cons k t kids o rest => ((k = 1 ∧ kids = .nil ∧ okW t = true) ∨ (k = 2 ∧ kids = .nil ∧ okS t = true) ∨ (k = 3 ∧ t = [] ∧ vF kids)) ∧ vF rest

/-- the same nodes but for the offsets -/
def sameF : Fo → Fo → Prop
  | .nil, .nil => True
  | .cons k t kids _ rest, .cons k' t' kids' _ rest' => k = k' ∧ t = t' ∧ sameF kids kids' ∧ sameF rest rest'
  | _, _ => False

theorem vF_of_ok {W T : List (List UInt8)} (hW : ∀ u ∈ W, okW u = true) (hT : ∀ u ∈ T, okS u = true) (f : Fo) : ∀ d, okF W T false d f → vF f ∧ dep f ≤ d := by
  induction f with
  | nil => intro d _; exact ⟨trivial, Nat.zero_le _⟩
  | cons k t kids o rest ihk ihr =>
    intro d h
    obtain ⟨h1, h2⟩ := h
    obtain ⟨r1, r2⟩ := ihr d h2
    rcases h1 with ⟨rfl, rfl, h | h⟩ | ⟨rfl, rfl, rfl, hd, _, hk⟩ | ⟨hb, _⟩ | ⟨hb, _⟩
    · exact ⟨⟨.inl ⟨h.1, rfl, hW _ h.2⟩, r1⟩, by simp [dep, h.1]; exact r2⟩
    · exact ⟨⟨.inr (.inl ⟨h.1, rfl, hT _ h.2⟩), r1⟩, by simp [dep, h.1]; exact r2⟩
    · obtain ⟨k1, k2⟩ := ihk _ hk
      exact ⟨⟨.inr (.inr ⟨rfl, rfl, k1⟩), r1⟩, by simp only [dep, if_true]; omega⟩
    · cases hb
    · cases hb

/-- how long the text of a node can be that AnyNode makes -/
def lenB : Nat → Nat
  | 0 => 50
  | d + 1 => 2 + 4 * (1 + lenB d)
theorem lenB_ge (d : Nat) : 50 ≤ lenB d := by
  induction d with
  | zero => exact Nat.le_refl _
  | succ d ih => simp only [lenB]; omega

theorem okW_len {t : List UInt8} (h : okW t = true) : t.length ≤ 24 := by simp [okW] at h; exact h.2
theorem okS_len {t : List UInt8} (h : okS t = true) : t.length ≤ 24 := by simp [okS] at h; exact h.2

theorem len_of_ok {W T : List (List UInt8)} (hW : ∀ u ∈ W, okW u = true) (hT : ∀ u ∈ T, okS u = true) (f : Fo) : ∀ d p, okF W T false d f → (fmtF p f).length ≤ f.len * (1 + lenB d) := by
  induction f with
  | nil => intro d p _; simp [fmtF]
  | cons k t kids o rest ihk ihr =>
    intro d p h
    obtain ⟨h1, h2⟩ := h
    have r1 := ihr d true h2
    have hp : (if p = true then [32] else ([] : List UInt8)).length ≤ 1 := by cases p <;> simp
    have hl : (fmt1 k t (fmtF false kids)).length ≤ lenB d := by
      have h50 := lenB_ge d
      rcases h1 with ⟨rfl, rfl, h | h⟩ | ⟨rfl, rfl, rfl, hd, h4, hk⟩ | ⟨hb, _⟩ | ⟨hb, _⟩
      · have := okW_len (hW _ h.2)
        simp only [fmt1, h.1, if_true]; omega
      · have := okS_len (hT _ h.2)
        have := escT_len t
        simp only [fmt1, h.1, quoteB, show ¬ ((2 : Int) = 1) from by decide, if_false, if_true, List.length_cons, List.length_append, List.length_nil]; omega
      · obtain ⟨d, rfl⟩ : ∃ d', d = d' + 1 := ⟨d - 1, by omega⟩
        have := ihk d false hk
        have h5 : kids.len * (1 + lenB d) ≤ 4 * (1 + lenB d) := Nat.mul_le_mul_right _ h4
        simp only [fmt1, show ¬ ((3 : Int) = 1) from by decide, show ¬ ((3 : Int) = 2) from by decide, if_false, List.length_cons, List.length_append, List.length_nil, lenB]
        omega
      · cases hb
      · cases hb
    simp only [fmtF, List.length_append, Fo.len, Nat.add_mul]
    omega

theorem fmt_txt (f : Fo) : ∀ (p : Nat) (glue : Bool), vF f → ∃ g, sameF f g ∧ TxtF p glue g (fmtF glue f) := by
  induction f with
  | nil => intro p glue _; exact ⟨.nil, trivial, Sep.nil⟩
  | cons k t kids o rest ihk ihr =>
    intro p glue h
    obtain ⟨h1, h2⟩ := h
    have hsp : Sep (if glue = true then [32] else []) := by
      cases glue
      · exact Sep.nil
      · intro r
        simp only [if_true, List.cons_append, List.nil_append]
        rw [skipN_32 (by decide) (by decide)]
        simp; omega
    have hne : glue = true → (if glue = true then [32] else ([] : List UInt8)) ≠ [] := by intro h; simp [h]
    rcases h1 with ⟨rfl, rfl, hw⟩ | ⟨rfl, rfl, hs⟩ | ⟨rfl, rfl, hk⟩
    · obtain ⟨g, hg, ht⟩ := ihr (p + (if glue = true then [32] else ([] : List UInt8)).length + (fmt1 1 t (fmtF false .nil)).length) true h2
      refine ⟨.cons 1 t .nil _ g, ⟨rfl, rfl, trivial, hg⟩, _, _, _, by simp only [fmtF, List.append_assoc]; rfl, hsp, hne, rfl, .inl ⟨rfl, rfl, rfl, ?_, ?_, okW_len hw⟩, ht⟩
      · simp [okW] at hw; exact hw.1.1
      · simp [okW] at hw; exact hw.1.2
    · obtain ⟨g, hg, ht⟩ := ihr (p + (if glue = true then [32] else ([] : List UInt8)).length + (fmt1 2 t (fmtF false .nil)).length) true h2
      refine ⟨.cons 2 t .nil _ g, ⟨rfl, rfl, trivial, hg⟩, _, _, _, by simp only [fmtF, List.append_assoc]; rfl, hsp, hne, rfl, .inr (.inl ⟨rfl, rfl, rfl, ?_, by have := okS_len hs; omega⟩), ht⟩
      simp [okS] at hs; exact hs.1
    · obtain ⟨g, hg, ht⟩ := ihr (p + (if glue = true then [32] else ([] : List UInt8)).length + (fmt1 3 [] (fmtF false kids)).length) true h2
      obtain ⟨g2, hg2, ht2⟩ := ihk (p + (if glue = true then [32] else ([] : List UInt8)).length + 1) false hk
      exact ⟨.cons 3 [] g2 _ g, ⟨rfl, rfl, hg2, hg⟩, _, _, _, by simp only [fmtF, List.append_assoc]; rfl, hsp, hne, rfl, .inr (.inr ⟨rfl, rfl, _, rfl, ht2⟩), ht⟩

theorem sameF_dep (f : Fo) : ∀ g, sameF f g → dep f = dep g := by
  induction f with
  | nil => intro g h; cases g with | nil => rfl | cons => exact h.elim
  | cons k t kids o rest ihk ihr =>
    intro g h
    cases g with
    | nil => exact h.elim
    | cons k' t' kids' o' rest' =>
      obtain ⟨rfl, rfl, h1, h2⟩ := h
      simp only [dep, ihk _ h1, ihr _ h2]
theorem sameF_len (f : Fo) : ∀ g, sameF f g → f.len = g.len := by
  induction f with
  | nil => intro g h; cases g with | nil => rfl | cons => exact h.elim
  | cons k t kids o rest _ ihr =>
    intro g h
    cases g with
    | nil => exact h.elim
    | cons k' t' kids' o' rest' => simp only [Fo.len, ihr _ h.2.2.2]

/-! ### a text that breaks off -/
theorem skipN_pre (u : List UInt8) : ∀ (ic : Bool) (v : List UInt8), skipN ic (u ++ v) = (u ++ v).length → skipN ic u = u.length := by
  induction u with
  | nil => intro ic v _; simp [skipN]
  | cons c r ih =>
    intro ic v h
    rw [List.cons_append, skipN] at h
    rw [skipN]
    have hle := fun ic => skipN_le ic (r ++ v)
    simp only [List.length_cons] at h ⊢
    by_cases h1 : (c.toNat : Int) = 10
    · rw [if_pos h1] at h ⊢; rw [ih false v (by omega)]
    · rw [if_neg h1] at h ⊢
      by_cases h2 : ic = true ∨ (c.toNat : Int) = 32
      · rw [if_pos h2] at h ⊢; rw [ih ic v (by omega)]
      · rw [if_neg h2] at h ⊢
        by_cases h3 : (c.toNat : Int) = 59
        · rw [if_pos h3] at h ⊢; rw [ih true v (by omega)]
        · rw [if_neg h3] at h; omega

theorem Sep.pre {a u v : List UInt8} (h : Sep a) (e : u ++ v = a) : skipN false u = u.length := by
  refine skipN_pre u false v ?_
  have := h []
  rw [List.append_nil] at this
  rw [e, this]
  rfl

theorem elems_end {n o p : Nat} {u : List UInt8} (ho : 0 < o) (h : skipN false u = u.length) : elems (n + 1) o p u = .bad 2 (p + u.length) := by
  rw [elems_nil rfl (by rw [h]; simp), h, if_pos ho]

theorem quot_cut (t : List UInt8) : ∀ (f : Nat) (u v : List UInt8), (∀ c ∈ t, strB (c.toNat : Int) = true) → u ++ v = escT t → u.length < f → ∃ k, quot f u = .bad k := by
  induction t with
  | nil =>
    intro f u v _ e hf
    obtain ⟨f, rfl⟩ : ∃ f', f = f' + 1 := ⟨f - 1, by omega⟩
    have : u = [] := by cases u with | nil => rfl | cons => simp [escT] at e
    subst this
    exact ⟨0, rfl⟩
  | cons c r ih =>
    intro f u v h e hf
    obtain ⟨f, rfl⟩ : ∃ f', f = f' + 1 := ⟨f - 1, by omega⟩
    cases u with
    | nil => exact ⟨0, rfl⟩
    | cons d u =>
      cases he : escB (c.toNat : Int) with
      | true =>
        rw [escT_yes he] at e
        simp only [List.cons_append, List.cons.injEq] at e
        obtain ⟨rfl, e⟩ := e
        cases u with
        | nil => exact ⟨0, quot_bad (by decide) (strStep_esc_end (by decide))⟩
        | cons d u =>
          simp only [List.cons_append, List.cons.injEq] at e
          obtain ⟨rfl, e⟩ := e
          simp only [List.length_cons] at hf
          obtain ⟨k, hk⟩ := ih f u v (fun x hx => h x (by simp [hx])) e (by omega)
          refine ⟨k + 2, ?_⟩
          rw [quot_step (m := 2) (d := d) (by decide) (strStep_esc (by decide) he)]
          simp only [List.drop_succ_cons, List.drop_zero]
          rw [hk]; rfl
      | false =>
        have hne : ((c.toNat : Int) == 34) = false ∧ ((c.toNat : Int) == 92) = false := by
          simp [escB] at he
          simp [he]
        rw [escT_no he] at e
        simp only [List.cons_append, List.cons.injEq] at e
        obtain ⟨rfl, e⟩ := e
        simp only [List.length_cons] at hf
        obtain ⟨k, hk⟩ := ih f u v (fun x hx => h x (by simp [hx])) e (by omega)
        refine ⟨k + 1, ?_⟩
        rw [quot_step (m := 1) (d := d) hne.1 (strStep_plain hne.2 (h d (by simp)))]
        simp only [List.drop_succ_cons, List.drop_zero]
        rw [hk]; rfl

/-- a list's text, broken off -/
theorem elems_cut (f : Fo) : ∀ (p : Nat) (glue : Bool) (x u v : List UInt8) (o n : Nat), TxtF p glue f x → u ++ v = x → 0 < o → dep f + o ≤ 40 → u.length < n → ∃ a, elems n o p u = .bad 2 a := by
  induction f with
  | nil =>
    intro p glue x u v o n h e ho _ hn
    obtain ⟨n, rfl⟩ : ∃ n', n = n' + 1 := ⟨n - 1, by omega⟩
    exact ⟨_, elems_end ho (Sep.pre h e)⟩
  | cons k t kids ofs rest ihk ihr =>
    intro p glue x u v o n h e ho hd hn
    obtain ⟨n, rfl⟩ : ∃ n', n = n' + 1 := ⟨n - 1, by omega⟩
    obtain ⟨a, el, y, rfl, ha, hg, rfl, hel, hrest⟩ := h
    simp only [dep] at hd
    rcases List.append_eq_append_iff.1 e with ⟨a', rfl, e2⟩ | ⟨u', rfl, e2⟩
    · exact ⟨_, elems_end ho (Sep.pre ha rfl)⟩
    · -- u = a ++ u', el ++ y = u' ++ v
      cases u' with
      | nil =>
        refine ⟨_, elems_end ho (Sep.pre (v := []) ha ?_)⟩
        simp
      | cons c u' =>
      have hs : ∀ z, skipN false (a ++ z) = a.length + skipN false z := ha
      simp only [List.length_append, List.length_cons] at hn
      rcases List.append_eq_append_iff.1 e2 with ⟨y', e3, rfl⟩ | ⟨el', rfl, e3⟩
      · -- c :: u' = el ++ y', y = y' ++ v
        have hnw : NW y' := by
          cases rest with
          | nil =>
            by_cases hy : y' = []
            · exact .inl hy
            · have h0 : skipN false y' = y'.length := Sep.pre (v := v) hrest rfl
              cases y' with
              | nil => exact absurd rfl hy
              | cons d r =>
                refine .inr ⟨d, r, rfl, ?_⟩
                cases hh : wordB (d.toNat : Int)
                · rfl
                · rw [skipN_word hh] at h0; simp at h0
          | cons k2 t2 kids2 o2 rest2 =>
            obtain ⟨a2, e5, y2, hy2, ha2, hg2, _⟩ := hrest
            cases y' with
            | nil => exact .inl rfl
            | cons d r =>
              have hne := hg2 rfl
              cases a2 with
              | nil => exact absurd rfl hne
              | cons d2 r2 =>
                simp only [List.cons_append, List.cons.injEq] at hy2
                obtain ⟨rfl, _⟩ := hy2
                have := ha2.nw hne (z := [])
                rw [List.append_nil] at this
                rcases this with h | ⟨c3, r3, h, hc⟩
                · cases h
                · cases h; exact .inr ⟨_, _, rfl, hc⟩
        rw [e3]
        have hn' : el.length + y'.length = u'.length + 1 := by have := congrArg List.length e3; simp at this; omega
        rcases hel with ⟨rfl, rfl, rfl, hne, hw, hl⟩ | ⟨rfl, rfl, rfl, hst, hl⟩ | ⟨rfl, rfl, z, rfl, hz⟩
        · obtain ⟨c, r, rfl⟩ : ∃ c r, el = c :: r := by cases el with | nil => exact absurd rfl hne | cons c r => exact ⟨c, r, rfl⟩
          have hc := hw c (by simp)
          have h0 : skipN false ((c :: r) ++ y') = 0 := skipN_word hc
          have hwn := wordN_app (c :: r) y' hw hnw
          simp only [List.cons_append] at h0 hwn ⊢
          obtain ⟨b, hb⟩ := ihr _ _ _ y' v o n hrest rfl ho (by omega) (by simp only [List.length_cons] at hn'; omega)
          refine ⟨b, ?_⟩
          rw [elems_word (c := c) (r := r ++ y') (p1 := p + a.length) (by rw [hs, h0]; rfl) (by rw [hs, h0]; simp) hc, if_neg (by rw [hwn]; omega), hwn]
          have ed : (c :: (r ++ y')).drop (c :: r).length = y' := by simp
          rw [ed, hb]; rfl
        · have h0 : skipN false (quoteB t ++ y') = 0 := skipN_else (by decide) (by decide) (by decide)
          have eq1 : quoteB t ++ y' = 34 :: (escT t ++ 34 :: y') := by simp [quoteB]
          have hq : (quoteB t).length = (escT t).length + 2 := by simp [quoteB]
          rw [hq] at hrest hn'
          obtain ⟨b, hb⟩ := ihr _ _ _ y' v o n hrest rfl ho (by omega) (by omega)
          refine ⟨b, ?_⟩
          rw [elems_str (c := 34) (r := escT t ++ 34 :: y') (p1 := p + a.length) (by rw [hs, h0]; rfl) (by rw [hs, h0, ← eq1]; simp) (by decide) (by decide)]
          rw [quot_esc t _ _ hst (by simp; omega)]
          dsimp only
          rw [if_neg (by omega)]
          have ed : (escT t ++ 34 :: y').drop ((escT t).length + 1) = y' := by
            rw [← List.drop_drop, List.drop_append_of_le_length (Nat.le_refl _)]; simp
          rw [ed, show p + a.length + 1 + ((escT t).length + 1) = p + a.length + ((escT t).length + 2) from by omega, hb]; rfl
        · have h0 : skipN false (40 :: (z ++ [41]) ++ y') = 0 := skipN_else (by decide) (by decide) (by decide)
          simp only [if_true] at hd
          have eq1 : 40 :: (z ++ [41]) ++ y' = 40 :: (z ++ 41 :: y') := by simp
          have hq : (40 :: (z ++ [41])).length = z.length + 2 := by simp
          rw [hq] at hrest hn'
          obtain ⟨b, hb⟩ := ihr _ _ _ y' v o n hrest rfl ho (by omega) (by omega)
          refine ⟨b, ?_⟩
          rw [elems_list (c := 40) (r := z ++ 41 :: y') (p1 := p + a.length) (by rw [hs, h0]; rfl) (by rw [hs, h0, ← eq1]; simp) (by decide), if_neg (by omega)]
          rw [elems_txt kids _ _ _ (41 :: y') (o + 1) n hz (.inr ⟨by omega, _, rfl⟩) (by omega) (by simp only [List.length_append, List.length_cons]; omega)]
          dsimp only
          rw [if_neg (by omega)]
          have ed : (z ++ 41 :: y').drop (p + a.length + 1 + z.length + 0 - (p + a.length)) = y' := by
            rw [show p + a.length + 1 + z.length + 0 - (p + a.length) = z.length + 1 from by omega, ← List.drop_drop, List.drop_append_of_le_length (Nat.le_refl _)]; simp
          rw [ed, show p + a.length + 1 + z.length + 0 + 1 = p + a.length + (z.length + 2) from by omega, hb]; rfl
      · -- el = c :: u' ++ el', v = el' ++ y
        rcases hel with ⟨rfl, rfl, rfl, hne, hw, hl⟩ | ⟨rfl, rfl, heq, hst, hl⟩ | ⟨rfl, rfl, z, heq, hz⟩
        · have hw' : ∀ d ∈ c :: u', wordB (d.toNat : Int) = true := fun d hd => hw d (by simp at hd ⊢; rcases hd with h | h; exact .inl h; exact .inr (.inl h))
          have hc := hw' c (by simp)
          have hwn := wordN_app (c :: u') [] hw' (.inl rfl)
          rw [List.append_nil] at hwn
          have h0 : skipN false (c :: u') = 0 := skipN_word hc
          obtain ⟨n, rfl⟩ : ∃ n', n = n' + 1 := ⟨n - 1, by omega⟩
          simp only [List.length_append, List.length_cons] at hl
          refine ⟨p + a.length + (c :: u').length + ([] : List UInt8).length, ?_⟩
          rw [elems_word (c := c) (r := u') (p1 := p + a.length) (by rw [hs, h0]; rfl) (by rw [hs, h0]; simp) hc, if_neg (by rw [hwn]; simp; omega), hwn]
          have ed : (c :: u').drop (c :: u').length = [] := by simp
          rw [ed, elems_end ho (by rfl)]; rfl
        · simp only [quoteB, List.cons_append, List.cons.injEq] at heq
          obtain ⟨rfl, heq⟩ := heq
          have h0 : skipN false (34 :: u') = 0 := skipN_else (by decide) (by decide) (by decide)
          have hcut : ∃ v', u' ++ v' = escT t ∨ (u' = escT t ++ [34] ∧ el' = []) := by
            rcases List.append_eq_append_iff.1 heq with ⟨b', hb1, hb2⟩ | ⟨b', hb1, hb2⟩
            · exact ⟨b', .inl hb1.symm⟩
            · cases b' with
              | nil => exact ⟨[], .inl (by simpa using hb1)⟩
              | cons d b' =>
                simp only [List.cons_append, List.cons.injEq] at hb2
                obtain ⟨rfl, hb2⟩ := hb2
                have : b' = [] ∧ el' = [] := List.append_eq_nil_iff.1 hb2.symm
                obtain ⟨rfl, rfl⟩ := this
                exact ⟨[], .inr ⟨hb1, rfl⟩⟩
          obtain ⟨v', hv | ⟨rfl, rfl⟩⟩ := hcut
          · obtain ⟨b, hb⟩ := quot_cut t (u'.length + 1) u' v' hst hv (by omega)
            refine ⟨p + a.length + 1 + b, ?_⟩
            rw [elems_str (c := 34) (r := u') (p1 := p + a.length) (by rw [hs, h0]; rfl) (by rw [hs, h0]; simp) (by decide) (by decide), hb]
          · obtain ⟨n, rfl⟩ : ∃ n', n = n' + 1 := ⟨n - 1, by omega⟩
            refine ⟨p + a.length + 1 + ((escT t).length + 1) + ([] : List UInt8).length, ?_⟩
            rw [elems_str (c := 34) (r := escT t ++ [34]) (p1 := p + a.length) (by rw [hs, h0]; rfl) (by rw [hs, h0]; simp) (by decide) (by decide)]
            rw [quot_esc t _ _ hst (by simp; omega)]
            dsimp only
            rw [if_neg (by omega)]
            have ed : (escT t ++ [34]).drop ((escT t).length + 1) = [] := by simp
            rw [ed, elems_end ho (by rfl)]; rfl
        · simp only [List.cons_append, List.cons.injEq] at heq
          obtain ⟨rfl, heq⟩ := heq
          have h0 : skipN false (40 :: u') = 0 := skipN_else (by decide) (by decide) (by decide)
          simp only [if_true] at hd
          rcases List.append_eq_append_iff.1 heq with ⟨b', hb1, hb2⟩ | ⟨b', hb1, hb2⟩
          · obtain ⟨b, hb⟩ := ihk _ _ _ u' b' (o + 1) n hz hb1.symm (by omega) (by omega) (by omega)
            refine ⟨b, ?_⟩
            rw [elems_list (c := 40) (r := u') (p1 := p + a.length) (by rw [hs, h0]; rfl) (by rw [hs, h0]; simp) (by decide), if_neg (by omega), hb]
          · cases b' with
            | nil =>
              rw [List.append_nil] at hb1
              obtain ⟨b, hb⟩ := ihk _ _ _ u' [] (o + 1) n hz (by rw [hb1]; simp) (by omega) (by omega) (by omega)
              refine ⟨b, ?_⟩
              rw [elems_list (c := 40) (r := u') (p1 := p + a.length) (by rw [hs, h0]; rfl) (by rw [hs, h0]; simp) (by decide), if_neg (by omega), hb]
            | cons d b' =>
              simp only [List.cons_append, List.cons.injEq] at hb2
              obtain ⟨rfl, hb2⟩ := hb2
              have : b' = [] ∧ el' = [] := List.append_eq_nil_iff.1 hb2.symm
              obtain ⟨rfl, rfl⟩ := this
              subst hb1
              simp only [List.length_append, List.length_cons, List.length_nil] at hn
              obtain ⟨n, rfl⟩ : ∃ n', n = n' + 1 := ⟨n - 1, by omega⟩
              refine ⟨p + a.length + 1 + z.length + 0 + 1 + ([] : List UInt8).length, ?_⟩
              rw [elems_list (c := 40) (r := z ++ [41]) (p1 := p + a.length) (by rw [hs, h0]; rfl) (by rw [hs, h0]; simp) (by decide), if_neg (by omega)]
              rw [elems_txt kids _ _ _ [41] (o + 1) (n + 1) hz (.inr ⟨by omega, _, rfl⟩) (by omega) (by simp only [List.length_append, List.length_cons, List.length_nil]; omega)]
              dsimp only
              rw [if_neg (by omega)]
              have ed : (z ++ [41]).drop (p + a.length + 1 + z.length + 0 - (p + a.length)) = [] := by
                rw [show p + a.length + 1 + z.length + 0 - (p + a.length) = z.length + 1 from by omega]; simp
              rw [ed, elems_end ho (by rfl)]; rfl
end Go.Proofs.YtpflfbfbjmoggaaDoor.Sx
