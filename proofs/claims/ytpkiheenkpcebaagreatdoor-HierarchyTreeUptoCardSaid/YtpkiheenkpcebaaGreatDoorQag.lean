/- Supertypes compose along a chain; the law of the tree. Pure. No condition. The hierarchies that the generator makes stand, with short chains; how large a supertype is. Pure. No condition. telmake.Known. No condition but bounded sizes. HierarchyTree: what is made of the first slice of integers; its drawn region's values; Mod. No condition but bounded sizes. -/
import Derived.Test.YtpkiheenkpcebaaGreatDoorQad
import Derived.Test.YtpkiheenkpcebaaGreatDoorMbj
import Derived.Test.YtpkiheenkpcebaaGreatDoorMay
import Derived.Test.YtpkiheenkpcebaaGreatDoorQaf
set_option linter.unusedVariables false
set_option linter.unusedSimpArgs false
namespace Go.Proofs.YtpkiheenkpcebaaGreatDoor.Sx
theorem nthF_bar (f : Fo) : ∀ i x, barF f → nthF f i = some x → barF x.kids ∧ (x.k = 5 → x.kids = .nil) := by
  induction f with
  | nil => intro i x _ h; cases h
  | cons k t kids o r _ ih =>
    intro i x hb h
    cases i with
    | zero => cases h; exact ⟨hb.2.1, hb.1⟩
    | succ i => exact ih i x hb.2.2 h
theorem nthF_plain (f : Fo) : ∀ i x, plainL f = true → nthF f i = some x → plain1 x.k x.o x.kids = true := by
  induction f with
  | nil => intro i x _ h; cases h
  | cons k t kids o r _ ih =>
    intro i x hb h
    rw [plainL_cons, Bool.and_eq_true] at hb
    cases i with
    | zero => cases h; exact hb.1
    | succ i => exact ih i x hb.2 h
theorem nthF_closed {V : Int} (f : Fo) : ∀ j i x, closedL 2 j V f = true → nthF f i = some x → closed1 x.k x.o x.kids V = true := by
  induction f with
  | nil => intro j i x _ h; cases h
  | cons k t kids o r _ ih =>
    intro j i x hc h
    rw [closedL_cons, Bool.and_eq_true, around2] at hc
    cases i with
    | zero => cases h; exact hc.1
    | succ i => exact ih (j + 1) i x hc.2 h
theorem insT_2 {x : Tm} (h : x.k = 2) (A : Fo) : insT x A = ⟨2, x.t, repL (Gi A) shi 2 0 0 x.kids, x.o⟩ := by
  obtain ⟨k, t, kids, o⟩ := x
  simp only at h
  subst h
  exact rep1_2 t o kids
theorem Lv.mono {ds : List De} {v : Int} {b b' : Nat} {n : List UInt8} {x : Tm} (h : Lv ds v b n x) (hb : b ≤ b') : Lv ds v b' n x := ⟨h.k, h.t, h.plain, h.bar, h.closed, Nat.le_trans h.size hb, h.dec⟩
theorem Lv.ins {ds : List De} {v : Int} {b : Nat} {n : List UInt8} {x : Tm} (h : Lv ds v b n x) {A : Fo} {V : Int} {M : Nat} (hV : 0 ≤ V) (hv : v = (A.len : Int)) (hp : plainL A = true) (hb : barF A) (hc : closedL 2 0 V A = true) (hM : ∀ i y, nthF A i = some y → fsize y.kids ≤ M) : Lv ds V (b * (M + 1)) n (insT x A) := by
  have e := insT_2 h.k A
  refine ⟨by rw [e], by rw [e]; exact h.t, ?_, ?_, ?_, ?_, ?_⟩
  · rw [e]; exact plainL_rep (fun i y hy => nthF_plain A _ y hp hy) x.kids 0 h.plain
  · rw [e]; exact barF_rep (fun i y hy => nthF_bar A _ y hb hy) x.kids 0 h.plain h.bar
  · rw [e]; exact closedL_ins hV (fun i y hy => nthF_closed A 0 i y hc hy) x.kids 0 h.plain h.bar (by rw [← hv]; exact h.closed)
  · rw [e]
    have h1 := repL_size (G := Gi A) (sh := shi) M (fun i y hy => hM _ y hy) x.kids 2 0 0
    exact Nat.le_trans h1 (Nat.mul_le_mul_right _ h.size)
  · obtain ⟨e', h1, h2⟩ := h.dec
    exact ⟨e', h1, by rw [e]; show ((repL (Gi A) shi 2 0 0 x.kids).len : Int) = _; rw [repL_len]; exact h2⟩
theorem St.lv {ds : List De} {d e : De} (h : St ds d) (hk : d.super.k = 2) (he : findD ds d.super.t = some e) : Lv ds d.arity 12 e.name d.super := by
  refine ⟨hk, (findD_name he).symm, h.plain hk, h.g.2.2.2.2.1, h.closed hk, h.g.2.2.2.2.2.2.1, ?_⟩
  obtain ⟨e', h1, h2⟩ := h.sup hk
  exact ⟨e', by rw [findD_name he]; exact h1, h2⟩
theorem lv_ok {ds : List De} (W : WF ds) {d : De} {r : List De} (h : Ch ds d r) (hd : St ds d) : ∀ q ∈ lvD d r, Lv ds d.arity (12 * 4 ^ r.length) q.1 q.2 := by
  induction h with
  | top _ => intro q hq; cases hq
  | @up d e r h1 h2 h3 ih =>
    have he := W e (findD_mem h2)
    intro q hq
    rcases List.mem_cons.1 hq with rfl | hq
    · exact (hd.lv h1 h2).mono (Nat.le_mul_of_pos_right _ (Nat.pow_pos (by decide)))
    · obtain ⟨p, hp, rfl⟩ := List.mem_map.1 hq
      have h4 := ih he p hp
      obtain ⟨e', h5, h6⟩ := hd.sup h1
      rw [h2] at h5
      cases h5
      have h7 := h4.ins (A := d.super.kids) (V := d.arity) (M := 3) hd.g.1 h6.symm (hd.plain h1) hd.g.2.2.2.2.1 (hd.closed h1) hd.g.2.2.2.2.2.2.2
      exact h7.mono (by rw [List.length_cons, Nat.pow_succ, Nat.mul_assoc]; exact Nat.le_refl _)
/-- one step up: the same chain -/
theorem lvT_tail {ds : List De} (W : WF ds) {d e : De} {r : List De} (t : Tm) (hd : St ds d) (h1 : d.super.k = 2) (h2 : findD ds d.super.t = some e) (h3 : Ch ds e r) : lvT t d (e :: r) = (d.name, t) :: lvT (insT d.super t.kids) e r := by
  have he := W e (findD_mem h2)
  obtain ⟨e', h5, h6⟩ := hd.sup h1
  rw [h2] at h5
  cases h5
  rw [lvT, lvD, List.map_cons, List.map_map, lvT]
  congr 2
  refine List.map_congr_left fun q hq => ?_
  have hq' := lv_ok W h3 he q hq
  have hk2 := insT_2 h1 t.kids
  have hqe : q.2 = ⟨2, q.2.t, q.2.kids, q.2.o⟩ := by
    have := hq'.k
    cases hq2 : q.2 with
    | mk a b c d => rw [hq2] at this; simp only at this; rw [this]
  show (q.1, insT (insT q.2 d.super.kids) t.kids) = (q.1, insT q.2 (insT d.super t.kids).kids)
  rw [hk2, hqe, insT_comp hq'.plain hq'.bar (by rw [h6]; exact hq'.closed)]
/-- what the i-th one is, and that its own chain is the rest -/
theorem lvT_at {ds : List De} (W : WF ds) {d : De} {r : List De} (h : Ch ds d r) : ∀ (t : Tm), St ds d → t.k = 2 → t.t = d.name → (t.kids.len : Int) = d.arity → ∀ (i : Nat) (n : List UInt8) (x : Tm), (lvT t d r)[i]? = some (n, x) →
    ∃ e r', findD ds n = some e ∧ St ds e ∧ Ch ds e r' ∧ r'.length ≤ r.length ∧ (d :: r).drop i = e :: r' ∧ lvT x e r' = (lvT t d r).drop i ∧ x.k = 2 ∧ x.t = n ∧ (x.kids.len : Int) = e.arity := by
  induction h with
  | @top d hk =>
    intro t hd ht hn hl i n x hi
    cases i with
    | zero => cases hi; exact ⟨d, [], hd.me, hd, .top hk, Nat.le_refl _, rfl, rfl, ht, hn, hl⟩
    | succ i => rw [show lvT t d [] = [(d.name, t)] from rfl] at hi; simp at hi
  | @up d e r h1 h2 h3 ih =>
    intro t hd ht hn hl i n x hi
    cases i with
    | zero => cases hi; exact ⟨d, e :: r, hd.me, hd, .up h1 h2 h3, Nat.le_refl _, rfl, rfl, ht, hn, hl⟩
    | succ i =>
      rw [lvT_tail W t hd h1 h2 h3] at hi ⊢
      rw [List.getElem?_cons_succ] at hi
      have he := W e (findD_mem h2)
      have hx := insT_2 h1 t.kids
      obtain ⟨e', h5, h6⟩ := hd.sup h1
      rw [h2] at h5
      cases h5
      obtain ⟨e', r', q1, q2, q3, q4, q5, q6⟩ := ih (insT d.super t.kids) he (by rw [hx]) (by rw [hx]; exact (findD_name h2).symm) (by rw [hx]; show ((repL (Gi t.kids) shi 2 0 0 d.super.kids).len : Int) = _; rw [repL_len]; exact h6) i n x hi
      exact ⟨e', r', q1, q2, q3, by simp; omega, by rw [List.drop_succ_cons]; exact q5, by rw [List.drop_succ_cons]; exact q6.1, q6.2⟩
theorem lvT_names {ds : List De} {d : De} {r : List De} (h : Ch ds d r) (t : Tm) : (lvT t d r).map (fun q => q.1) = (d :: r).map (fun e => e.name) := by
  rw [lvT, List.map_cons, List.map_map, List.map_cons, ← lvD_names h]
  rfl

/-- what Supertype answers -/
def supT (ds : List De) (t : Tm) (nm : List UInt8) : Option Tm :=
  if t.k ≠ 2 then none else if t.t = nm then some t else match findD ds t.t with
  | none => none
  | some d => if (t.kids.len : Int) = d.arity then (supR nm d (chn ds 100 d)).map fun s => insT s t.kids else none
def sAny : List UInt8 := [65, 110, 121]
/-- what IsAncestor answers -/
def ancB (ds : List De) (nm of_ : List UInt8) : Bool := match findD ds of_ with
  | none => false
  | some d => decide (nm = sAny) || (d :: chn ds 100 d).any fun e => decide (e.name = nm)
theorem supT_lv {ds : List De} {t : Tm} {d : De} {r : List De} (hd : findD ds t.t = some d) (h : Ch ds d r) (hr : r.length ≤ 100) (hk : t.k = 2) (hl : (t.kids.len : Int) = d.arity) (nm : List UInt8) : supT ds t nm = getL nm (lvT t d r) := by
  rw [supT, if_neg (by simp [hk]), hd]
  simp only
  rw [chn_of h 100 hr, supR_lv h]
  have hn := findD_name hd
  rw [lvT]
  by_cases hq : t.t = nm
  · rw [if_pos hq]
    simp [getL, hn, hq]
  · rw [if_neg hq]
    simp only [hl, if_true]
    rw [← getL_map nm (fun s => insT s t.kids)]
    have : decide (d.name = nm) = false := by simp [hn, hq]
    simp only [getL, List.find?_cons, this]
theorem getL_some {nm : List UInt8} {l : List (List UInt8 × Tm)} {x : Tm} (h : getL nm l = some x) : ∃ i : Nat, l[i]? = some (nm, x) := by
  obtain ⟨q, hq, rfl⟩ := Option.map_eq_some_iff.1 h
  have h1 : q.1 = nm := by simpa using List.find?_some hq
  obtain ⟨i, hi⟩ := List.getElem?_of_mem (List.mem_of_find?_eq_some hq)
  exact ⟨i, by rw [hi, ← h1]⟩
theorem getL_at {nm : List UInt8} : ∀ {l : List (List UInt8 × Tm)} {x : Tm} {j : Nat}, (l.map fun q => q.1).Pairwise (fun a b => a ≠ b) → l[j]? = some (nm, x) → getL nm l = some x := by
  intro l
  induction l with
  | nil => intro x j _ h; cases h
  | cons q r ih =>
    intro x j hp hj
    rw [List.map_cons, List.pairwise_cons] at hp
    cases j with
    | zero => simp at hj; subst hj; simp [getL]
    | succ j =>
      rw [List.getElem?_cons_succ] at hj
      have hne : q.1 ≠ nm := hp.1 nm (List.mem_map.2 ⟨_, List.mem_of_getElem? hj, rfl⟩)
      have := ih hp.2 hj
      simp only [getL, List.find?_cons, hne, decide_false] at this ⊢
      exact this
theorem getL_none {nm : List UInt8} {l : List (List UInt8 × Tm)} (h : ∀ q ∈ l, q.1 ≠ nm) : getL nm l = none := by
  rw [getL, List.find?_eq_none.2 (fun q hq => by simpa using h q hq)]
  rfl
theorem getL_drop {l : List (List UInt8 × Tm)} (hp : (l.map fun q => q.1).Pairwise (fun a b => a ≠ b)) {nm : List UInt8} {y : Tm} {i j : Nat} (hj : l[j]? = some (nm, y)) : getL nm (l.drop i) = if i ≤ j then some y else none := by
  split
  · rename_i hij
    refine getL_at (j := j - i) ?_ ?_
    · rw [List.map_drop]; exact hp.sublist (List.drop_sublist _ _)
    · rw [List.getElem?_drop, show i + (j - i) = j by omega]; exact hj
  · rename_i hij
    refine getL_none fun q hq hn => ?_
    obtain ⟨m, hm⟩ := List.getElem?_of_mem hq
    rw [List.getElem?_drop] at hm
    have hlt : i + m < l.length := (List.getElem?_eq_some_iff.1 hm).1
    have hjl : j < l.length := (List.getElem?_eq_some_iff.1 hj).1
    have h1 := List.pairwise_iff_getElem.1 hp j (i + m) (by simpa using hjl) (by simpa using hlt) (by omega)
    rw [List.getElem_map, List.getElem_map] at h1
    have h2 := (List.getElem?_eq_some_iff.1 hj).2
    have h3 := (List.getElem?_eq_some_iff.1 hm).2
    rw [h2, h3, hn] at h1
    exact h1 rfl
theorem anc_drop {d : De} {r : List De} {l : List (List UInt8 × Tm)} (hl : l.map (fun q => q.1) = (d :: r).map (fun e => e.name)) {e : De} {r' : List De} {i j : Nat} (hdr : (d :: r).drop i = e :: r') (hp : (l.map fun q => q.1).Pairwise (fun a b => a ≠ b)) {nm : List UInt8} {y : Tm} (hj : l[j]? = some (nm, y)) :
    ((e :: r').any fun e => decide (e.name = nm)) = decide (i ≤ j) := by
  have h1 : ((d :: r).map (fun e => e.name))[j]? = some nm := by rw [← hl, List.getElem?_map, hj]; rfl
  rw [hl] at hp
  rw [← hdr, Bool.eq_iff_iff, List.any_eq_true, decide_eq_true_eq]
  constructor
  · rintro ⟨a, ha, hn⟩
    obtain ⟨m, hm⟩ := List.getElem?_of_mem ha
    rw [List.getElem?_drop] at hm
    have hm' : ((d :: r).map (fun e => e.name))[i + m]? = some nm := by rw [List.getElem?_map, hm]; simpa using hn
    obtain ⟨g1, g2⟩ := List.getElem?_eq_some_iff.1 h1
    obtain ⟨g3, g4⟩ := List.getElem?_eq_some_iff.1 hm'
    rcases Nat.lt_trichotomy j (i + m) with h | h | h
    · exact absurd (g2.trans g4.symm) (List.pairwise_iff_getElem.1 hp _ _ g1 g3 h)
    · omega
    · exact absurd (g4.trans g2.symm) (List.pairwise_iff_getElem.1 hp _ _ g3 g1 h)
  · intro hij
    rw [List.getElem?_map] at h1
    obtain ⟨a, ha, hn⟩ := Option.map_eq_some_iff.1 h1
    refine ⟨a, ?_, by simpa using hn⟩
    have : ((d :: r).drop i)[j - i]? = some a := by rw [List.getElem?_drop, show i + (j - i) = j by omega]; exact ha
    exact List.mem_of_getElem? this

/-- the law: two supertypes lie on one chain -/
theorem tree_law {ds : List De} (W : WF ds) (hc : ChB ds 100) {t x y : Tm} {a b : List UInt8} (ha : a ≠ sAny) (hb : b ≠ sAny) (hk : t.k = 2) (hx : supT ds t a = some x) (hy : supT ds t b = some y) (hda : ∃ e, findD ds a = some e) (hdb : ∃ e, findD ds b = some e) :
    ∃ up down : Bool, supT ds x b = (if up = true then some y else none) ∧ supT ds y a = (if down = true then some x else none) ∧ (up || down) = true ∧ ancB ds b a = up ∧ ancB ds a b = down := by
  cases hd : findD ds t.t with
  | none =>
    rw [supT, if_neg (by simp [hk]), hd] at hx hy
    have h1 : t.t = a := by
      split at hx
      · assumption
      · cases hx
    obtain ⟨e, he⟩ := hda
    rw [← h1, hd] at he
    cases he
  | some d =>
    by_cases hl : (t.kids.len : Int) = d.arity
    case neg =>
      have hself : ∀ nm z, supT ds t nm = some z → t.t = nm ∧ t = z := by
        intro nm z hz
        rw [supT, if_neg (by simp [hk]), hd] at hz
        split at hz
        · rename_i h; cases hz; exact ⟨h, rfl⟩
        · simp only [if_neg hl] at hz; cases hz
      obtain ⟨h1, rfl⟩ := hself a x hx
      obtain ⟨h2, rfl⟩ := hself b y hy
      obtain rfl : a = b := h1.symm.trans h2
      obtain ⟨e, he⟩ := hda
      have han : ancB ds a a = true := by
        rw [ancB, he]
        simp [findD_name he]
      exact ⟨true, true, by rw [hx]; rfl, by rw [hx]; rfl, rfl, han, han⟩
    have hst := W d (findD_mem hd)
    obtain ⟨r, hr, hrl⟩ := hc d (findD_mem hd)
    have hp0 := hr.names hst.me
    have hnm := lvT_names hr t
    have hp : ((lvT t d r).map fun q => q.1).Pairwise (fun a b => a ≠ b) := by rw [hnm]; exact List.pairwise_map.2 hp0
    rw [supT_lv hd hr hrl hk hl] at hx hy
    obtain ⟨i, hi⟩ := getL_some hx
    obtain ⟨j, hj⟩ := getL_some hy
    obtain ⟨e1, r1, p1, p2, p3, p4, p5, p6, p7, p8, p9⟩ := lvT_at W hr t hst hk (findD_name hd).symm hl i a x hi
    obtain ⟨e2, r2, q1, q2, q3, q4, q5, q6, q7, q8, q9⟩ := lvT_at W hr t hst hk (findD_name hd).symm hl j b y hj
    refine ⟨decide (i ≤ j), decide (j ≤ i), ?_, ?_, ?_, ?_, ?_⟩
    · rw [supT_lv (by rw [p8]; exact p1) p3 (by omega) p7 p9, p6, getL_drop hp hj]
      simp
    · rw [supT_lv (by rw [q8]; exact q1) q3 (by omega) q7 q9, q6, getL_drop hp hi]
      simp
    · rw [Bool.or_eq_true, decide_eq_true_eq, decide_eq_true_eq]; omega
    · rw [ancB, p1]
      simp only
      rw [chn_of p3 100 (by omega), anc_drop hnm p5 hp hj]
      simp [hb]
    · rw [ancB, q1]
      simp only
      rw [chn_of q3 100 (by omega), anc_drop hnm q5 hp hi]
      simp [ha]
end Go.Proofs.YtpkiheenkpcebaaGreatDoor.Sx
namespace Go.Proofs.YtpkiheenkpcebaaGreatDoor
open Go.RowKit Sx
theorem bar_lenG : ∀ f : Fo, lenG f → barF f
  | .nil, _ => trivial
  | .cons k t kids o r, h => ⟨h.1.2, bar_lenG kids h.2.1, bar_lenG r h.2.2⟩
theorem okE.gD {XW : List (List UInt8)} {L : Nat} {d : De} (h : okE XW L d) (hX : ∀ s ∈ XW, s.length ≤ 1000) : gD d := by
  obtain ⟨h1, h2, h3, ⟨g1, g2, g3, g4⟩, h5, h6⟩ := h
  exact ⟨h2, by omega, by have := hX _ h1; omega, g2.1.1, bar_lenG _ g2.2.1, g3, g1, g4⟩
theorem okE.avX {XW : List (List UInt8)} {L : Nat} {d : De} (h : okE XW L d) (hX : ∀ s ∈ XW, s.length ≤ 1000) : avX d := ⟨h.2.1, by have := h.2.2.1; omega, hX _ h.1⟩
def argBB : Fo → Bool
  | .nil => true
  | .cons _ _ kids _ r => decide (fsize kids ≤ 3) && argBB r
theorem argBB_of (f : Fo) : argBB f = true → argB f := by
  induction f with
  | nil => intro _; exact argB_nil
  | cons k t kids o r _ ih =>
    intro h i x hx
    rw [argBB, Bool.and_eq_true, decide_eq_true_eq] at h
    cases i with
    | zero => cases hx; exact h.1
    | succ i => exact ih h.2 i x hx
def barFB : Fo → Bool
  | .nil => true
  | .cons k _ kids _ r => (decide (k ≠ 5) || decide (kids.len = 0)) && (barFB kids && barFB r)
theorem barFB_of (f : Fo) : barFB f = true → barF f := by
  induction f with
  | nil => intro _; trivial
  | cons k t kids o r ih1 ih2 =>
    intro h
    rw [barFB, Bool.and_eq_true, Bool.and_eq_true, Bool.or_eq_true, decide_eq_true_eq, decide_eq_true_eq] at h
    refine ⟨fun hk => ?_, ih1 h.2.1, ih2 h.2.2⟩
    rcases h.1 with h | h
    · exact absurd hk h
    · cases kids with
      | nil => rfl
      | cons => simp [Fo.len] at h
def gDB (d : De) : Bool := decide (0 ≤ d.arity) && (decide (d.arity ≤ 3) && (decide (d.name.length ≤ 1000) && (decide (d.super.t.length ≤ 1048576) && (barFB d.super.kids && (closed1 d.super.k d.super.o d.super.kids d.arity && (decide (fsize d.super.kids ≤ 12) && argBB d.super.kids))))))
theorem gDB_of {d : De} (h : gDB d = true) : gD d ∧ avX d := by
  simp only [gDB, Bool.and_eq_true, decide_eq_true_eq] at h
  obtain ⟨h1, h2, h3, h4, h5, h6, h7, h8⟩ := h
  exact ⟨⟨h1, h2, by omega, h4, barFB_of _ h5, h6, h7, argBB_of _ h8⟩, h1, h2, h3⟩
theorem gd_base : ∀ d ∈ ds0 ++ baseD, gDB d = true := by decide
theorem name_base : ∀ d ∈ ds0 ++ baseD, d.name ≠ sAny := by decide
theorem flat_base : ∀ d ∈ ds0 ++ baseD, ∀ e ∈ ds0 ++ baseD, d.super.k = 2 → e.name = d.super.t → e.super.k ≠ 2 := by decide
theorem wf_ds0 : WF ds0 := by
  have k1 : ∀ d ∈ ds0, d.super.k = 0 := by decide
  have k2 : ∀ d ∈ ds0, ∀ e ∈ ds0, e.name = d.name → e.name.length = d.name.length := by decide
  intro d hd
  refine ⟨(gDB_of (gd_base d (List.mem_append_left _ hd))).1, .inl (k1 d hd), fun h => absurd (h.symm.trans (k1 d hd)) (by decide), fun h => absurd (h.symm.trans (k1 d hd)) (by decide), ?_⟩
  simp only [ds0, nm0, List.map_cons, List.map_nil, List.mem_cons, List.not_mem_nil, or_false] at hd
  rcases hd with rfl | rfl | rfl | rfl <;> rfl
theorem hds_wf {XW : List (List UInt8)} {L : Nat} {es : List De} (hX : ∀ s ∈ XW, s.length ≤ 1000) (he : ∀ d ∈ es, okE XW L d) (hl : es.length ≤ 4) : WF (hds (baseD ++ es)) ∧ ChB (hds (baseD ++ es)) 5 ∧ ∀ d ∈ hds (baseD ++ es), avX d := by
  have hg : ∀ d ∈ es, gD d := fun d hd => (he d hd).gD hX
  have hb : ∀ d ∈ baseD, gD d := fun d hd => (gDB_of (gd_base d (List.mem_append_right _ hd))).1
  obtain ⟨h1, h2⟩ := fold_step baseD ds0 wf_ds0 hb
  have h3 : ChB ds0 0 := by
    intro d hd
    have k1 : ∀ d ∈ ds0, d.super.k ≠ 2 := by decide
    exact ⟨[], .top (k1 d hd), Nat.le_refl _⟩
  have h4 : ∀ d ∈ baseD.foldl declD ds0, d ∈ ds0 ++ baseD := fold_mem _ _ _ (fun d hd => List.mem_append_left _ hd) (fun d hd => List.mem_append_right _ hd)
  have h5 : ChB (baseD.foldl declD ds0) 1 := by
    intro d hd
    obtain ⟨r, hr, _⟩ := h2 0 h3 d hd
    refine ⟨r, hr, ?_⟩
    cases hr with
    | top _ => simp
    | @up _ e r' g1 g2 g3 =>
      have := flat_base d (h4 d hd) e (h4 e (findD_mem g2)) g1 (findD_name g2)
      cases g3 with
      | top _ => simp
      | up q1 _ _ => exact absurd q1 this
  obtain ⟨g1, g2⟩ := fold_step es _ h1 hg
  have e : hds (baseD ++ es) = es.foldl declD (baseD.foldl declD ds0) := by rw [hds, List.foldl_append]
  rw [e]
  refine ⟨g1, fun d hd => ?_, fold_mem _ _ _ (fun d hd => (gDB_of (gd_base d (h4 d hd))).2) (fun d hd => (he d hd).avX hX)⟩
  obtain ⟨r, q1, q2⟩ := g2 1 h5 d hd
  exact ⟨r, q1, by omega⟩
theorem supT_ok {ds : List De} (W : WF ds) (hc : ChB ds 5) {t x : Tm} {nm : List UInt8} {V : Int} {M : Nat} (hV : 0 ≤ V) (h : supT ds t nm = some x) (hM : fsize t.kids ≤ M) (hcl : closed1 t.k t.o t.kids V = true) (ht : t.t.length ≤ 1048576) : fsize x.kids ≤ 12288 * (M + 1) ∧ closed1 x.k x.o x.kids V = true ∧ x.t.length ≤ 1048576 ∧ x.k = 2 ∧ x.t = nm := by
  rw [supT] at h
  split at h
  · cases h
  rename_i hk
  have hk2 : t.k = 2 := by simpa using hk
  split at h
  · rename_i hn
    cases h
    exact ⟨by omega, hcl, ht, hk2, hn⟩
  split at h
  · cases h
  rename_i d hd
  split at h
  case isFalse => cases h
  rename_i hl
  obtain ⟨r, hr, hrl⟩ := hc d (findD_mem hd)
  rw [chn_of hr 100 (by omega), supR_lv hr] at h
  obtain ⟨s, hs, rfl⟩ := Option.map_eq_some_iff.1 h
  obtain ⟨i, hi⟩ := getL_some hs
  have hL := lv_ok W hr (W d (findD_mem hd)) _ (List.mem_of_getElem? hi)
  have e := insT_2 hL.k t.kids
  rw [hk2, closed1, Bool.and_eq_true] at hcl
  refine ⟨?_, ?_, ?_, by rw [e], by rw [e]; exact hL.t⟩
  · rw [e]
    have h1 := repL_size (G := Gi t.kids) (sh := shi) M (fun i y hy => Nat.le_trans (nthF_size _ _ _ hy) hM) s.kids 2 0 0
    have h2 : fsize s.kids ≤ 12288 := Nat.le_trans hL.size (Nat.mul_le_mul_left 12 (Nat.pow_le_pow_right (by decide) hrl))
    exact Nat.le_trans h1 (Nat.mul_le_mul_right _ h2)
  · rw [e]
    show closed1 2 s.o (repL (Gi t.kids) shi 2 0 0 s.kids) V = true
    rw [closed1, Bool.and_eq_true]
    exact ⟨by simp [freeB], closedL_ins hV (fun i y hy => nthF_closed _ 0 i y hcl.2 hy) s.kids 0 hL.plain hL.bar (by rw [hl]; exact hL.closed)⟩
  · rw [e]
    show s.t.length ≤ _
    rw [hL.t]
    obtain ⟨e', q1, _⟩ := hL.dec
    have := (W e' (findD_mem q1)).g.2.2.1
    rw [findD_name q1] at this
    exact this
end Go.Proofs.YtpkiheenkpcebaaGreatDoor
namespace Go.Proofs.YtpkiheenkpcebaaGreatDoor
open Go.RowKit Sx
theorem dn_drop (m : Nat) {W : World} {S : Nat → Prop} {ds : List De} {gd cd : Nat} {E : EG} (h : DcS W S ds (some ⟨gd, 0, none⟩) cd) (e1 : E.gd = gd) (e2 : E.od = m * 8 ∨ ds.length ≤ m) (e3 : E.nd = ds.length - m) (e4 : E.ds = (ds.drop m).map fun d => (d.name, d.arity.toNat)) (hne : gd ≠ E.b) (hlt : gd < W.heap.size) (hl : ds.length ≤ 1000) (hds : ∀ d ∈ ds, avX d) : DN W E := by
  refine ⟨by rw [e1]; exact hne, by rw [e1]; exact hlt, by rw [e3, e4]; simp, by rw [e3]; omega, ?_⟩
  intro j n ar hj
  rw [e4, List.getElem?_map, Option.map_eq_some_iff] at hj
  obtain ⟨d, hd, he⟩ := hj
  rw [List.getElem?_drop] at hd
  have hlt' := (List.getElem?_eq_some_iff.1 hd).1
  have e2 : E.od = m * 8 := by rcases e2 with e | e; exact e; omega
  obtain ⟨rfl, rfl⟩ := Prod.mk.inj he
  obtain ⟨g, off, A1, c1, F1, x1, e, _, _, p0, p1, p2, p3, p4, p5, p6, p7, _, _⟩ := h.at hd
  cases e
  obtain ⟨o1, o2, o3⟩ := hds d (List.mem_of_getElem? hd)
  rw [e1, e2, show m * 8 + j * 8 = 0 + (m + j) * 8 by omega]
  exact ⟨⟨d.super.k, d.super.t, d.super.o, A1, d.super.kids.len, c1, d.conc, F1, d.fields.length, x1, p0, by rw [Int.toNat_of_nonneg o1]; exact p1, p2, p3, p4, p5, p6, p7⟩, by omega, o3⟩

def KnP (ds : List De) (w : World) (e : Ending) (w' : World) : Prop := ∃ g o cd c', e = .returned (.slice (some ⟨g, o, none⟩) (ds.length - 4) c') ∧ (o = 4 * 8 ∨ ds.length ≤ 4) ∧ w.heap.size ≤ g ∧ g < w'.heap.size ∧ (∃ S', DcS w' S' ds (some ⟨g, 0, none⟩) cd) ∧ BH w w'
set_option maxHeartbeats 4000000 in
set_option maxRecDepth 100000 in
theorem known_any (S : Nat → Prop) (p : Nat) (ds : List De) (w : World) (H : RHier w S p ds) (hl : 4 ≤ ds.length) (hL : ds.length ≤ 1000) :
    Calls Tryz.prog 45 #[.pointer (some ⟨p, 0, none⟩)] w (KnP ds w) := by
  have HC := Lib.hid (rDecls_any S p ds w H (by omega))
  have HL := Lib.hid (And.intro hl hL)
  obtain ⟨L, hl0⟩ : ∃ L, ds.length = L := ⟨_, rfl⟩
  rw [hl0] at HC HL
  have hQ : ∀ g o cd c' u, (o = 4 * 8 ∨ L ≤ 4) → w.heap.size ≤ g → g < u.heap.size → (∃ S', DcS u S' ds (some ⟨g, 0, none⟩) cd) → BH w u → KnP ds w (.returned (.slice (some ⟨g, o, none⟩) (L - 4) c')) u := fun g o cd c' u h1 h2 h3 h4 h5 => ⟨g, o, cd, c', by rw [hl0], by rw [hl0]; exact h1, h2, h3, h4, h5⟩
  have HQ := Lib.hid hQ
  clear hQ
  have hl1 := HL.out.1
  have hl2 := HL.out.2
  clear H hl hL
  go_enter Tryz.func45, Tryz.ntmps45
  go_wp2_with (fail)
  refine HC.out.mono ?_
  rintro e u1 ⟨A, c, xs, rfl, ho, hx, hb⟩
  obtain ⟨g, rfl, hg0, hg1⟩ : ∃ g, A = some ⟨g, 0, none⟩ ∧ w.heap.size ≤ g ∧ g < u1.heap.size := by
    rcases ho.2 with ⟨_, h2⟩ | ⟨g, cap, cur, e, h2, h3, _⟩
    · omega
    · cases e; exact ⟨g, rfl, h2, heap_lt h3⟩
  have hD := DcS.own2 hl0 ho hx
  have hcc : L ≤ c := hl0 ▸ hD.1
  have HD := Lib.hid hD
  have HB := Lib.hid hb
  clear ho hx hD hb HC
  go_wp2_with (fail)
  all_goals
    go_ret
    refine HQ.out g _ c _ _ ?_ hg0 hg1 ⟨_, HD.out⟩ HB.out
    omega
end Go.Proofs.YtpkiheenkpcebaaGreatDoor
namespace Go.Proofs.YtpkiheenkpcebaaGreatDoor.JT
open Go.RowKit Sx TL
/-- what telmake.Decls and Hierarchies leave of a slice of integers -/
def HtP (w0 : World) (W : World) (e : Ending) (W' : World) : Prop :=
  ∃ (ds : List De) (B p b q : Nat) (v : Value) (l : List (List UInt8 × Value)), e = .returned (.tuple #[.pointer (some ⟨p, 0, none⟩), .pointer (some ⟨q, 0, none⟩), .bool true]) ∧ Hier W' B p b (fun y => y = q) v l ds ∧ RHier W' (HS p b v (fun y => y = q)) q ds ∧ w0.heap.size ≤ B ∧ B ≤ W'.heap.size ∧ (ds.length ≤ 16 ∧ 4 ≤ ds.length) ∧ (∀ d ∈ ds, OkD 3 d ∧ d.name ≠ sAny) ∧ (WF ds ∧ ChB ds 5 ∧ ∀ d ∈ ds, avX d) ∧ BH W W'
theorem declD_ge (ds : List De) (d : De) : ds.length ≤ (declD ds d).length := by
  rw [declD]; split <;> simp
theorem fold_ge (dl : List De) : ∀ ds, ds.length ≤ (dl.foldl declD ds).length := by
  induction dl with
  | nil => intro ds; exact Nat.le_refl _
  | cons d r ih => intro ds; rw [List.foldl_cons]; exact Nat.le_trans (declD_ge ds d) (ih _)

set_option maxHeartbeats 4000000 in
theorem dt_any {w0 w : World} {X : XG} (B : XB w0 X) (hXb : X.b = w.heap.size) (hB : Below w0.heap.size w0 w) (hl : X.len ≤ 1048576) (hx : ∀ s ∈ X.XW, s ≠ sAny) (Q : Value → World → Prop)
    (hQ : ∀ (A : Option Addr) (n c : Nat) (u : World), BH w u → Calls Tryz.prog 20 #[.slice A n c] u (HtP w0 w) → Q (.slice A n c) u) :
    Calls Tryz.prog 19 #[.slice X.a X.len X.cap] w fun e u => ∃ v, e = .returned v ∧ Q v u := by
  refine (decls_any w0 w X B hXb hB (by unfold maxLen; omega)).mono ?_
  rintro e u1 ⟨k1, gB, u0, v, es, xs, rfl, hx1, hes, hok, hb⟩
  obtain ⟨gd, cd, rfl, hgd0, hgd1⟩ := hx1.shape (by simp [baseD])
  have hdc := hx1.dcs
  refine ⟨_, rfl, hQ _ _ _ _ hb ?_⟩
  have hP : ∀ d ∈ baseD ++ es, OkD 3 d ∧ d.name ≠ sAny := by
    intro d hd
    rcases List.mem_append.1 hd with hd | hd
    · exact ⟨baseD_okD d hd, name_base d (List.mem_append_right _ hd)⟩
    · exact ⟨(hok d hd).okD B.sX (by omega) (by decide), hx _ (hok d hd).1⟩
  have hP0 : ∀ d ∈ ds0, OkD 3 d ∧ d.name ≠ sAny := fun d hd => ⟨(good0 d hd).mono (by decide), name_base d (List.mem_append_left _ hd)⟩
  have hlen : (baseD ++ es).length ≤ 12 := by
    rw [List.length_append, show baseD.length = 8 from rfl]
    omega
  refine (hierarchies_any 3 (baseD ++ es) (some ⟨gd, 0, none⟩) cd u1 hdc (by decide) (by decide) (fun d hd => (hP d hd).1) (fun d hd => (hP0 d hd).1) (by omega)).mono ?_
  rintro e u2 ⟨p, b, q, vH, lH, rfl, h1, h2, h3, h4⟩
  refine ⟨hds (baseD ++ es), u1.heap.size, p, b, q, vH, lH, rfl, h1, h2, Nat.le_trans (Below.size hB) (Below.size hb), Below.size h3, ⟨?_, ?_⟩, fold_mem _ _ _ hP0 hP, hds_wf B.sX hok hes, BH.trans hb h3⟩
  · have h := fold_len (baseD ++ es) ds0
    have h5 : ds0.length = 4 := rfl
    rw [hds]
    omega
  · exact fold_ge (baseD ++ es) ds0

theorem modT (n m : Int) (w : World) (hm : 0 < m) (hm2 : m ≤ 4294967296) :
    Calls Tryz.prog 22 #[.int .i64 n, .int .i64 m] w fun e w' => e = .returned (.int .i64 (modI n m)) ∧ w = w' := by
  obtain ⟨h1, h2⟩ := tmod_bounds n m hm
  have hne : ¬ m = 0 := by omega
  unfold modI
  generalize hk : n.tmod m = k at *
  by_cases h0 : k < 0
  · rw [if_pos h0]
    go_enter Tryz.func22, Tryz.ntmps22
    go_wp2
    go_ret
    exact ⟨rfl, rfl⟩
  · rw [if_neg h0]
    go_enter Tryz.func22, Tryz.ntmps22
    go_wp2
    go_ret
    exact ⟨rfl, rfl⟩
def trV (A : Option Addr) (n c : Nat) (g off : Nat) (i k : Int) (j jj : Nat) (an bn : List UInt8) (m : Nat) (v : Value) (_ : World) : Prop :=
  match m with
  | 0 => v = .slice A n c
  | 1 => v = .int .i64 i
  | 2 => v = .slice A n c
  | 3 => v = .int .i64 (n : Int)
  | 4 => v = .int .i64 (j : Int)
  | 5 => v = .pointer (some ⟨g, off + j * 8, none⟩)
  | 6 => v = .pointer (some ⟨g, off + j * 8, none⟩)
  | 7 => v = .string ⟨an.toArray⟩
  | 8 => v = .slice A n c
  | 9 => v = .int .i64 k
  | 10 => v = .slice A n c
  | 11 => v = .int .i64 (n : Int)
  | 12 => v = .int .i64 (jj : Int)
  | 13 => v = .pointer (some ⟨g, off + jj * 8, none⟩)
  | 14 => v = .pointer (some ⟨g, off + jj * 8, none⟩)
  | 15 => v = .string ⟨bn.toArray⟩
  | 16 => v = .string ⟨an.toArray⟩
  | _ => v = .string ⟨bn.toArray⟩
theorem supT_k {ds : List De} {t x : Tm} {nm : List UInt8} (h : supT ds t nm = some x) : t.k = 2 := by
  rw [supT] at h
  split at h
  · cases h
  · rename_i hk; simpa using hk
theorem resT_some {X : Option Tm} {x : Tm} (h1 : resT X = x) (h2 : X.isSome = true) : X = some x := by
  cases X with
  | none => cases h2
  | some y => exact congrArg some h1
end Go.Proofs.YtpkiheenkpcebaaGreatDoor.JT
