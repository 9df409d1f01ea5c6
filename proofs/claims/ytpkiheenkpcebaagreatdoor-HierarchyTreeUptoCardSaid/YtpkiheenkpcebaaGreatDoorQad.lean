/- The supertypes of a type along its chain of declarations, pure: what superCalled answers, sizes, composition. No condition. Declarations that stand in a hierarchy: chains, sizes; supertypes compose; the chain of a type's supertypes. Pure. No condition. telmake.Extra: what it reads and keeps; Next and arg in such a world. No condition. -/
import Derived.Test.YtpkiheenkpcebaaGreatDoorMau
import Derived.Test.YtpkiheenkpcebaaGreatDoorMbg
import Derived.Test.YtpkiheenkpcebaaGreatDoorQac
import Derived.Test.YtpkiheenkpcebaaGreatDoorMbn
set_option linter.unusedVariables false
set_option linter.unusedSimpArgs false
namespace Go.Proofs.YtpkiheenkpcebaaGreatDoor.Sx
/-- the declarations above d -/
inductive Ch (ds : List De) : De → List De → Prop
  | top {d : De} : d.super.k ≠ 2 → Ch ds d []
  | up {d e : De} {r : List De} : d.super.k = 2 → findD ds d.super.t = some e → Ch ds e r → Ch ds d (e :: r)
theorem Ch.det {ds : List De} {d : De} {r : List De} (h : Ch ds d r) : ∀ {r'}, Ch ds d r' → r = r' := by
  induction h with
  | top h => intro r' h'; cases h' with
    | top _ => rfl
    | up h2 _ _ => exact absurd h2 h
  | up h1 h2 h3 ih => intro r' h'; cases h' with
    | top h => exact absurd h1 h
    | up g1 g2 g3 => rw [h2] at g2; cases g2; rw [ih g3]
theorem findD_name {ds : List De} {s : List UInt8} {d : De} (h : findD ds s = some d) : d.name = s := by simpa using List.find?_some h
theorem findD_mem {ds : List De} {s : List UInt8} {d : De} (h : findD ds s = some d) : d ∈ ds := List.mem_of_find?_eq_some h
theorem findD_app2 {ds es : List De} {s : List UInt8} {d : De} (h : findD ds s = some d) : findD (ds ++ es) s = some d := by
  rw [findD, List.find?_append, show List.find? (fun d => decide (d.name = s)) ds = some d from h]
  rfl
theorem Ch.app {ds es : List De} {d : De} {r : List De} (h : Ch ds d r) : Ch (ds ++ es) d r := by
  induction h with
  | top h => exact .top h
  | up h1 h2 _ ih => exact .up h1 (findD_app2 h2) ih
/-- x with the terms of f in place of its variables -/
def insT (x : Tm) (f : Fo) : Tm := rep1 (Gi f) shi x.k x.t x.o x.kids 0
/-- the supertype of d that is called nm, in terms of d's parameters -/
def supR (nm : List UInt8) : De → List De → Option Tm
  | _, [] => none
  | d, e :: r => if d.super.t = nm then some d.super else (supR nm e r).map fun s => insT s d.super.kids
def zeroT : Tm := ⟨0, [], .nil, 0⟩
def resT (x : Option Tm) : Tm := x.getD zeroT
/-- the supertypes of d, with their names, from below -/
def lvD : De → List De → List (List UInt8 × Tm)
  | _, [] => []
  | d, e :: r => (e.name, d.super) :: (lvD e r).map fun q => (q.1, insT q.2 d.super.kids)
/-- t and its supertypes -/
def lvT (t : Tm) (d : De) (r : List De) : List (List UInt8 × Tm) := (d.name, t) :: (lvD d r).map fun q => (q.1, insT q.2 t.kids)
def getL (nm : List UInt8) (l : List (List UInt8 × Tm)) : Option Tm := (l.find? fun q => decide (q.1 = nm)).map fun q => q.2
theorem getL_map (nm : List UInt8) (F : Tm → Tm) (l : List (List UInt8 × Tm)) : getL nm (l.map fun q => (q.1, F q.2)) = (getL nm l).map F := by
  induction l with
  | nil => rfl
  | cons q r ih =>
    by_cases hq : q.1 = nm
    · simp [getL, hq]
    · simp only [getL, List.map_cons, List.find?_cons, hq, decide_false] at ih ⊢
      exact ih
theorem supR_lv {ds : List De} {nm : List UInt8} {d : De} {r : List De} (h : Ch ds d r) : supR nm d r = getL nm (lvD d r) := by
  induction h with
  | top _ => rfl
  | @up d e r h1 h2 h3 ih =>
    rw [supR, lvD, getL, List.find?_cons]
    have hn := findD_name h2
    by_cases hq : d.super.t = nm
    · rw [if_pos hq]
      simp [hn, hq]
    · rw [if_neg hq]
      have : decide ((e.name, d.super).1 = nm) = false := by simp [hn, hq]
      rw [this, ih]
      exact (getL_map nm (fun s => insT s d.super.kids) (lvD e r)).symm
/-- the names are those of the declarations -/
theorem lvD_names {ds : List De} {d : De} {r : List De} (h : Ch ds d r) : (lvD d r).map (fun q => q.1) = r.map (fun e => e.name) := by
  induction h with
  | top _ => rfl
  | up h1 h2 h3 ih => simp only [lvD, List.map_cons, List.map_map, ← ih]; rfl
theorem lvD_len {d : De} : ∀ {r : List De}, (lvD d r).length = r.length := by
  intro r
  induction r generalizing d with
  | nil => rfl
  | cons e r ih => simp [lvD, ih]
/-- the names of a chain differ -/
theorem Ch.names {ds : List De} {d : De} {r : List De} (h : Ch ds d r) (hd : findD ds d.name = some d) : (d :: r).Pairwise fun a b => a.name ≠ b.name := by
  have key : ∀ {d : De} {r : List De}, Ch ds d r → findD ds d.name = some d → ∀ e ∈ r, ∃ r', Ch ds e r' ∧ r'.length < r.length ∧ findD ds e.name = some e := by
    intro d r h
    induction h with
    | top _ => intro _ e he; cases he
    | @up d e r h1 h2 h3 ih =>
      intro hd e' he'
      have hen : findD ds e.name = some e := by rw [findD_name h2]; exact h2
      rcases List.mem_cons.1 he' with rfl | he'
      · exact ⟨r, h3, by simp, hen⟩
      · obtain ⟨r', q1, q2, q3⟩ := ih hen e' he'
        exact ⟨r', q1, by simp; omega, q3⟩
  induction h with
  | top _ => simp
  | @up d e r h1 h2 h3 ih =>
    have hen : findD ds e.name = some e := by rw [findD_name h2]; exact h2
    refine List.pairwise_cons.2 ⟨fun a ha hn => ?_, ih hen⟩
    obtain ⟨r', q1, q2, q3⟩ := key (.up h1 h2 h3) hd a ha
    rw [← hn, hd] at q3
    cases q3
    have := (Ch.up h1 h2 h3).det q1
    rw [← this] at q2
    omega

/-- variables that lie in terms as in validated ones -/
def barF : Fo → Prop
  | .nil => True
  | .cons k _ kids _ r => (k = 5 → kids = .nil) ∧ barF kids ∧ barF r
theorem nthF_rep {G : Int → Option Tm} {sh : Int → Int} (f : Fo) : ∀ (i j : Nat), nthF (repL G sh 2 i 0 f) j = (nthF f j).map fun x => rep1 G sh x.k x.t x.o x.kids 0 := by
  induction f with
  | nil => intro i j; rfl
  | cons k t kids o r _ ih =>
    intro i j
    rw [repL_map, mapK, ← repL_map]
    cases j with
    | zero => rfl
    | succ j => exact ih (i + 1) j
theorem around2 (i : Nat) (b : Int) : aroundB 2 i b = b := by rw [aroundB, if_neg (by omega)]
theorem repL_cons2 {G : Int → Option Tm} {sh : Int → Int} (i : Nat) (k o : Int) (t : List UInt8) (kids r : Fo) : repL G sh 2 i 0 (.cons k t kids o r) = .cons (rep1 G sh k t o kids 0).k (rep1 G sh k t o kids 0).t (rep1 G sh k t o kids 0).kids (rep1 G sh k t o kids 0).o (repL G sh 2 (i + 1) 0 r) := by
  rw [repL_map, mapK, ← repL_map, around2]
theorem rep1_2 {G : Int → Option Tm} {sh : Int → Int} (t : List UInt8) (o : Int) (kids : Fo) : rep1 G sh 2 t o kids 0 = ⟨2, t, repL G sh 2 0 0 kids, o⟩ := rep1_bound (by simp [freeB])
theorem repL_idx {G : Int → Option Tm} {sh : Int → Int} (f : Fo) : ∀ i j, repL G sh 2 i 0 f = repL G sh 2 j 0 f := by
  induction f with
  | nil => intros; rfl
  | cons k t kids o r _ ih => intro i j; rw [repL_cons2, repL_cons2, ih (i + 1) (j + 1)]
theorem nthF_some (f : Fo) : ∀ i, i < f.len → ∃ x, nthF f i = some x := by
  intro i hi
  cases h : nthF f i with
  | none => have := nthF_none f i h; omega
  | some x => exact ⟨x, rfl⟩
theorem repL_closed2 {G : Int → Option Tm} {sh : Int → Int} (f : Fo) : ∀ pk i b, closedL pk i b f = true → repL G sh pk i b f = f := by
  induction f with
  | nil => intros; rfl
  | cons k t kids o r ih1 ih2 =>
    intro pk i b h
    rw [closedL_cons, Bool.and_eq_true, closed1, Bool.and_eq_true] at h
    obtain ⟨⟨h1, h2⟩, h3⟩ := h
    have h1' : freeB k o (aroundB pk i b) = false := by simpa using h1
    rw [repL_map, mapK, ← repL_map, ih2 _ _ _ h3, rep1_bound h1', ih1 _ _ _ h2]
theorem rep1_closed2 {G : Int → Option Tm} {sh : Int → Int} {k o b : Int} {kids : Fo} (t : List UInt8) (h : closed1 k o kids b = true) : rep1 G sh k t o kids b = ⟨k, t, kids, o⟩ := by
  rw [closed1, Bool.and_eq_true] at h
  rw [rep1_bound (by simpa using h.1), repL_closed2 _ _ _ _ h.2]
/-- terms that may be arguments: their variables lie within no body -/
theorem repL_plain (A B : Fo) (f : Fo) : ∀ i, plainL f = true → barF f → closedL 2 i (A.len : Int) f = true → repL (Gi B) shi 2 i 0 (repL (Gi A) shi 2 i 0 f) = repL (Gi (repL (Gi B) shi 2 0 0 A)) shi 2 i 0 f := by
  induction f with
  | nil => intros; rfl
  | cons k t kids o r ih1 ih2 =>
    intro i hp hb hc
    rw [plainL_cons, Bool.and_eq_true] at hp
    rw [closedL_cons, Bool.and_eq_true, around2] at hc
    obtain ⟨hp1, hp2⟩ := hp
    obtain ⟨hb0, hb1, hb2⟩ := hb
    obtain ⟨hc1, hc2⟩ := hc
    rw [repL_cons2, repL_cons2, repL_cons2, ih2 _ hp2 hb2 hc2]
    have key : rep1 (Gi B) shi (rep1 (Gi A) shi k t o kids 0).k (rep1 (Gi A) shi k t o kids 0).t (rep1 (Gi A) shi k t o kids 0).o (rep1 (Gi A) shi k t o kids 0).kids 0 = rep1 (Gi (repL (Gi B) shi 2 0 0 A)) shi k t o kids 0 := by
      rw [plain1] at hp1
      split at hp1
      · rename_i h5
        subst h5
        rw [closed1, Bool.and_eq_true] at hc1
        have ho : o < (A.len : Int) := by
          have h := hc1.1
          simp only [freeB, Bool.not_eq_true', Bool.and_eq_false_iff, decide_eq_false_iff_not] at h
          rcases h with h | h
          · exact absurd trivial h
          · omega
        by_cases h0 : 0 ≤ o
        · have hf : freeB 5 o 0 = true := by simp [freeB, h0]
          obtain ⟨x, hx⟩ := nthF_some A o.toNat (by omega)
          have g1 : Gi A (o - 0) = some x := by rw [Gi, show (o - 0).toNat = o.toNat by omega]; exact hx
          have g2 : Gi (repL (Gi B) shi 2 0 0 A) (o - 0) = some (rep1 (Gi B) shi x.k x.t x.o x.kids 0) := by rw [Gi, show (o - 0).toNat = o.toNat by omega, nthF_rep, hx]; rfl
          rw [rep1_some hf g1, rep1_some hf g2]
        · have hf : freeB 5 o 0 = false := by simp [freeB]; omega
          have e : ∀ G, rep1 G shi 5 t o .nil 0 = ⟨5, t, .nil, o⟩ := fun G => by rw [rep1_bound hf]; rfl
          rw [hb0 rfl, e (Gi A)]
          show rep1 (Gi B) shi 5 t o .nil 0 = _
          rw [e, e]
      · split at hp1
        · rename_i h5 h2
          subst h2
          rw [closed1, Bool.and_eq_true] at hc1
          rw [rep1_2 (G := Gi A)]
          show rep1 (Gi B) shi 2 t o (repL (Gi A) shi 2 0 0 kids) 0 = _
          rw [rep1_2, ih1 0 hp1 hb1 hc1.2, rep1_2]
        · rw [rep1_closed2 (G := Gi A) t hp1]
          show rep1 (Gi B) shi k t o kids 0 = _
          rw [rep1_closed2 t hp1, rep1_closed2 t hp1]
    rw [key]
theorem insT_comp {t : List UInt8} {o : Int} {kids A B : Fo} (hp : plainL kids = true) (hb : barF kids) (hc : closedL 2 0 (A.len : Int) kids = true) : insT (insT ⟨2, t, kids, o⟩ A) B = insT ⟨2, t, kids, o⟩ (repL (Gi B) shi 2 0 0 A) := by
  show rep1 (Gi B) shi (rep1 (Gi A) shi 2 t o kids 0).k (rep1 (Gi A) shi 2 t o kids 0).t (rep1 (Gi A) shi 2 t o kids 0).o (rep1 (Gi A) shi 2 t o kids 0).kids 0 = rep1 (Gi (repL (Gi B) shi 2 0 0 A)) shi 2 t o kids 0
  rw [rep1_2 (G := Gi A)]
  show rep1 (Gi B) shi 2 t o (repL (Gi A) shi 2 0 0 kids) 0 = _
  rw [rep1_2, repL_plain A B kids 0 hp hb hc, rep1_2]
end Go.Proofs.YtpkiheenkpcebaaGreatDoor.Sx
namespace Go.Proofs.YtpkiheenkpcebaaGreatDoor.Sx
/-- the arguments' own arguments are few -/
def argB (f : Fo) : Prop := ∀ i x, nthF f i = some x → fsize x.kids ≤ 3
theorem argB_nil : argB .nil := fun i x h => by cases h
theorem argB_app {f : Fo} (h : argB f) {k o : Int} {t : List UInt8} {kids : Fo} (hk : fsize kids ≤ 3) : argB (f.app (.one k t kids o)) := by
  intro i x hx
  induction f generalizing i with
  | nil =>
    cases i with
    | zero => cases hx; exact hk
    | succ i => cases i <;> cases hx
  | cons k' t' kids' o' r _ ih =>
    cases i with
    | zero => exact h 0 x hx
    | succ i => exact ih (fun j y hy => h (j + 1) y hy) i hx
/-- what is told of a declaration that the generator makes -/
def gD (d : De) : Prop := 0 ≤ d.arity ∧ d.arity ≤ 3 ∧ d.name.length ≤ 1048576 ∧ d.super.t.length ≤ 1048576 ∧ barF d.super.kids ∧ closed1 d.super.k d.super.o d.super.kids d.arity = true ∧ fsize d.super.kids ≤ 12 ∧ argB d.super.kids
/-- a declaration that stands among ds -/
structure St (ds : List De) (d : De) : Prop where
  g : gD d
  k : d.super.k = 0 ∨ d.super.k = 2
  plain : d.super.k = 2 → plainL d.super.kids = true
  sup : d.super.k = 2 → ∃ e, findD ds d.super.t = some e ∧ (d.super.kids.len : Int) = e.arity
  me : findD ds d.name = some d
def WF (ds : List De) : Prop := ∀ d ∈ ds, St ds d
def ChB (ds : List De) (n : Nat) : Prop := ∀ d ∈ ds, ∃ r, Ch ds d r ∧ r.length ≤ n
theorem St.closed {ds : List De} {d : De} (h : St ds d) (hk : d.super.k = 2) : closedL 2 0 d.arity d.super.kids = true := by
  have h1 := h.g.2.2.2.2.2.1
  rw [closed1, Bool.and_eq_true, hk] at h1
  exact h1.2
theorem ev1_2 {pf : List UInt8 → Nat → Bool} {k : Int} {t : List UInt8} {kids : Fo} (h : ev1 pf k t kids = true) (hk : k = 2) : pf t kids.len = true := by
  rw [ev1, if_pos hk, Bool.and_eq_true] at h
  exact h.1
theorem declD_step {ds : List De} {d : De} (h : WF ds) (hd : gD d) : WF (declD ds d) ∧ ∀ n, ChB ds n → ChB (declD ds d) (n + 1) := by
  rw [declD]
  split
  · rename_i hh
    obtain ⟨h0, hn⟩ := hh
    have hv : vdB d = true := by
      rw [declE] at h0
      split at h0
      · cases h0
      · rename_i h1; simpa using h1
    have h5 : ev1 (dcB ds) d.super.k d.super.t d.super.kids = true := by
      rw [declE, if_neg (by simp [hv])] at h0
      split at h0
      · cases h0
      rw [hn] at h0
      simp only at h0
      split at h0
      · cases h0
      split at h0
      · cases h0
      · rename_i h1
        have h2 : (ev1 (dcB ds) d.super.k d.super.t d.super.kids && kfB ds d.name d.arity d.fields) = true := by simpa using h1
        rw [Bool.and_eq_true] at h2
        exact h2.1
    have hs : (d.super.k = 0 ∨ d.super.k = 2) ∧ plain1 d.super.k d.super.o d.super.kids = true := by
      rw [vdB, Bool.and_eq_true, Bool.and_eq_true, Bool.and_eq_true, vsB, Bool.and_eq_true, vtB, Bool.and_eq_true, Bool.and_eq_true] at hv
      have h1 := hv.2.2.1.1
      simp only [Bool.or_eq_true, beq_iff_eq] at h1
      exact ⟨h1, hv.2.2.1.2.2.1⟩
    have hsup : d.super.k = 2 → ∃ e, findD ds d.super.t = some e ∧ (d.super.kids.len : Int) = e.arity := by
      intro hk
      have h1 := ev1_2 h5 hk
      rw [dcB] at h1
      cases hf : findD ds d.super.t with
      | none => rw [hf] at h1; cases h1
      | some e => rw [hf] at h1; exact ⟨e, rfl, by simpa using h1⟩
    have hme : findD (ds ++ [d]) d.name = some d := by
      rw [findD, List.find?_append, show List.find? (fun x => decide (x.name = d.name)) ds = none from hn]
      simp
    refine ⟨fun x hx => ?_, fun n hc x hx => ?_⟩
    · rcases List.mem_append.1 hx with hx | hx
      · have hx' := h x hx
        exact ⟨hx'.g, hx'.k, hx'.plain, fun hk => by obtain ⟨e, h1, h2⟩ := hx'.sup hk; exact ⟨e, findD_app2 h1, h2⟩, findD_app2 hx'.me⟩
      · simp at hx
        subst hx
        refine ⟨hd, hs.1, fun hk => ?_, fun hk => by obtain ⟨e, h1, h2⟩ := hsup hk; exact ⟨e, findD_app2 h1, h2⟩, hme⟩
        have h1 := hs.2
        rw [plain1, if_neg (by omega), if_pos hk] at h1
        exact h1
    · rcases List.mem_append.1 hx with hx | hx
      · obtain ⟨r, h1, h2⟩ := hc x hx
        exact ⟨r, h1.app, by omega⟩
      · simp at hx
        subst hx
        rcases hs.1 with hk | hk
        · exact ⟨[], .top (by omega), by simp⟩
        · obtain ⟨e, h1, _⟩ := hsup hk
          obtain ⟨r, h2, h3⟩ := hc e (findD_mem h1)
          exact ⟨e :: r, .up hk (findD_app2 h1) h2.app, by simp; omega⟩
  · exact ⟨h, fun n hc d hd => by obtain ⟨r, h1, h2⟩ := hc d hd; exact ⟨r, h1, by omega⟩⟩
theorem fold_step (dl : List De) : ∀ ds, WF ds → (∀ d ∈ dl, gD d) → WF (dl.foldl declD ds) ∧ ∀ n, ChB ds n → ChB (dl.foldl declD ds) (n + dl.length) := by
  induction dl with
  | nil => intro ds h _; exact ⟨h, fun n hc => hc⟩
  | cons d r ih =>
    intro ds h hg
    obtain ⟨h1, h2⟩ := declD_step h (hg d (List.mem_cons_self ..))
    obtain ⟨h3, h4⟩ := ih _ h1 (fun e he => hg e (List.mem_cons_of_mem _ he))
    rw [List.foldl_cons]
    refine ⟨h3, fun n hc => ?_⟩
    have := h4 _ (h2 n hc)
    rwa [show n + 1 + r.length = n + (d :: r).length by simp; omega] at this

/-- the chain, by so many steps -/
def chn (ds : List De) : Nat → De → List De
  | 0, _ => []
  | n + 1, d => if d.super.k = 2 then (match findD ds d.super.t with | some e => e :: chn ds n e | none => []) else []
theorem chn_of {ds : List De} {d : De} {r : List De} (h : Ch ds d r) : ∀ n, r.length ≤ n → chn ds n d = r := by
  induction h with
  | top h => intro n _; cases n with
    | zero => rfl
    | succ n => rw [chn, if_neg h]
  | up h1 h2 _ ih => intro n hn; cases n with
    | zero => simp at hn
    | succ n => rw [chn, if_pos h1, h2]; simp only; rw [ih n (by simp at hn; omega)]

/-- what is told of a supertype that is called n, in terms of v parameters -/
structure Lv (ds : List De) (v : Int) (b : Nat) (n : List UInt8) (x : Tm) : Prop where
  k : x.k = 2
  t : x.t = n
  plain : plainL x.kids = true
  bar : barF x.kids
  closed : closedL 2 0 v x.kids = true
  size : fsize x.kids ≤ b
  dec : ∃ e, findD ds n = some e ∧ (x.kids.len : Int) = e.arity
theorem barF_rep {G : Int → Option Tm} {sh : Int → Int} (hG : ∀ n x, G n = some x → barF x.kids ∧ (x.k = 5 → x.kids = .nil)) (f : Fo) : ∀ i, plainL f = true → barF f → barF (repL G sh 2 i 0 f) := by
  induction f with
  | nil => intros; trivial
  | cons k t kids o r ih1 ih2 =>
    intro i hp hb
    rw [plainL_cons, Bool.and_eq_true] at hp
    rw [repL_cons2]
    obtain ⟨hp1, hp2⟩ := hp
    refine ⟨?_, ?_, ih2 _ hp2 hb.2.2⟩
    all_goals
      rw [plain1] at hp1
      split at hp1
      · rename_i h5
        subst h5
        cases hf : freeB 5 o 0 with
        | true =>
          cases hg : G (o - 0) with
          | some x => rw [rep1_some hf hg]; first | exact (hG _ x hg).2 | exact (hG _ x hg).1
          | none => rw [rep1_none hf hg, hb.1 rfl]; first | (intro _; rfl) | trivial
        | false => rw [rep1_bound hf, hb.1 rfl]; first | (intro _; rfl) | trivial
      · split at hp1
        · rename_i h5 h2
          subst h2
          rw [rep1_2]
          first | (intro h; exact absurd h (by show ¬ (2 : Int) = 5; decide)) | exact ih1 0 hp1 hb.2.1
        · rw [rep1_closed2 t hp1]
          first | exact hb.1 | exact hb.2.1
theorem plainL_rep {G : Int → Option Tm} {sh : Int → Int} (hG : ∀ n x, G n = some x → plain1 x.k x.o x.kids = true) (f : Fo) : ∀ i, plainL f = true → plainL (repL G sh 2 i 0 f) = true := by
  induction f with
  | nil => intros; rfl
  | cons k t kids o r ih1 ih2 =>
    intro i hp
    rw [plainL_cons, Bool.and_eq_true] at hp
    rw [repL_cons2, plainL_cons, Bool.and_eq_true]
    obtain ⟨hp1, hp2⟩ := hp
    refine ⟨?_, ih2 _ hp2⟩
    have hp1' := hp1
    rw [plain1] at hp1
    split at hp1
    · rename_i h5
      subst h5
      cases hf : freeB 5 o 0 with
      | true =>
        cases hg : G (o - 0) with
        | some x => rw [rep1_some hf hg]; exact hG _ x hg
        | none => rw [rep1_none hf hg]; rfl
      | false => rw [rep1_bound hf]; rfl
    · split at hp1
      · rename_i h5 h2
        subst h2
        rw [rep1_2]
        show plainL (repL G sh 2 0 0 kids) = true
        exact ih1 0 hp1
      · rw [rep1_closed2 t hp1]
        exact hp1'
theorem closedL_ins {A : Fo} {V : Int} (hV : 0 ≤ V) (hA : ∀ i x, nthF A i = some x → closed1 x.k x.o x.kids V = true) (f : Fo) : ∀ i, plainL f = true → barF f → closedL 2 i (A.len : Int) f = true → closedL 2 i V (repL (Gi A) shi 2 i 0 f) = true := by
  induction f with
  | nil => intros; rfl
  | cons k t kids o r ih1 ih2 =>
    intro i hp hb hc
    rw [plainL_cons, Bool.and_eq_true] at hp
    rw [closedL_cons, Bool.and_eq_true, around2] at hc
    rw [repL_cons2, closedL_cons, Bool.and_eq_true, around2]
    obtain ⟨hp1, hp2⟩ := hp
    obtain ⟨hc1, hc2⟩ := hc
    refine ⟨?_, ih2 _ hp2 hb.2.2 hc2⟩
    rw [plain1] at hp1
    split at hp1
    · rename_i h5
      subst h5
      have hc1' := hc1
      rw [closed1, Bool.and_eq_true] at hc1
      have ho : o < (A.len : Int) := by
        have h := hc1.1
        simp only [freeB, Bool.not_eq_true', Bool.and_eq_false_iff, decide_eq_false_iff_not] at h
        rcases h with h | h
        · exact absurd trivial h
        · omega
      by_cases h0 : 0 ≤ o
      · have hf : freeB 5 o 0 = true := by simp [freeB, h0]
        obtain ⟨x, hx⟩ := nthF_some A o.toNat (by omega)
        have g1 : Gi A (o - 0) = some x := by rw [Gi, show (o - 0).toNat = o.toNat by omega]; exact hx
        rw [rep1_some hf g1]
        exact hA _ x hx
      · have hf : freeB 5 o 0 = false := by simp [freeB]; omega
        have hf0 : closed1 5 o kids 0 = true := by
          rw [hb.1 rfl, closed1, hf]
          rfl
        rw [rep1_closed2 t hf0]
        exact closed1_mono hV hf0
    · split at hp1
      · rename_i h5 h2
        subst h2
        rw [rep1_2]
        rw [closed1, Bool.and_eq_true] at hc1
        rw [closed1, Bool.and_eq_true]
        exact ⟨by simp [freeB], ih1 0 hp1 hb.2.1 hc1.2⟩
      · rw [rep1_closed2 t hp1]
        exact closed1_mono hV hp1
end Go.Proofs.YtpkiheenkpcebaaGreatDoor.Sx
namespace Go.Proofs.YtpkiheenkpcebaaGreatDoor
open Go.RowKit Sx

theorem gen_all' (E : EG) : ∀ M, CA E M ∧ CNm E M ∧ CT E M := by
  intro M
  induction M with
  | zero => exact ⟨fun k d V w _ h => absurd h (Nat.not_lt_zero _), fun k d V w _ h => absurd h (Nat.not_lt_zero _), fun k d V w _ h => absurd h (Nat.not_lt_zero _)⟩
  | succ M ih =>
    have h1 := named_step E M ih.1
    exact ⟨arg_step E M h1 ih.2.2, h1, term_step E M h1 ih.2.2⟩

/-- the stream's block and integers, the two tables of names -/
structure XG where
  b : Nat
  a : Option Addr
  len : Nat
  cap : Nat
  zs : List Int
  W : List (List UInt8)
  g : Nat
  o : Nat
  c : Nat
  XW : List (List UInt8)
  xg : Nat
  xo : Nat
  xc : Nat
def XG.E (X : XG) (gd cd : Nat) (ds : List De) : EG := ⟨X.b, X.a, X.len, X.cap, X.zs, X.W, X.g, X.o, X.c, gd, 0, ds.length, cd, ds.map fun d => (d.name, d.arity.toNat)⟩
structure XB (w0 : World) (X : XG) : Prop where
  leaf : TL.TabW w0 1 4 X.W X.g X.o X.c
  ext : TL.TabW w0 0 4 X.XW X.xg X.xo X.xc
  sW : ∀ s ∈ X.W, s.length ≤ 1000
  sX : ∀ s ∈ X.XW, s.length ≤ 1000
  hb : w0.heap.size ≤ X.b
  ints : Ints w0 X.a X.len X.zs
/-- short names, no more than three parameters -/
def avX (d : De) : Prop := 0 ≤ d.arity ∧ d.arity ≤ 3 ∧ d.name.length ≤ 1000
/-- between two rounds: w0 the world at the law's start, w1 at Extra's -/
structure XR (w0 w1 w : World) (X : XG) (k : Nat) (v1 v : Value) (ds : List De) (xs : List Value) : Prop where
  bw : Below w0.heap.size w0 w
  st : Strm w X.b X.a X.len X.cap X.zs k
  own : w.ownsRow w0.heap.size 37 8 v ds.length xs
  row : DX w (fun x => x ≠ X.b ∧ v.ownBlock ≠ some x) ds xs
  nb : v.ownBlock ≠ some X.b
  kh : KH X.b X.b v1 v w1 w
theorem KH.gb {b : Nat} {v : Value} {w w' : World} (h : w.grownBy w' (some b)) : KH b b v v w w' :=
  ⟨h.os, h.tape, h.output, h.size, fun x hx hp _ _ => h.block x hx (by simp; exact hp), .inl rfl⟩

section
variable {w0 w1 w w' : World} {X : XG} {k k' : Nat} {v1 v : Value} {ds : List De} {xs : List Value}
theorem XR.gb (B : XB w0 X) (h : XR w0 w1 w X k v1 v ds xs) (hg : w.grownBy w' (some X.b)) (hs : Strm w' X.b X.a X.len X.cap X.zs k') : XR w0 w1 w' X k' v1 v ds xs := by
  refine ⟨below_gb_of h.bw hg B.hb, hs, h.own.kept hg ?_, DX.keep hg.size (fun x hx hl => ⟨hg.block x hl (by simp; exact hx.1), hx⟩) _ _ h.row, h.nb, h.kh.trans (KH.gb hg)⟩
  cases hv : v.ownBlock with
  | none => exact .inl rfl
  | some x => exact .inr (by rw [← hv]; exact h.nb)
theorem XR.bh (B : XB w0 X) (h : XR w0 w1 w X k v1 v ds xs) (hb : BH w w') : XR w0 w1 w' X k v1 v ds xs := h.gb B (gb_below hb _) (h.st.keep hb)
theorem XR.drew (B : XB w0 X) (h : XR w0 w1 w X k v1 v ds xs) : XR w0 w1 w.drew X k v1 v ds xs := h.bh B (below_drew w)
theorem XR.leaf (B : XB w0 X) (h : XR w0 w1 w X k v1 v ds xs) : Tab w X.b 1 4 X.W X.g X.o X.c := B.leaf.tab h.bw B.hb
theorem XR.ext (B : XB w0 X) (h : XR w0 w1 w X k v1 v ds xs) : Tab w X.b 0 4 X.XW X.xg X.xo X.xc := B.ext.tab h.bw B.hb
theorem XR.shape (h : XR w0 w1 w X k v1 v ds xs) (hp : 0 < ds.length) : ∃ gd cd, v = .slice (some ⟨gd, 0, none⟩) ds.length cd ∧ w0.heap.size ≤ gd ∧ gd < w.heap.size := by
  rcases h.own.2 with ⟨_, h2⟩ | ⟨g, cap, cur, rfl, h2, h3, _⟩
  · omega
  · exact ⟨g, cap, rfl, h2, heap_lt h3⟩
theorem XR.dcs {A : Option Addr} {c : Nat} (h : XR w0 w1 w X k v1 (.slice A ds.length c) ds xs) : DcS w (fun x => x < w.heap.size) ds A c := (DcS.own2 rfl h.own h.row).v
theorem XR.gen {gd cd : Nat} (B : XB w0 X) (h : XR w0 w1 w X k v1 (.slice (some ⟨gd, 0, none⟩) ds.length cd) ds xs) (hl : ds.length ≤ 1000) (hds : ∀ d ∈ ds, avX d) (hlt : gd < w.heap.size) : GenD w (X.E gd cd ds) k := by
  refine ⟨h.st, h.leaf B, ⟨fun e => h.nb (by show some gd = some X.b; exact congrArg some e), hlt, by simp [XG.E], hl, ?_⟩, B.sW⟩
  intro j n ar hj
  have hj' : (ds.map fun d => (d.name, d.arity.toNat))[j]? = some (n, ar) := hj
  rw [List.getElem?_map, Option.map_eq_some_iff] at hj'
  obtain ⟨d, hd, he⟩ := hj'
  obtain ⟨rfl, rfl⟩ := Prod.mk.inj he
  obtain ⟨g, off, A1, c1, F1, x1, e, _, _, p0, p1, p2, p3, p4, p5, p6, p7, _, _⟩ := h.dcs.at hd
  cases e
  obtain ⟨o1, o2, o3⟩ := hds d (List.mem_of_getElem? hd)
  exact ⟨⟨d.super.k, d.super.t, d.super.o, A1, d.super.kids.len, c1, d.conc, F1, d.fields.length, x1, p0, by rw [Int.toNat_of_nonneg o1]; exact p1, p2, p3, p4, p5, p6, p7⟩, by omega, o3⟩

theorem XR.next (B : XB w0 X) (h : XR w0 w1 w X k v1 v ds xs) (m : Int) (hm : 0 < m) (hm2 : m ≤ 65536) :
    Calls Tryz.prog 61 #[.pointer (some ⟨X.b, 0, none⟩), .int .i64 m] w fun e w' => ∃ (r k' : Nat), e = .returned (.int .i64 (r : Int)) ∧ (r : Int) < m ∧ XR w0 w1 w' X k' v1 v ds xs ∧ w.grownBy w' (some X.b) ∧ w'.heap.size = w.heap.size ∧ k ≤ k' := by
  refine (next_det X.b X.a X.len X.cap X.zs k m w h.st hm hm2).mono ?_
  rintro e w' ⟨he, hs, hg, hz⟩
  obtain ⟨hr0, hr1⟩ := nxt_bounds X.len X.zs k m hm
  refine ⟨(nxt X.len X.zs k m).toNat, nk X.len k, by rw [he]; congr 2; omega, by omega, h.gb B hg hs, hg, hz, ?_⟩
  unfold nk
  split <;> omega

/-- a term as arg makes it -/
def okX (L : Nat) (V : Int) (x : Tm) : Prop := fsize x.kids ≤ 12 ∧ lenG (.one x.k x.t x.kids x.o) ∧ closed1 x.k x.o x.kids V = true ∧ argB x.kids
def nPart : List UInt8 := [112, 97, 114, 116]
/-- a declaration as Extra makes it -/
def okE (XW : List (List UInt8)) (L : Nat) (d : De) : Prop := d.name ∈ XW ∧ 0 ≤ d.arity ∧ d.arity ≤ 2 ∧ okX L d.arity d.super ∧ d.fields.length ≤ 1 ∧ ∀ f ∈ d.fields, f.1 = nPart ∧ okX L d.arity f.2
theorem okX.okT {L : Nat} {V V' : Int} {x : Tm} (h : okX L V x) (hL : L ≤ 67108864) (hV : V ≤ V') : OkT V' x :=
  ⟨by have := h.1; omega, h.2.1.1.1, lenG_lenT _ h.2.1.2.1, closed1_mono hV h.2.2.1⟩
theorem okE.okD {XW : List (List UInt8)} {L : Nat} {V : Int} {d : De} (h : okE XW L d) (hX : ∀ s ∈ XW, s.length ≤ 1000) (hL : L ≤ 67108864) (hV : 2 ≤ V) : OkD V d := by
  obtain ⟨h1, h2, h3, h4, h5, h6⟩ := h
  refine ⟨by have := hX _ h1; omega, h4.okT hL (by omega), by omega, fun f hf => ?_⟩
  obtain ⟨e, h7⟩ := h6 f hf
  exact ⟨by rw [e]; decide, h7.okT hL (by omega)⟩
theorem okE.av {XW : List (List UInt8)} {L : Nat} {d : De} (h : okE XW L d) (hX : ∀ s ∈ XW, s.length ≤ 1000) : avX d := ⟨h.2.1, by have := h.2.2.1; omega, hX _ h.1⟩

theorem XR.arg {gd cd : Nat} (B : XB w0 X) (h : XR w0 w1 w X k v1 (.slice (some ⟨gd, 0, none⟩) ds.length cd) ds xs) (hl : ds.length ≤ 1000) (hds : ∀ d ∈ ds, avX d) (hlt : gd < w.heap.size) (V : Int) (hV0 : 0 ≤ V) (hV1 : V ≤ 1000) :
    Calls Tryz.prog 62 #[.pointer (some ⟨X.b, 0, none⟩), .slice (some ⟨gd, 0, none⟩) ds.length cd, .int .i64 1, .int .i64 V] w fun e w' => ∃ (k' : Nat) (q o : Int) (t : List UInt8) (kids : Fo) (A : Option Addr) (c : Nat), e = .returned (.agg #[.int .i64 q, .string ⟨t.toArray⟩, .int .i64 o, .slice A kids.len c]) ∧
      KS w' (fun x => w.heap.size ≤ x) kids A c ∧ okX X.len V ⟨q, t, kids, o⟩ ∧ fsize kids ≤ 3 ∧ k ≤ k' ∧ k' ≤ X.len ∧ XR w0 w1 w' X k' v1 (.slice (some ⟨gd, 0, none⟩) ds.length cd) ds xs ∧ w.grownBy w' (some X.b) := by
  have hG := h.gen B hl hds hlt
  refine ((gen_all' (X.E gd cd ds) (X.len - k + 1)).1 k 1 V w hG (by show X.len - k < _; omega) hV0 (by omega) (by omega) (by decide) (by decide)).mono ?_
  rintro e w' ⟨k', q, o, t, kids, A, c, ys, rfl, hc, hr, hk, hkk, ⟨_, hz⟩, hlg, hcl, hG', hgb⟩
  have hf := hz.2 (by decide)
  have hk' : k' ≤ X.len := hG'.st.2.2.2.1
  exact ⟨k', q, o, t, kids, A, c, rfl, ⟨hc, ys, hr, hk⟩, ⟨by show fsize kids ≤ _; omega, hlg, hcl, fun i x hx => by have := nthF_size kids i x hx; omega⟩, hf, hkk, hk', h.gb B hgb hG'.st, hgb⟩
end
end Go.Proofs.YtpkiheenkpcebaaGreatDoor
