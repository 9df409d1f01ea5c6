/- A region that draws its order and ends with an append to a row of the call's own and a store: shown by what each operation leaves. No condition. -/
import Derived.Test.YtddfpbcdopcdhaaDoorRin
import Derived.Test.YtddfpbcdopcdhaaDoorSbB
set_option linter.unusedVariables false
set_option linter.unusedSimpArgs false
namespace Go.Proofs.YtddfpbcdopcdhaaDoor
open Go.RowKit

/-- early: makes memory at most, ahead of the append · free: touches no memory · app: the append · sto: the store behind it -/
inductive Knd where
  | early
  | free
  | app
  | sto

section
variable {P : Program} {ops : Array Oper} {Q : Exit → Act → World → Prop}

def kndAt (ks : List Knd) (i : Nat) : Knd := ks.getD i .free
def Knd.isEarly : Knd → Bool
  | .early => true
  | _ => false
def Knd.isFree : Knd → Bool
  | .free => true
  | _ => false
def Knd.isApp : Knd → Bool
  | .app => true
  | _ => false
def Knd.isSto : Knd → Bool
  | .sto => true
  | _ => false
/-- what the operations ahead of the store have left -/
def DepsQ (V : Nat → Value → World → Prop) (ks : List Knd) (ops : Array Oper) (o : Oper) (a : Act) (w : World) : Prop :=
  ∀ j oj d, (kndAt ks j).isEarly = false → (o.after.any fun e => Region.binds .any e && e.on == j) = true → ops[j]? = some oj → oj.dst = some d → V j (a.tmps.getD d undef) w
/-- what an operation is to leave -/
def HopK (P : Program) (ops : Array Oper) (Q : Exit → Act → World → Prop) (V : Nat → Value → World → Prop) (R : World → Prop) (all : List Knd) (a0 : Act) (w0 : World) (k : Knd) (i : Nat) (o : Oper) : Prop :=
  match k with
  | .early => ∀ a w, BH w0 w → Frm ops a0 a → Deps V ops o a w → o.wp P a w (fun a' w' => ∃ v, a' = a.put o.dst v ∧ V i v w' ∧ BH w w') Q
  | .free => ∀ a w, Frm ops a0 a → o.wp P a w (fun a' w' => ∃ v, a' = a.put o.dst v ∧ V i v w' ∧ w' = w) Q
  | .app => ∀ a w, BH w0 w → Frm ops a0 a → Deps V ops o a w → o.wp P a w (fun a' w' => ∃ v, a' = a.put o.dst v ∧ V i v w') Q
  | .sto => ∀ a w, Frm ops a0 a → DepsQ V all ops o a w → o.wp P a w (fun a' w' => a' = a ∧ R w') Q
def HopsK (P : Program) (ops : Array Oper) (Q : Exit → Act → World → Prop) (V : Nat → Value → World → Prop) (R : World → Prop) (all : List Knd) (a0 : Act) (w0 : World) : Nat → List Knd → List Oper → Prop
  | _, _, [] => True
  | _, [], _ :: _ => False
  | i, k :: ks, o :: r => HopK P ops Q V R all a0 w0 k i o ∧ HopsK P ops Q V R all a0 w0 (i + 1) ks r
theorem HopsK.get {V : Nat → Value → World → Prop} {R : World → Prop} {all : List Knd} {a0 : Act} {w0 : World} : ∀ {l : List Oper} {ks : List Knd} {n : Nat}, HopsK P ops Q V R all a0 w0 n ks l → ∀ {i : Nat} {o : Oper}, l[i]? = some o → HopK P ops Q V R all a0 w0 (kndAt ks i) (n + i) o := by
  intro l
  induction l with
  | nil => intro ks n _ i o h; cases h
  | cons x r ih =>
    intro ks n h i o hi
    cases ks with
    | nil => exact h.elim
    | cons k ks =>
      cases i with
      | zero => simp at hi; subst hi; exact h.1
      | succ i =>
        have := ih h.2 (i := i) (o := o) (by simpa using hi)
        rw [Nat.add_assoc, Nat.add_comm 1 i] at this
        exact this

/-- the shape of the region: p the append, q the store -/
def okLate (ops : Array Oper) (ks : List Knd) (n p q : Nat) : Bool :=
  (kndAt ks p).isApp && (kndAt ks q).isSto && (match ops[q]? with | some o => o.after.any (fun e => Region.binds .any e && e.on == p) | none => false) &&
  (List.range ops.size).all fun i => match ops[i]? with
    | none => true
    | some o => o.guard.isNone && (o.after.all fun e => !Region.binds .any e || decide (e.on < i)) &&
      (match kndAt ks i with
        | .app => i == p
        | .sto => i == q && o.dst.isNone
        | .free => true
        | .early => (List.range ops.size).any fun k => decide (i < k) && (k == p || (kndAt ks k).isEarly) && (match ops[k]? with | some ok => ok.after.any (fun e => Region.binds .any e && e.on == i) | none => false)) &&
      (match o.dst with
        | none => (kndAt ks i).isSto
        | some d => decide (d < n) && (List.range ops.size).all fun j => j == i || (match ops[j]? with | some oj => oj.dst != some d | none => true))

theorem knd_early {k : Knd} (h : k.isEarly = true) : k = .early := by cases k <;> first | rfl | cases h
theorem knd_app {k : Knd} (h : k.isApp = true) : k = .app := by cases k <;> first | rfl | cases h
theorem knd_sto {k : Knd} (h : k.isSto = true) : k = .sto := by cases k <;> first | rfl | cases h

theorem wp_region_late {id : Nat} {a0 : Act} {w0 : World} (hm : P.follows .mixedOrders = true) (V : Nat → Value → World → Prop) (R : World → Prop) (ks : List Knd) (p q : Nat)
    (hV : ∀ i v w w', (kndAt ks i).isApp = false → V i v w → BH w w' → V i v w') (hVf : ∀ i v w w', (kndAt ks i).isFree = true → V i v w → V i v w')
    (hok : okLate ops ks a0.tmps.size p q = true) (hops : HopsK P ops Q V R ks a0 w0 0 ks ops.toList)
    (hdone : ∀ a w, Frm ops a0 a → R w → Q .normal a w) : (Code.region id ops true).wp P Q a0 w0 := by
  unfold okLate at hok
  simp only [Bool.and_eq_true] at hok
  obtain ⟨⟨⟨hkp, hkq⟩, hqp⟩, hok⟩ := hok
  have kp := knd_app hkp
  have kq := knd_sto hkq
  obtain ⟨oq, hoq, hqe⟩ : ∃ oq, ops[q]? = some oq ∧ (oq.after.any fun e => Region.binds .any e && e.on == p) = true := by
    cases h : ops[q]? with
    | none => rw [h] at hqp; cases hqp
    | some o => rw [h] at hqp; exact ⟨o, rfl, hqp⟩
  have hsz : ∀ {i : Nat} {o : Oper}, ops[i]? = some o → i < ops.size := by
    intro i o ho
    rcases Nat.lt_or_ge i ops.size with h | h
    · exact h
    · rw [Array.getElem?_eq_none h] at ho; cases ho
  have hat : ∀ i o, ops[i]? = some o → o.guard = none ∧ (∀ e ∈ o.after, Region.binds .any e = true → e.on < i) ∧ (kndAt ks i = .app → i = p) ∧ (kndAt ks i = .sto → i = q ∧ o.dst = none) ∧
      (kndAt ks i = .early → ∃ k ok, i < k ∧ (k = p ∨ kndAt ks k = .early) ∧ ops[k]? = some ok ∧ ∃ e ∈ ok.after, Region.binds .any e = true ∧ e.on = i) ∧
      (∀ d, o.dst = some d → d < a0.tmps.size ∧ ∀ j oj, ops[j]? = some oj → j ≠ i → oj.dst ≠ some d) := by
    intro i o ho
    have h := List.all_eq_true.1 hok i (List.mem_range.2 (hsz ho))
    simp only [ho, Bool.and_eq_true] at h
    obtain ⟨⟨⟨h1, h2⟩, h3⟩, h4⟩ := h
    refine ⟨by simpa using h1, fun e he hb => ?_, fun hk => ?_, fun hk => ?_, fun hk => ?_, fun d hd => ?_⟩
    · have := Array.all_eq_true'.1 h2 e he
      rw [hb] at this
      simpa using this
    · rw [hk] at h3; simpa using h3
    · rw [hk] at h3
      simp only [Bool.and_eq_true] at h3
      exact ⟨by simpa using h3.1, by simpa using h3.2⟩
    · rw [hk] at h3
      obtain ⟨k, _, h5⟩ := List.any_eq_true.1 h3
      simp only [Bool.and_eq_true, decide_eq_true_eq, Bool.or_eq_true] at h5
      obtain ⟨⟨h6, h7⟩, h8⟩ := h5
      cases hok' : ops[k]? with
      | none => rw [hok'] at h8; cases h8
      | some ok =>
        rw [hok'] at h8
        obtain ⟨e, he, h9⟩ := Array.any_eq_true'.1 h8
        simp only [Bool.and_eq_true, beq_iff_eq] at h9
        exact ⟨k, ok, h6, h7.imp (by simp) knd_early, hok', e, he, h9.1, h9.2⟩
    · rw [hd] at h4
      simp only [Bool.and_eq_true, decide_eq_true_eq] at h4
      refine ⟨h4.1, fun j oj hj hne e => ?_⟩
      have := List.all_eq_true.1 h4.2 j (List.mem_range.2 (hsz hj))
      simp [hj, e, hne] at this
  -- all early ones have been met when the append has
  have hcov : ∀ listed : Array Bool, (∀ i o, listed.getD i false = true → ops[i]? = some o → ∀ e ∈ o.after, Region.binds .any e = true → listed.getD e.on false = true) → listed.getD p false = true →
      ∀ n i o, ops.size - i ≤ n → ops[i]? = some o → kndAt ks i = .early → listed.getD i false = true := by
    intro listed hdc hlp n
    induction n with
    | zero => intro i o hn ho; have := hsz ho; omega
    | succ n ih =>
      intro i o hn ho hk
      obtain ⟨k, ok, hik, hkk, hok', e, he, hb, hon⟩ := (hat i o ho).2.2.2.2.1 hk
      rw [← hon]
      refine hdc k ok ?_ hok' e he hb
      rcases hkk with rfl | hkk
      · exact hlp
      · exact ih k ok (by have := hsz ho; omega) hok' hkk
  refine wp_region_any hm ?_
  refine wpAny_inv (P := P) (ops := ops) (Q := Q) (fun i o ho => (hat i o ho).2.1)
    (fun listed a w => Frm ops a0 a ∧ (∀ i o, listed.getD i false = true → ops[i]? = some o → ∀ e ∈ o.after, Region.binds .any e = true → listed.getD e.on false = true) ∧
      (listed.getD p false = false → listed.getD q false = false ∧ BH w0 w) ∧
      (∀ i o d, listed.getD i false = true → ops[i]? = some o → o.dst = some d → (kndAt ks i = .early → listed.getD p false = false → V i (a.tmps.getD d undef) w) ∧ (kndAt ks i = .free → V i (a.tmps.getD d undef) w) ∧ (kndAt ks i = .app → listed.getD q false = false → V i (a.tmps.getD d undef) w)) ∧
      (listed.getD q false = true → R w)) ?_ ?_ _ _ _ _ (by simp) ?_ ?_
  · rintro listed a w i hs ⟨hF, hdc, hpq, hL, hRq⟩ hi
    obtain ⟨hun, o, ho, hdep⟩ := mem_ready.1 hi
    obtain ⟨hg, hb, hap, hst, hea, hd⟩ := hat i o ho
    have hil : i < listed.size := by rw [hs]; exact hsz ho
    have hun' : listed.getD i false = false := by simpa [hil] using hun
    have hset : ∀ j, (listed.setIfInBounds i true).getD j false = if j = i then true else listed.getD j false := by
      intro j
      by_cases hji : j = i
      · subst hji; simp [Array.getElem?_setIfInBounds, hil]
      · simp [Array.getElem?_setIfInBounds, Ne.symm hji, hji]
    have H := HopsK.get hops (i := i) (o := o) (by simpa using ho)
    rw [Nat.zero_add] at H
    have hdc' : ∀ j oj, (listed.setIfInBounds i true).getD j false = true → ops[j]? = some oj → ∀ e ∈ oj.after, Region.binds .any e = true → (listed.setIfInBounds i true).getD e.on false = true := by
      intro j oj hj hoj e he hbe
      rw [hset] at hj ⊢
      split
      · rfl
      · by_cases hji : j = i
        · subst hji
          rw [ho] at hoj
          cases hoj
          exact hdep e he hbe
        · rw [if_neg hji] at hj
          exact hdc j oj hj hoj e he hbe
    have hlo : ∀ j dj oj, (o.after.any fun e => Region.binds .any e && e.on == j) = true → ops[j]? = some oj → oj.dst = some dj → listed.getD j false = true := by
      intro j dj oj hj hoj hdj
      obtain ⟨e, he, h2⟩ := Array.any_eq_true'.1 hj
      simp only [Bool.and_eq_true, beq_iff_eq] at h2
      obtain ⟨h2, rfl⟩ := h2
      exact hdep e he h2
    have hput : ∀ v d', o.dst = some d' → ∀ t, (a.put o.dst v).tmps.getD t undef = if t = d' then v else a.tmps.getD t undef := by
      intro v d' hd' t
      rw [hd']
      simp only [Act.put]
      have : d' < a.tmps.size := by rw [hF.size]; exact (hd d' hd').1
      by_cases htd : t = d'
      · subst htd
        simp [Array.getElem?_setIfInBounds, this]
      · rw [if_neg htd]
        simp [Array.getElem?_setIfInBounds, Ne.symm htd]
    have hF' : ∀ v, Frm ops a0 (a.put o.dst v) := by
      intro v
      cases hdd : o.dst with
      | none => exact hF
      | some d' =>
        refine ⟨?_, ?_, fun t ht => ?_⟩
        · simp only [Act.put, Array.size_setIfInBounds]; exact hF.size
        · exact hF.defers
        · have := hput v d' hdd t
          rw [hdd] at this
          rw [this, if_neg (fun e => ht i o ho (by rw [hdd, e]))]
          exact hF.same t ht
    have hval : ∀ v j oj dj, j ≠ i → ops[j]? = some oj → oj.dst = some dj → (a.put o.dst v).tmps.getD dj undef = a.tmps.getD dj undef := by
      intro v j oj dj hji hoj hdj
      cases hdd : o.dst with
      | none => rfl
      | some d' =>
        have := hput v d' hdd dj
        rw [hdd] at this
        rw [this, if_neg]
        rintro rfl
        exact (hd dj hdd).2 j oj hoj hji hdj
    have hvali : ∀ v oj dj, ops[i]? = some oj → oj.dst = some dj → (a.put o.dst v).tmps.getD dj undef = v := by
      intro v oj dj hoj hdj
      rw [ho] at hoj
      cases hoj
      rw [hput v dj hdj dj, if_pos rfl]
    have hdepsV : listed.getD p false = false → Deps V ops o a w := by
      intro hlp j oj dj hj hoj hdj
      have hjl := hlo j dj oj hj hoj hdj
      obtain ⟨f1, f2, f3⟩ := hL j oj dj hjl hoj hdj
      cases hkj : kndAt ks j with
      | early => exact f1 hkj hlp
      | free => exact f2 hkj
      | app =>
        have := (hat j oj hoj).2.2.1 hkj
        subst this
        rw [hlp] at hjl
        cases hjl
      | sto =>
        have := ((hat j oj hoj).2.2.2.1 hkj).2
        rw [hdj] at this
        cases this
    unfold wpOp
    simp only [ho]
    rw [if_pos (by simp [Region.wanted, hg])]
    refine .inl ?_
    cases hk : kndAt ks i with
    | early =>
      have hip : i ≠ p := fun e => by rw [e, kp] at hk; cases hk
      have hiq : i ≠ q := fun e => by rw [e, kq] at hk; cases hk
      have hlp : listed.getD p false = false := by
        cases hc : listed.getD p false with
        | false => rfl
        | true =>
          have := hcov listed hdc hc _ i o (Nat.le_refl _) ho hk
          rw [hun'] at this
          cases this
      obtain ⟨hlq, hB⟩ := hpq hlp
      rw [hk] at H
      refine Oper.wp_mono ?_ (H a w hB hF (hdepsV hlp))
      rintro a' w' ⟨v, rfl, hv, hbw⟩
      refine ⟨hF' v, hdc', fun _ => ⟨by rw [hset, if_neg (Ne.symm hiq)]; exact hlq, BH.trans hB hbw⟩, fun j oj dj hj hoj hdj => ?_, fun h => by rw [hset, if_neg (Ne.symm hiq), hlq] at h; cases h⟩
      by_cases hji : j = i
      · subst hji
        rw [hvali v oj dj hoj hdj]
        exact ⟨fun _ _ => hv, fun _ => hv, fun _ _ => hv⟩
      · rw [hset, if_neg hji] at hj
        obtain ⟨f1, f2, f3⟩ := hL j oj dj hj hoj hdj
        rw [hval v j oj dj hji hoj hdj]
        refine ⟨fun h _ => hV _ _ _ _ (by rw [h]; rfl) (f1 h hlp) hbw, fun h => hV _ _ _ _ (by rw [h]; rfl) (f2 h) hbw, fun h _ => ?_⟩
        have := (hat j oj hoj).2.2.1 h
        subst this
        rw [hlp] at hj
        cases hj
    | free =>
      have hip : i ≠ p := fun e => by rw [e, kp] at hk; cases hk
      have hiq : i ≠ q := fun e => by rw [e, kq] at hk; cases hk
      rw [hk] at H
      refine Oper.wp_mono ?_ (H a w hF)
      rintro a' w' ⟨v, rfl, hv, rfl⟩
      refine ⟨hF' v, hdc', fun h => ?_, fun j oj dj hj hoj hdj => ?_, fun h => ?_⟩
      · rw [hset, if_neg (Ne.symm hip)] at h
        rw [hset, if_neg (Ne.symm hiq)]
        exact hpq h
      · rw [hset p, if_neg (Ne.symm hip), hset q, if_neg (Ne.symm hiq)]
        by_cases hji : j = i
        · subst hji
          rw [hvali v oj dj hoj hdj]
          exact ⟨fun _ _ => hv, fun _ => hv, fun _ _ => hv⟩
        · rw [hset, if_neg hji] at hj
          rw [hval v j oj dj hji hoj hdj]
          exact hL j oj dj hj hoj hdj
      · rw [hset, if_neg (Ne.symm hiq)] at h
        exact hRq h
    | app =>
      obtain rfl := hap hk
      have hiq : i ≠ q := fun e => by rw [e, kq] at hk; cases hk
      obtain ⟨hlq, hB⟩ := hpq hun'
      rw [hk] at H
      refine Oper.wp_mono ?_ (H a w hB hF (hdepsV hun'))
      rintro a' w' ⟨v, rfl, hv⟩
      refine ⟨hF' v, hdc', fun h => ?_, fun j oj dj hj hoj hdj => ?_, fun h => ?_⟩
      · rw [hset, if_pos rfl] at h
        cases h
      · rw [hset i, if_pos rfl, hset q, if_neg (Ne.symm hiq)]
        by_cases hji : j = i
        · subst hji
          rw [hvali v oj dj hoj hdj]
          exact ⟨fun _ _ => hv, fun _ => hv, fun _ _ => hv⟩
        · rw [hset, if_neg hji] at hj
          rw [hval v j oj dj hji hoj hdj]
          obtain ⟨f1, f2, f3⟩ := hL j oj dj hj hoj hdj
          refine ⟨fun _ h => (by cases h), fun h => hVf _ _ _ _ (by rw [h]; rfl) (f2 h), fun h _ => ?_⟩
          exact absurd ((hat j oj hoj).2.2.1 h) hji
      · rw [hset, if_neg (Ne.symm hiq), hlq] at h
        cases h
    | sto =>
      obtain ⟨rfl, hdn⟩ := hst hk
      have hpi : p ≠ i := fun e => by rw [← e, kp] at hk; cases hk
      have hlp : listed.getD p false = true := by
        rw [ho] at hoq
        cases hoq
        obtain ⟨e, he, h2⟩ := Array.any_eq_true'.1 hqe
        simp only [Bool.and_eq_true, beq_iff_eq] at h2
        obtain ⟨h2, rfl⟩ := h2
        exact hdep e he h2
      rw [hk] at H
      refine Oper.wp_mono ?_ (H a w hF ?_)
      · rintro a' w' ⟨rfl, hr⟩
        refine ⟨hF, hdc', fun h => ?_, fun j oj dj hj hoj hdj => ?_, fun _ => hr⟩
        · rw [hset, if_neg hpi, hlp] at h
          cases h
        · rw [hset p, if_neg hpi, hset i, if_pos rfl]
          by_cases hji : j = i
          · subst hji
            rw [ho] at hoj
            cases hoj
            rw [hdn] at hdj
            cases hdj
          · rw [hset, if_neg hji] at hj
            obtain ⟨f1, f2, f3⟩ := hL j oj dj hj hoj hdj
            exact ⟨fun _ h => (by rw [hlp] at h; cases h), fun h => hVf _ _ _ _ (by rw [h]; rfl) (f2 h), fun _ h => (by cases h)⟩
      · intro j oj dj hne hj hoj hdj
        have hjl := hlo j dj oj hj hoj hdj
        obtain ⟨f1, f2, f3⟩ := hL j oj dj hjl hoj hdj
        cases hkj : kndAt ks j with
        | early => rw [hkj] at hne; cases hne
        | free => exact f2 hkj
        | app => exact f3 hkj hun'
        | sto =>
          have := ((hat j oj hoj).2.2.2.1 hkj).2
          rw [hdj] at this
          cases this
  · rintro listed a w ⟨hF, _, _, _, hRq⟩ hall
    exact hdone a w hF (hRq (hall q (hsz hoq)))
  · unfold unl
    exact Nat.le_trans List.countP_le_length (by simp)
  · have hnf : ∀ i, (Array.replicate ops.size false).getD i false = false := by
      intro i
      rw [Array.getD_eq_getD_getElem?, Array.getElem?_replicate]
      split <;> rfl
    refine ⟨⟨rfl, rfl, fun _ _ => rfl⟩, fun i o h => ?_, fun _ => ⟨hnf q, BH.drew w0⟩, fun i o d h => ?_, fun h => ?_⟩
    · rw [hnf] at h; cases h
    · rw [hnf] at h; cases h
    · rw [hnf] at h; cases h
end

/-- is slot t written -/
def writ (ops : Array Oper) (t : Nat) : Bool := ops.toList.any fun o => match o.dst with | some d => d == t | none => false
/-- the frame behind the region, written out -/
theorem Frm.act {ops : Array Oper} {a0 a : Act} (h : Frm ops a0 a) : a = ⟨((List.range a0.tmps.size).map fun j => bif writ ops j then a.tmps.getD j undef else a0.tmps.getD j undef).toArray, a0.defers⟩ := by
  obtain ⟨tm, df⟩ := a
  obtain ⟨h1, h2, h3⟩ := h
  simp only at h1 h2 h3
  subst h2
  congr 1
  apply Array.ext
  · simp [h1]
  · intro j hj1 hj2
    simp only [List.getElem_toArray, List.getElem_map, List.getElem_range]
    cases hw : writ ops j with
    | true => simp [hj1]
    | false =>
      have := h3 j (fun i o ho e => by
        have := List.any_eq_false.1 hw o (Array.mem_def.1 (Array.mem_of_getElem? ho))
        rw [e] at this
        simp at this)
      simp only [cond_false]
      rw [← this]
      simp [hj1]
end Go.Proofs.YtddfpbcdopcdhaaDoor
namespace Go.Proofs.YtddfpbcdopcdhaaDoor
open Go.RowKit Sx

section
variable {w w3 wr W : World} {S : Nat → Prop} {gM : Nat} {q o : Int} {t : List UInt8} {v : Value} {acc : Fo} {xs : List Value}
/-- an append at whatever later world, and the store behind it -/
theorem RQ.push2 (h0 : RQ w w3 wr S gM q o t v acc xs) {q1 o1 : Int} {t1 : List UInt8} {kids : Fo} {A : Option Addr} {c : Nat} (hb4 : BH wr W) (hk : KS W (fun x => S x ∨ wr.heap.size ≤ x) kids A c)
    {w5 : World} {v' : Value} (hg : W.grownBy w5 v.ownBlock) (hat : v'.ownBlock = v.ownBlock ∨ v'.ownBlock = some W.heap.size)
    (hown : w5.ownsRow w3.heap.size 25 4 v' (acc.len + 1) (xs ++ [.int .i64 q1, .string ⟨t1.toArray⟩, .int .i64 o1, .slice A kids.len c])) :
    w5.heap[gM]? = some (.cells #[.int .i64 q, .string ⟨t.toArray⟩, .int .i64 o, v] 25 (0, 0)) ∧
    RQ w w3 (w5.setCell ⟨gM, 3, none⟩ v') S gM q o t v' (acc.app (.one q1 t1 kids o1)) (xs ++ [.int .i64 q1, .string ⟨t1.toArray⟩, .int .i64 o1, .slice A kids.len c]) := by
  have h := h0.after hb4
  have hM := h.hM
  have hs3 := h0.size
  have hs4 := Below.size hb4
  have hs5 := hg.size
  have hlt : ∀ x, v.ownBlock = some x → w3.heap.size ≤ x ∧ x < wr.heap.size := fun x hx => h0.own.lt x hx
  have hM5 : w5.heap[gM]? = some (.cells #[.int .i64 q, .string ⟨t.toArray⟩, .int .i64 o, v] 25 (0, 0)) := by
    refine (hg.block _ (by omega) ?_).trans h.blkM
    intro e
    have := (hlt _ e.symm).1
    omega
  have hto : ∀ x, x < W.heap.size → v.ownBlock ≠ some x → w5.heap[x]? = W.heap[x]? := fun x hx hne => hg.block x (by omega) (fun e => hne e.symm)
  have hne' : ∀ x, x < W.heap.size → v.ownBlock ≠ some x → v'.ownBlock ≠ some x := by
    intro x hx hne he
    rcases hat with h | h
    · exact hne (h.symm.trans he)
    · rw [h] at he
      simp only [Option.some.injEq] at he
      omega
  have hwM : ∀ x, x ≠ gM → (w5.setCell ⟨gM, 3, none⟩ v').heap[x]? = w5.heap[x]? := fun x hx => heap_far hx _
  have hss : W.heap.size ≤ (w5.setCell ⟨gM, 3, none⟩ v').heap.size := by simp [size_set]; omega
  have hww : ∀ x, S x → x < w.heap.size := h.hS
  have key : ∀ x, (S x ∨ wr.heap.size ≤ x) → x < W.heap.size → (w5.setCell ⟨gM, 3, none⟩ v').heap[x]? = W.heap[x]? ∧ ((S x ∨ w3.heap.size ≤ x) ∧ v'.ownBlock ≠ some x) := by
    intro x hx hl
    have hne : v.ownBlock ≠ some x := fun e => by
      have := hlt x e
      rcases hx with hx | hx
      · have := hww x hx; omega
      · omega
    have hxM : x ≠ gM := by
      rcases hx with hx | hx
      · have := hww x hx; omega
      · omega
    refine ⟨(hwM x hxM).trans (hto x hl hne), ?_, hne' x hl hne⟩
    rcases hx with hx | hx
    · exact .inl hx
    · exact .inr (by omega)
  obtain ⟨hc, ys, hr, hkk⟩ := hk
  refine ⟨hM5, h.hS, ?_, heap_set (i := 3) hM5 v', fun x hx hl hne => ?_, ?_, ?_, hM, by simp [size_set]; omega⟩
  · have hB : BH w w5 := by
      cases hv : v.ownBlock with
      | none => rw [hv] at hg; exact BH.trans h.bel (below_gb hg)
      | some g => rw [hv] at hg; exact below_gb_of h.bel hg (by have := hlt g hv; omega)
    exact below_gb_of hB (gb_setCell (World.grownBy.refl _ _) (.inl rfl) _) hM.1
  · have hne2 : v.ownBlock ≠ some x := fun e => by have := hlt x e; omega
    exact (hwM x hne).trans ((hto x (by omega) hne2).trans (h.old x hx hl hne))
  · rw [Fo.len_app]
    refine hown.kept (row := some gM) (gb_setCell (World.grownBy.refl _ _) (.inl rfl) _) ?_
    cases hv : v'.ownBlock with
    | none => exact .inl rfl
    | some x => exact .inr (by have := (hown.lt x hv).1; simp; omega)
  · refine rowT.app _ _ _ (rowT.one hc (hr.keep hss key) (hkk.keep hss key _)) _ (h0.row.keep (Nat.le_trans hs4 hss) ?_ _)
    rintro x ⟨hx, hne⟩ hl
    have hxM : x ≠ gM := by
      rcases hx with hx | hx
      · have := hww x hx; omega
      · omega
    exact ⟨(hwM x hxM).trans ((hto x (by omega) hne).trans (Below.block hb4 x hl)), hx, hne' x (by omega) hne⟩
end

theorem depq_of {V : Nat → Value → World → Prop} {ks : List Knd} {ops : Array Oper} {o : Oper} {a : Act} {w : World} (h : DepsQ V ks ops o a w) (j d : Nat) {oj : Oper} (hk : (kndAt ks j).isEarly = false) (hb : (o.after.any fun e => Region.binds .any e && e.on == j) = true) (hj : ops[j]? = some oj) (hd : oj.dst = some d) : V j (a.tmps[d]?.getD undef) w := by
  rw [← Array.getD_eq_getD_getElem?]
  exact h j oj d hk hb hj hd

/-- the append as one step -/
theorem wp_rea {P : Program} {o : Oper} {a : Act} {w : World} {K : Act → World → Prop} {Q : Exit → Act → World → Prop} (hgd : o.guard = none) (s x : Operand) (t : TypeId)
    (ho : o.op = .call { callee := .builtin .append, args := #[s, x], argTypes := #[t, t] })
    (base : Nat) (e : TypeId) (i : TypeInfo) (z : Value) (size bytes : Nat) (ht : P.underlying t = some (.slice e)) (hi : P.info? e = some i) (hz : i.zero = some z)
    (hsize : i.size = size) (hby : i.bytes = bytes) (hzs : z.cells.size = size) (hsz : 0 < size) (v : Value) (n : Nat) (xs : List Value) (hs : a.eval s = v) (hown : w.ownsRow base e size v n xs)
    (A : Option Addr) (m c : Nat) (news : List Value) (hx : a.eval x = .slice A m c) (hr : Rea w size A m news) (h63 : n + m ≤ maxLen) (hbytes : (n + m) * bytes ≤ 140737488355328) (hbase : base ≤ w.heap.size)
    (h : ∀ v' w', w'.ownsRow base e size v' (n + m) (xs ++ news) → w.grownBy w' v.ownBlock → (v'.ownBlock = v.ownBlock ∨ v'.ownBlock = some w.heap.size) → K (a.put o.dst v') w') : o.wp P a w K Q := by
  have h' := step_rea (P := P) (Q := Q) (K := K) (ops := #[]) (E := True) w hgd s x t ho base e i z size bytes ht hi hz hsize hby hzs hsz v n xs hs hown A m c news hx hr h63 hbytes hbase h
  rwa [if_pos (by simp [Region.wanted, hgd])] at h'

end Go.Proofs.YtddfpbcdopcdhaaDoor
namespace Go.Proofs.YtddfpbcdopcdhaaDoor.Sx
theorem repL_cons (G : Int → Option Tm) (sh : Int → Int) (pk : Int) (i : Nat) (b k o : Int) (t : List UInt8) (kids r : Fo) : repL G sh pk i b (.cons k t kids o r) =
    .cons (rep1 G sh k t o kids (aroundB pk i b)).k (rep1 G sh k t o kids (aroundB pk i b)).t (rep1 G sh k t o kids (aroundB pk i b)).kids (rep1 G sh k t o kids (aroundB pk i b)).o (repL G sh pk (i + 1) b r) := by
  rw [repL_map, mapK, repL_map]
end Go.Proofs.YtddfpbcdopcdhaaDoor.Sx
namespace Go.Proofs.YtddfpbcdopcdhaaDoor
open Go.RowKit Sx

/-- what the eighteen operations leave -/
structure EV where
  wr : World
  S : Nat → Prop
  g0 : Nat
  gM : Nat
  i : Nat
  b : Int
  d : Int
  vx : Value
  vr : Value
  g : Nat
  off : Nat
  v6 : Value
  v7 : Value
  v9 : Value
  y : Tm
  Rp : Value → World → Prop
def evV (E : EV) (j : Nat) (v : Value) (w : World) : Prop :=
  match j with
  | 0 => v = .pointer (some ⟨E.gM, 3, none⟩)
  | 1 => v = E.vx
  | 2 => v = .pointer (some ⟨E.g0, 3, none⟩)
  | 3 => v = E.vr
  | 4 => v = .int .i64 (E.i : Int)
  | 5 => v = .pointer (some ⟨E.g, E.off + E.i * 4, none⟩)
  | 6 => v = E.v6
  | 7 => v = E.v7
  | 8 => v = .int .i64 E.b
  | 9 => v = E.v9
  | 10 => v = .int .i64 (E.i : Int)
  | 11 => v = .int .i64 E.d
  | 12 => v = .int .i64 (E.b + E.d)
  | 13 => ∃ A c, v = .agg #[.int .i64 E.y.k, .string ⟨E.y.t.toArray⟩, .int .i64 E.y.o, .slice A E.y.kids.len c] ∧ KS w (fun z => E.S z ∨ E.wr.heap.size ≤ z) E.y.kids A c
  | 14 => ∃ A c g2, v = .slice (some ⟨g2, 0, none⟩) 1 1 ∧ w.heap[g2]? = some (.cells #[.int .i64 E.y.k, .string ⟨E.y.t.toArray⟩, .int .i64 E.y.o, .slice A E.y.kids.len c] 25 (0, 0)) ∧ KS w (fun z => E.S z ∨ E.wr.heap.size ≤ z) E.y.kids A c
  | 15 => E.Rp v w
  | _ => v = .pointer (some ⟨E.gM, 3, none⟩)
def evK : List Knd := [.free, .early, .free, .early, .free, .early, .early, .early, .free, .early, .free, .early, .early, .early, .early, .app, .free, .sto]
theorem evV_bh (E : EV) (j : Nat) (v : Value) (w w' : World) (hf : (kndAt evK j).isApp = false) (h : evV E j v w) (hb : BH w w') : evV E j v w' := by
  unfold evV at *
  split at h
  all_goals first
    | exact h
    | (obtain ⟨A, c, e, hk⟩ := h; exact ⟨A, c, e, hk.bh hb⟩)
    | (obtain ⟨A, c, g2, e, h2, hk⟩ := h; exact ⟨A, c, g2, e, (Below.block hb _ (heap_lt h2)).trans h2, hk.bh hb⟩)
    | cases hf
theorem evV_free (E : EV) (j : Nat) (v : Value) (w w' : World) (hf : (kndAt evK j).isFree = true) (h : evV E j v w) : evV E j v w' := by
  rcases Nat.lt_or_ge j 18 with hj | hj
  · match j, hf, h with
    | 0, _, h => exact h
    | 2, _, h => exact h
    | 4, _, h => exact h
    | 8, _, h => exact h
    | 10, _, h => exact h
    | 16, _, h => exact h
    | 1, hf, _ => cases hf
    | 3, hf, _ => cases hf
    | 5, hf, _ => cases hf
    | 6, hf, _ => cases hf
    | 7, hf, _ => cases hf
    | 9, hf, _ => cases hf
    | 11, hf, _ => cases hf
    | 12, hf, _ => cases hf
    | 13, hf, _ => cases hf
    | 14, hf, _ => cases hf
    | 15, hf, _ => cases hf
    | 17, hf, _ => cases hf
    | n + 18, _, _ => omega
  · obtain ⟨n, rfl⟩ : ∃ n, j = n + 18 := ⟨j - 18, by omega⟩
    exact h
end Go.Proofs.YtddfpbcdopcdhaaDoor
