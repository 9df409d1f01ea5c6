/- A region whose last operation is a store that waits for all others; what Substitute does to free variables. No condition. -/
import Derived.Test.YtddfpbcdopcdhaaDoorRlq
import Derived.Test.YtddfpbcdopcdhaaDoorSbB
import Derived.Test.YtddfpbcdopcdhaaDoorTrq
import Derived.Test.YtddfpbcdopcdhaaDoorAsc
import Derived.Test.YtddfpbcdopcdhaaDoorTls
set_option linter.unusedVariables false
set_option linter.unusedSimpArgs false
namespace Go.Proofs.YtddfpbcdopcdhaaDoor
open Go.RowKit

section
variable {P : Program} {ops : Array Oper} {Q : Exit → Act → World → Prop}
/-- all operations but the last one -/
def HopG {γ : Type} (P : Program) (ops : Array Oper) (Q : Exit → Act → World → Prop) (V : γ → Nat → Value → World → Prop) (I : γ → World → Prop) (T : γ → World → γ → World → Prop) (Z : Nat → γ → Prop) (a0 : Act) (i : Nat) (o : Oper) : Prop :=
  ∀ m a w, I m w → Z i m → Frm ops a0 a → Deps (V m) ops o a w → o.wp P a w (fun a' w' => ∃ v, a' = a.put o.dst v ∧ ∃ m', V m' i v w' ∧ T m w m' w' ∧ ∀ j, j ≠ i → Z j m → Z j m') Q
def HopsL {γ : Type} (P : Program) (ops : Array Oper) (Q : Exit → Act → World → Prop) (V : γ → Nat → Value → World → Prop) (I : γ → World → Prop) (T : γ → World → γ → World → Prop) (Z : Nat → γ → Prop) (a0 : Act) : Nat → List Oper → Prop
  | _, [] => True
  | _, [_] => True
  | i, o :: o' :: r => HopG P ops Q V I T Z a0 i o ∧ HopsL P ops Q V I T Z a0 (i + 1) (o' :: r)
theorem HopsL.get {γ : Type} {V : γ → Nat → Value → World → Prop} {I : γ → World → Prop} {T : γ → World → γ → World → Prop} {Z : Nat → γ → Prop} {a0 : Act} : ∀ {l : List Oper} {n : Nat}, HopsL P ops Q V I T Z a0 n l → ∀ {i : Nat} {o : Oper}, l[i]? = some o → i + 1 < l.length → HopG P ops Q V I T Z a0 (n + i) o := by
  intro l
  induction l with
  | nil => intro n _ i o h; cases h
  | cons x r ih =>
    intro n h i o hi hl
    cases r with
    | nil => simp at hl
    | cons x' r =>
      cases i with
      | zero => simp at hi; subst hi; exact h.1
      | succ i =>
        have := ih h.2 (i := i) (o := o) (by simpa using hi) (by simpa using hl)
        rwa [Nat.add_assoc, Nat.add_comm 1 i] at this
/-- the shape of the region: q the store -/
def okLast (ops : Array Oper) (n q : Nat) : Bool :=
  decide (q + 1 = ops.size) && (List.range ops.size).all fun i => match ops[i]? with
    | none => true
    | some o => o.guard.isNone && (o.after.all fun e => !Region.binds .any e || decide (e.on < i)) &&
      (i == q || (List.range ops.size).any fun k => decide (i < k) && (match ops[k]? with | some ok => ok.after.any (fun e => Region.binds .any e && e.on == i) | none => false)) &&
      (match o.dst with
        | none => i == q
        | some d => decide (i ≠ q) && decide (d < n) && (List.range ops.size).all fun j => j == i || (match ops[j]? with | some oj => oj.dst != some d | none => true))

theorem wp_region_last {γ : Type} {id : Nat} {a0 : Act} {w0 : World} (hm : P.follows .mixedOrders = true) (V : γ → Nat → Value → World → Prop) (I : γ → World → Prop) (T : γ → World → γ → World → Prop) (Z : Nat → γ → Prop) (R : Act → World → Prop) (m0 : γ) (q : Nat) (oq : Oper) (hoq : ops[q]? = some oq)
    (hI0 : I m0 w0.drew) (hZ0 : ∀ i, Z i m0) (hI : ∀ m w m' w', I m w → T m w m' w' → I m' w') (hV : ∀ m m' i v w w', V m i v w → T m w m' w' → V m' i v w') (hok : okLast ops a0.tmps.size q = true) (hops : HopsL P ops Q V I T Z a0 0 ops.toList)
    (hlast : ∀ m a w, I m w → Frm ops a0 a → (∀ i o d, ops[i]? = some o → o.dst = some d → V m i (a.tmps.getD d undef) w) → oq.wp P a w (fun a' w' => a' = a ∧ R a w') Q)
    (hdone : ∀ a w, Frm ops a0 a → R a w → Q .normal a w) : (Code.region id ops true).wp P Q a0 w0 := by
  unfold okLast at hok
  rw [Bool.and_eq_true, decide_eq_true_eq] at hok
  obtain ⟨hqs, hok⟩ := hok
  have hsz : ∀ {i : Nat} {o : Oper}, ops[i]? = some o → i < ops.size := by
    intro i o ho
    rcases Nat.lt_or_ge i ops.size with h | h
    · exact h
    · rw [Array.getElem?_eq_none h] at ho; cases ho
  have hat : ∀ i o, ops[i]? = some o → o.guard = none ∧ (∀ e ∈ o.after, Region.binds .any e = true → e.on < i) ∧
      (i ≠ q → ∃ k ok, i < k ∧ ops[k]? = some ok ∧ ∃ e ∈ ok.after, Region.binds .any e = true ∧ e.on = i) ∧
      (o.dst = none → i = q) ∧ (∀ d, o.dst = some d → i ≠ q ∧ d < a0.tmps.size ∧ ∀ j oj, ops[j]? = some oj → j ≠ i → oj.dst ≠ some d) := by
    intro i o ho
    have h := List.all_eq_true.1 hok i (List.mem_range.2 (hsz ho))
    simp only [ho, Bool.and_eq_true] at h
    obtain ⟨⟨⟨h1, h2⟩, h3⟩, h4⟩ := h
    refine ⟨by simpa using h1, fun e he hb => ?_, fun hk => ?_, fun hd => ?_, fun d hd => ?_⟩
    · have := Array.all_eq_true'.1 h2 e he
      rw [hb] at this
      simpa using this
    · rw [Bool.or_eq_true] at h3
      rcases h3 with h3 | h3
      · exact absurd (by simpa using h3) hk
      · obtain ⟨k, _, h5⟩ := List.any_eq_true.1 h3
        simp only [Bool.and_eq_true, decide_eq_true_eq] at h5
        obtain ⟨h6, h8⟩ := h5
        cases hok' : ops[k]? with
        | none => rw [hok'] at h8; cases h8
        | some ok =>
          rw [hok'] at h8
          obtain ⟨e, he, h9⟩ := Array.any_eq_true'.1 h8
          simp only [Bool.and_eq_true, beq_iff_eq] at h9
          exact ⟨k, ok, h6, hok', e, he, h9.1, h9.2⟩
    · rw [hd] at h4
      simpa using h4
    · rw [hd] at h4
      simp only [Bool.and_eq_true, decide_eq_true_eq] at h4
      refine ⟨h4.1.1, h4.1.2, fun j oj hj hne e => ?_⟩
      have := List.all_eq_true.1 h4.2 j (List.mem_range.2 (hsz hj))
      simp [hj, e, hne] at this
  -- all others have been met when the store's are
  have hcov : ∀ listed : Array Bool, (∀ i o, listed.getD i false = true → ops[i]? = some o → ∀ e ∈ o.after, Region.binds .any e = true → listed.getD e.on false = true) → (∀ e ∈ oq.after, Region.binds .any e = true → listed.getD e.on false = true) →
      ∀ n i o, ops.size - i ≤ n → ops[i]? = some o → i ≠ q → listed.getD i false = true := by
    intro listed hdc hlq n
    induction n with
    | zero => intro i o hn ho; have := hsz ho; omega
    | succ n ih =>
      intro i o hn ho hk
      obtain ⟨k, ok, hik, hok', e, he, hb, hon⟩ := (hat i o ho).2.2.1 hk
      rw [← hon]
      by_cases hkq : k = q
      · subst hkq
        rw [hoq] at hok'
        cases hok'
        exact hlq e he hb
      · exact hdc k ok (ih k ok (by have := hsz ho; omega) hok' hkq) hok' e he hb
  refine wp_region_any hm ?_
  refine wpAny_inv (P := P) (ops := ops) (Q := Q) (fun i o ho => (hat i o ho).2.1)
    (fun listed a w => Frm ops a0 a ∧ (∀ i o, listed.getD i false = true → ops[i]? = some o → ∀ e ∈ o.after, Region.binds .any e = true → listed.getD e.on false = true) ∧
      (listed.getD q false = false → ∃ m, I m w ∧ (∀ i, listed.getD i false = false → Z i m) ∧ ∀ i o d, listed.getD i false = true → ops[i]? = some o → o.dst = some d → V m i (a.tmps.getD d undef) w) ∧
      (listed.getD q false = true → R a w)) ?_ ?_ _ _ _ _ (by simp) ?_ ?_
  · rintro listed a w i hs ⟨hF, hdc, hpq, hRq⟩ hi
    obtain ⟨hun, o, ho, hdep⟩ := mem_ready.1 hi
    obtain ⟨hg, hb, hea, hdn, hd⟩ := hat i o ho
    have hil : i < listed.size := by rw [hs]; exact hsz ho
    have hun' : listed.getD i false = false := by simpa [hil] using hun
    have hset : ∀ j, (listed.setIfInBounds i true).getD j false = if j = i then true else listed.getD j false := by
      intro j
      by_cases hji : j = i
      · subst hji; simp [Array.getElem?_setIfInBounds, hil]
      · simp [Array.getElem?_setIfInBounds, Ne.symm hji, hji]
    have hdc' : ∀ j oj, (listed.setIfInBounds i true).getD j false = true → ops[j]? = some oj → ∀ e ∈ oj.after, Region.binds .any e = true → (listed.setIfInBounds i true).getD e.on false = true := by
      intro j oj hj hoj e he hbe
      rw [hset] at hj ⊢
      split
      · rfl
      · by_cases hji : j = i
        · subst hji
          rw [ho] at hoj
          cases hoj
          exact hdep e he hbe
        · rw [if_neg hji] at hj
          exact hdc j oj hj hoj e he hbe
    unfold wpOp
    simp only [ho]
    rw [if_pos (by simp [Region.wanted, hg])]
    refine .inl ?_
    by_cases hiq : i = q
    · subst hiq
      rw [hoq] at ho
      cases ho
      obtain ⟨m, hB, hZ, hL⟩ := hpq hun'
      refine Oper.wp_mono ?_ (hlast m a w hB hF ?_)
      · rintro a' w' ⟨rfl, hr⟩
        refine ⟨hF, hdc', fun h => ?_, fun _ => hr⟩
        rw [hset, if_pos rfl] at h
        cases h
      · intro j oj dj hoj hdj
        have hjq := ((hat j oj hoj).2.2.2.2 dj hdj).1
        exact hL j oj dj (hcov listed hdc hdep _ j oj (Nat.le_refl _) hoj hjq) hoj hdj
    · have hlq : listed.getD q false = false := by
        cases hc : listed.getD q false with
        | false => rfl
        | true =>
          have := hcov listed hdc (fun e he hbe => hdc q oq hc hoq e he hbe) _ i o (Nat.le_refl _) ho hiq
          rw [hun'] at this
          cases this
      obtain ⟨m, hB, hZ, hL⟩ := hpq hlq
      obtain ⟨d, hdd⟩ : ∃ d, o.dst = some d := by
        cases h : o.dst with
        | none => exact absurd (hdn h) hiq
        | some d => exact ⟨d, rfl⟩
      obtain ⟨_, hdlt, hdis⟩ := hd d hdd
      have H := HopsL.get hops (i := i) (o := o) (by simpa using ho) (by have := hsz ho; simp; omega)
      rw [Nat.zero_add] at H
      refine Oper.wp_mono ?_ (H m a w hB (hZ i hun') hF ?_)
      · rintro a' w' ⟨v, rfl, m', hv, hbw, hz⟩
        have hput : ∀ t, (a.put o.dst v).tmps.getD t undef = if t = d then v else a.tmps.getD t undef := by
          intro t
          rw [hdd]
          simp only [Act.put]
          have : d < a.tmps.size := by rw [hF.size]; exact hdlt
          by_cases htd : t = d
          · subst htd
            simp [Array.getElem?_setIfInBounds, this]
          · rw [if_neg htd]
            simp [Array.getElem?_setIfInBounds, Ne.symm htd]
        refine ⟨⟨?_, ?_, fun t ht => ?_⟩, hdc', fun _ => ⟨m', hI _ _ _ _ hB hbw, fun j hj => ?_, fun j oj dj hj hoj hdj => ?_⟩, fun h => by rw [hset, if_neg (Ne.symm hiq), hlq] at h; cases h⟩
        · rw [hdd]; simp only [Act.put, Array.size_setIfInBounds]; exact hF.size
        · rw [hdd]; exact hF.defers
        · rw [hput, if_neg (fun e => ht i o ho (by rw [hdd, e]))]
          exact hF.same t ht
        · rw [hset] at hj
          split at hj
          · cases hj
          · exact hz j (by assumption) (hZ j hj)
        · rw [hput]
          by_cases hji : j = i
          · subst hji
            rw [ho] at hoj
            cases hoj
            rw [hdd] at hdj
            cases hdj
            rw [if_pos rfl]
            exact hv
          · rw [if_neg (fun e => hdis j oj hoj hji (by rw [hdj, e]))]
            rw [hset, if_neg hji] at hj
            exact hV _ _ _ _ _ _ (hL j oj dj hj hoj hdj) hbw
      · intro j oj dj hj hoj hdj
        obtain ⟨e, he, h2⟩ := Array.any_eq_true'.1 hj
        simp only [Bool.and_eq_true, beq_iff_eq] at h2
        obtain ⟨h2, rfl⟩ := h2
        exact hL _ oj dj (hdep e he h2) hoj hdj
  · rintro listed a w ⟨hF, _, _, hR⟩ hall
    refine hdone a w hF (hR (hall q ?_))
    omega
  · unfold unl
    exact Nat.le_trans List.countP_le_length (by simp)
  · have hrep : ∀ j, (Array.replicate ops.size false).getD j false = false := by
      intro j
      rw [Array.getD_eq_getD_getElem?, Array.getElem?_replicate]
      split <;> rfl
    refine ⟨⟨rfl, rfl, fun _ _ => rfl⟩, fun i o hi => ?_, fun _ => ⟨m0, hI0, fun i _ => hZ0 i, fun i o d hi => ?_⟩, fun hi => ?_⟩
    · exact absurd (hi.symm.trans (hrep i)) (by decide)
    · exact absurd (hi.symm.trans (hrep i)) (by decide)
    · exact absurd (hi.symm.trans (hrep q)) (by decide)
theorem all_of {V : Nat → Value → World → Prop} {a : Act} {w : World} (h : ∀ i o d, ops[i]? = some o → o.dst = some d → V i (a.tmps.getD d undef) w) (j d : Nat) {oj : Oper} (hj : ops[j]? = some oj) (hd : oj.dst = some d) : V j (a.tmps[d]?.getD undef) w := by
  rw [← Array.getD_eq_getD_getElem?]
  exact h j oj d hj hd
end
end Go.Proofs.YtddfpbcdopcdhaaDoor
namespace Go.Proofs.YtddfpbcdopcdhaaDoor.Sx
open Go.RowKit

/-- the variables above 0, each one less -/
def down : List Int → List Int
  | [] => []
  | n :: l => if 0 < n then (n - 1) :: down l else down l
theorem down_app (l m : List Int) : down (l ++ m) = down l ++ down m := by
  induction l with
  | nil => rfl
  | cons n l ih =>
    simp only [List.cons_append, down, ih]
    split <;> rfl
theorem down_ins (l : List Int) (n : Int) : down (insG l n) = if 0 < n then insG (down l) (n - 1) else down l := by
  induction l with
  | nil => simp only [insG, down]
  | cons x r ih =>
    simp only [insG]
    by_cases h1 : x < n
    · rw [if_pos h1]
      simp only [down, ih]
      by_cases hn : 0 < n
      · simp only [if_pos hn]
        by_cases hx : 0 < x
        · simp only [if_pos hx, insG]
          rw [if_pos (show x - 1 < n - 1 by omega)]
        · simp only [if_neg hx]
      · simp only [if_neg hn]
    · rw [if_neg h1]
      by_cases h2 : x = n
      · subst h2
        rw [if_pos rfl]
        by_cases hn : 0 < x
        · simp only [down, if_pos hn, insG]
          rw [if_neg (show ¬ x - 1 < x - 1 by omega)]
          simp
        · simp only [if_neg hn]
      · rw [if_neg h2]
        by_cases hn : 0 < n
        · have hx : 0 < x := by omega
          simp only [down, if_pos hn, if_pos hx, insG]
          rw [if_neg (show ¬ x - 1 < n - 1 by omega), if_neg (show ¬ x - 1 = n - 1 by omega)]
        · simp only [if_neg hn]
          rw [show down (n :: x :: r) = down (x :: r) by simp only [down, if_neg hn]]
theorem down_insA (xs : List Int) : ∀ l, down (insAG l xs) = insAG (down l) (down xs) := by
  induction xs with
  | nil => intro l; rfl
  | cons n xs ih =>
    intro l
    have h := ih (insG l n)
    simp only [insAG, List.foldl_cons] at h ⊢
    rw [h, down_ins]
    simp only [down]
    split <;> rfl
theorem setI_ins (xs : List Int) : setI xs = insAG [] xs := by
  unfold setI
  rw [set_eq lin_int]
theorem setI_down (xs : List Int) : setI (down xs) = down (setI xs) := by
  rw [setI_ins, setI_ins, down_insA]
  rfl
theorem setI_len (xs : List Int) : (setI xs).length ≤ xs.length := by
  have := insAG_len xs []
  rw [← setI_ins] at this
  simpa using this

section
variable {G G' : Int → Option Tm} {sh sh' : Int → Int}
theorem repL_closed (f : Fo) : ∀ pk i b, closedL pk i b f = true → repL G sh pk i b f = f := by
  induction f with
  | nil => intros; rfl
  | cons k t kids o r ih1 ih2 =>
    intro pk i b h
    simp only [closedL, Bool.and_eq_true, Bool.not_eq_true'] at h
    obtain ⟨⟨h1, h2⟩, h3⟩ := h
    rw [repL]
    simp only [h1, Bool.false_eq_true, if_false, ih1 _ _ _ h2, ih2 _ _ _ h3]
theorem rep1_closed {k o b : Int} {kids : Fo} (t : List UInt8) (h : closed1 k o kids b = true) : rep1 G sh k t o kids b = ⟨k, t, kids, o⟩ := by
  simp only [closed1, Bool.and_eq_true, Bool.not_eq_true'] at h
  rw [rep1_bound h.1, repL_closed _ _ _ _ h.2]
/-- two ways to replace that agree at the variables that occur -/
theorem repL_congr {V : Int} (hG : ∀ n, 0 ≤ n → n < V → ∃ x, G n = some x ∧ G' n = some x) (f : Fo) : ∀ pk i b, closedL pk i (b + V) f = true → repL G sh pk i b f = repL G' sh' pk i b f := by
  induction f with
  | nil => intros; rfl
  | cons k t kids o r ih1 ih2 =>
    intro pk i b h
    rw [closedL_cons, Bool.and_eq_true, around_add] at h
    obtain ⟨h1, h3⟩ := h
    rw [repL, repL, ih2 _ _ _ h3]
    cases hf : freeB k o (aroundB pk i b) with
    | true =>
      obtain ⟨_, ho1, ho2⟩ := free_in h1 hf
      obtain ⟨x, e1, e2⟩ := hG (o - aroundB pk i b) (by omega) (by omega)
      simp only [if_true, e1, e2]
    | false =>
      have h2 := closed_kids h1
      simp only [Bool.false_eq_true, if_false, ih1 _ _ _ h2]
theorem rep1_congr {V : Int} (hG : ∀ n, 0 ≤ n → n < V → ∃ x, G n = some x ∧ G' n = some x) {k o b : Int} (t : List UInt8) {kids : Fo} (h : closed1 k o kids (b + V) = true) : rep1 G sh k t o kids b = rep1 G' sh' k t o kids b := by
  cases hf : freeB k o b with
  | true =>
    obtain ⟨_, ho1, ho2⟩ := free_in h hf
    obtain ⟨x, e1, e2⟩ := hG (o - b) (by omega) (by omega)
    rw [rep1_some hf e1, rep1_some hf e2]
  | false => rw [rep1_bound hf, rep1_bound hf, repL_congr hG _ _ _ _ (closed_kids h)]
/-- what stays free -/
theorem closedL_rep {V V' : Int} (hV' : 0 ≤ V') (hG : ∀ n x, 0 ≤ n → n < V → G n = some x → closed1 x.k x.o x.kids 0 = true) (hs : ∀ n b, 0 ≤ n → n < V → G n = none → sh (n + b) < b + V') (f : Fo) : ∀ pk i b, 0 ≤ b → closedL pk i (b + V) f = true → closedL pk i (b + V') (repL G sh pk i b f) = true := by
  induction f with
  | nil => intros; rfl
  | cons k t kids o r ih1 ih2 =>
    intro pk i b hb h
    rw [closedL_cons, Bool.and_eq_true, around_add] at h
    obtain ⟨h1, h3⟩ := h
    obtain ⟨a0, a1⟩ := aroundB_bounds pk b i
    rw [repL]
    cases hf : freeB k o (aroundB pk i b) with
    | true =>
      obtain ⟨_, ho1, ho2⟩ := free_in h1 hf
      cases hg : G (o - aroundB pk i b) with
      | some x =>
        simp only [if_true, hg]
        rw [closedL_cons, Bool.and_eq_true]
        exact ⟨closed1_mono (by rw [around_add]; omega) (hG _ x (by omega) (by omega) hg), ih2 _ _ _ hb h3⟩
      | none =>
        have hsh := hs (o - aroundB pk i b) (aroundB pk i b) (by omega) (by omega) hg
        rw [Int.sub_add_cancel] at hsh
        have h2 := closed_kids h1
        simp only [if_true, hg]
        rw [closedL_cons, Bool.and_eq_true, around_add]
        refine ⟨?_, ih2 _ _ _ hb h3⟩
        rw [closed1, Bool.and_eq_true]
        exact ⟨by simp [freeB]; exact .inr (by omega), ih1 _ _ _ (by omega) h2⟩
    | false =>
      have h2 := closed_kids h1
      simp only [Bool.false_eq_true, if_false]
      rw [closedL_cons, Bool.and_eq_true, around_add]
      refine ⟨?_, ih2 _ _ _ hb h3⟩
      rw [closed1, Bool.and_eq_true]
      refine ⟨?_, ih1 _ _ _ (by omega) h2⟩
      simp only [freeB, Bool.and_eq_false_iff, decide_eq_false_iff_not] at hf
      simp only [freeB, Bool.not_eq_true', Bool.and_eq_false_iff, decide_eq_false_iff_not]
      rcases hf with h | h
      · exact .inl h
      · exact .inr (by omega)
theorem closed1_rep {V V' : Int} (hV' : 0 ≤ V') (hG : ∀ n x, 0 ≤ n → n < V → G n = some x → closed1 x.k x.o x.kids 0 = true) (hs : ∀ n b, 0 ≤ n → n < V → G n = none → sh (n + b) < b + V') {k o b : Int} (t : List UInt8) {kids : Fo} (hb : 0 ≤ b) (h : closed1 k o kids (b + V) = true) :
    closed1 (rep1 G sh k t o kids b).k (rep1 G sh k t o kids b).o (rep1 G sh k t o kids b).kids (b + V') = true := by
  cases hf : freeB k o b with
  | true =>
    obtain ⟨_, ho1, ho2⟩ := free_in h hf
    cases hg : G (o - b) with
    | some x =>
      rw [rep1_some hf hg]
      exact closed1_mono (by omega) (hG _ x (by omega) (by omega) hg)
    | none =>
      have hsh := hs (o - b) b (by omega) (by omega) hg
      rw [Int.sub_add_cancel] at hsh
      rw [rep1_none hf hg, closed1, Bool.and_eq_true]
      exact ⟨by simp [freeB]; exact .inr (by omega), closedL_rep hV' hG hs _ _ _ _ hb (closed_kids h)⟩
  | false =>
    rw [rep1_bound hf, closed1, Bool.and_eq_true]
    refine ⟨?_, closedL_rep hV' hG hs _ _ _ _ hb (closed_kids h)⟩
    simp only [freeB, Bool.and_eq_false_iff, decide_eq_false_iff_not] at hf
    simp only [freeB, Bool.not_eq_true', Bool.and_eq_false_iff, decide_eq_false_iff_not]
    rcases hf with h | h
    · exact .inl h
    · exact .inr (by omega)
end

/-- the variables below m become x, the others m less -/
def Gn (m : Int) (x : Tm) (f : Int) : Option Tm := if f < m then some x else none
def shn (m o : Int) : Int := o - m
theorem repL_gs (x : Tm) (f : Fo) : ∀ pk i b, repL (Gs x) shs pk i b f = repL (Gn 1 x) (shn 1) pk i b f := by
  induction f with
  | nil => intros; rfl
  | cons k t kids o r ih1 ih2 =>
    intro pk i b
    rw [repL, repL, ih1, ih2]
    cases hf : freeB k o (aroundB pk i b) with
    | true =>
      have ho : aroundB pk i b ≤ o := by simp only [freeB, Bool.and_eq_true, decide_eq_true_eq] at hf; exact hf.2
      simp only [if_true, Gs, Gn]
      by_cases h0 : o - aroundB pk i b = 0
      · rw [if_pos h0, if_pos (by omega)]
      · rw [if_neg h0, if_neg (by omega)]
        rfl
    | false => simp only [Bool.false_eq_true, if_false]
theorem rep1_gs (x : Tm) (k : Int) (t : List UInt8) (o : Int) (kids : Fo) (b : Int) : rep1 (Gs x) shs k t o kids b = rep1 (Gn 1 x) (shn 1) k t o kids b := by
  rw [rep1, rep1, repL_gs]
  cases hf : freeB k o b with
  | true =>
    have ho : b ≤ o := by simp only [freeB, Bool.and_eq_true, decide_eq_true_eq] at hf; exact hf.2
    simp only [if_true, Gs, Gn]
    by_cases h0 : o - b = 0
    · rw [if_pos h0, if_pos (by omega)]
    · rw [if_neg h0, if_neg (by omega)]
      rfl
  | false => simp only [Bool.false_eq_true, if_false]
/-- one substitution of a closed term behind m of them -/
theorem repL_comp (x : Tm) (hx : closed1 x.k x.o x.kids 0 = true) (m : Int) (hm : 0 ≤ m) (f : Fo) : ∀ pk i b, 0 ≤ b → repL (Gs x) shs pk i b (repL (Gn m x) (shn m) pk i b f) = repL (Gn (m + 1) x) (shn (m + 1)) pk i b f := by
  induction f with
  | nil => intros; rfl
  | cons k t kids o r ih1 ih2 =>
    intro pk i b hb
    obtain ⟨a0, a1⟩ := aroundB_bounds pk b i
    have h2 := ih2 pk (i + 1) b hb
    have h1 := ih1 k 0 (aroundB pk i b) (by omega)
    generalize ha : aroundB pk i b = B at *
    rw [repL, ha, repL, ha]
    have hxc : ∀ r', repL (Gs x) shs pk i b (.cons x.k x.t x.kids x.o r') = .cons x.k x.t x.kids x.o (repL (Gs x) shs pk (i + 1) b r') := by
      intro r'
      have hB : closed1 x.k x.o x.kids B = true := closed1_mono (show (0 : Int) ≤ B by omega) hx
      simp only [closed1, Bool.and_eq_true, Bool.not_eq_true'] at hB
      rw [repL, ha]
      simp only [hB.1, Bool.false_eq_true, if_false, repL_closed _ _ _ _ hB.2]
    cases hf : freeB k o B with
    | true =>
      have hfo : k = 5 ∧ B ≤ o := by simpa [freeB] using hf
      by_cases hlt : o - B < m
      · simp only [if_true, Gn, if_pos hlt, if_pos (show o - B < m + 1 by omega), hxc, h2]
      · simp only [if_true, Gn, if_neg hlt]
        rw [show shn m o = o - m from rfl]
        have hf2 : freeB k (o - m) B = true := by
          rw [freeB, hfo.1]
          simp only [decide_true, Bool.true_and, decide_eq_true_eq]
          omega
        rw [repL, ha]
        simp only [hf2, if_true, Gs]
        by_cases h0 : o - m - B = 0
        · rw [if_pos h0, if_pos (show o - B < m + 1 by omega)]
          simp only [h2]
        · rw [if_neg h0, if_neg (show ¬ o - B < m + 1 by omega)]
          simp only [h1, h2]
          rw [show shs (o - m) = shn (m + 1) o by unfold shs shn; omega]
    | false =>
      simp only [Bool.false_eq_true, if_false]
      rw [repL, ha]
      simp only [hf, Bool.false_eq_true, if_false, h1, h2]
theorem rep1_comp (x : Tm) (hx : closed1 x.k x.o x.kids 0 = true) (m : Int) (hm : 0 ≤ m) (k : Int) (t : List UInt8) (o : Int) (kids : Fo) (b : Int) (hb : 0 ≤ b) {y : Tm} (hy : rep1 (Gn m x) (shn m) k t o kids b = y) :
    rep1 (Gs x) shs y.k y.t y.o y.kids b = rep1 (Gn (m + 1) x) (shn (m + 1)) k t o kids b := by
  subst hy
  have h1 := repL_comp x hx m hm kids k 0 b hb
  cases hf : freeB k o b with
  | true =>
    have hfo : k = 5 ∧ b ≤ o := by simpa [freeB] using hf
    by_cases hlt : o - b < m
    · rw [rep1_some hf (show Gn m x (o - b) = some x by unfold Gn; rw [if_pos hlt]), rep1_some hf (show Gn (m + 1) x (o - b) = some x by unfold Gn; rw [if_pos (by omega)])]
      rw [rep1_closed _ (closed1_mono hb hx)]
    · rw [rep1_none hf (show Gn m x (o - b) = none by unfold Gn; rw [if_neg hlt])]
      have hf2 : freeB k (shn m o) b = true := by
        rw [freeB, hfo.1, shn]
        simp only [decide_true, Bool.true_and, decide_eq_true_eq]
        omega
      by_cases h0 : shn m o - b = 0
      · rw [rep1_some hf2 (show Gs x (shn m o - b) = some x by unfold Gs; rw [if_pos h0])]
        rw [rep1_some hf (show Gn (m + 1) x (o - b) = some x by unfold Gn; rw [if_pos (by unfold shn at h0; omega)])]
      · rw [rep1_none hf2 (show Gs x (shn m o - b) = none by unfold Gs; rw [if_neg h0])]
        rw [rep1_none hf (show Gn (m + 1) x (o - b) = none by unfold Gn; rw [if_neg (by unfold shn at h0; omega)])]
        rw [show shs (shn m o) = shn (m + 1) o by unfold shs shn; omega]
        simp only [h1]
  | false =>
    rw [rep1_bound (G := Gn m x) (sh := shn m) hf, rep1_bound (G := Gn (m + 1) x) (sh := shn (m + 1)) hf]
    show rep1 (Gs x) shs k t o (repL (Gn m x) (shn m) k 0 b kids) b = _
    rw [rep1_bound hf, h1]
/-- Substitute: the variables above 0, each one less, where variables have no arguments -/
theorem freeL_sub (x : Tm) (hx : closed1 x.k x.o x.kids 0 = true) {V : Int} (hV : V ≤ 1152921504606846976) (f : Fo) : lenG f → ∀ pk i b, 0 ≤ b → closedL pk i (b + V) f = true → freeL pk i b (repL (Gs x) shs pk i b f) = down (freeL pk i b f) := by
  induction f with
  | nil => intros; rfl
  | cons k t kids o r ih1 ih2 =>
    intro hl pk i b hb h
    obtain ⟨⟨_, hbar⟩, hl1, hl2⟩ := hl
    rw [closedL_cons, Bool.and_eq_true, around_add] at h
    obtain ⟨h1, h3⟩ := h
    obtain ⟨a0, a1⟩ := aroundB_bounds pk b i
    have e2 := ih2 hl2 pk (i + 1) b hb h3
    rw [repL]
    cases hf : freeB k o (aroundB pk i b) with
    | true =>
      obtain ⟨rfl, ho1, ho2⟩ := free_in h1 hf
      obtain rfl := hbar rfl
      have hw : ∀ z : Int, 0 ≤ z → z < V → wrap64 z = z := fun z _ _ => wrap64_in (by omega) (by omega)
      by_cases h0 : o - aroundB pk i b = 0
      · simp only [if_true, Gs, if_pos h0]
        rw [freeL_cons, freeL_cons, e2, down_app, (free1_nil x.k x.o x.kids _).2 (closed1_mono (show (0 : Int) ≤ aroundB pk i b by omega) hx)]
        simp only [free1, hf, if_true, freeL, List.append_nil, h0, hw 0 (by omega) (by omega), down]
        rw [if_neg (by omega)]
      · simp only [if_true, Gs, if_neg h0]
        rw [freeL_cons, freeL_cons, e2, down_app]
        have hf2 : freeB 5 (o - 1) (aroundB pk i b) = true := by
          simp only [freeB, decide_true, Bool.true_and, decide_eq_true_eq]
          omega
        simp only [free1, shs, hf, hf2, if_true, repL, freeL, List.append_nil, down]
        rw [hw _ (by omega) (by omega), hw _ (by omega) (by omega), if_pos (by omega)]
        rw [show o - 1 - aroundB pk i b = o - aroundB pk i b - 1 by omega]
    | false =>
      have e1 := ih1 hl1 k 0 (aroundB pk i b) (by omega) (closed_kids h1)
      simp only [Bool.false_eq_true, if_false]
      rw [freeL_cons, freeL_cons, e2, down_app]
      simp only [free1, hf, Bool.false_eq_true, if_false, List.nil_append, e1]
theorem free1_sub (x : Tm) (hx : closed1 x.k x.o x.kids 0 = true) {V : Int} (hV : V ≤ 1152921504606846976) {k o b : Int} (t : List UInt8) {kids : Fo} (hl : lenG (.one k t kids o)) (hb : 0 ≤ b) (h : closed1 k o kids (b + V) = true) {y : Tm} (hy : rep1 (Gs x) shs k t o kids b = y) :
    free1 y.k y.o y.kids b = down (free1 k o kids b) := by
  subst hy
  obtain ⟨⟨_, hbar⟩, hl1, _⟩ := hl
  have e1 := freeL_sub x hx hV kids hl1 k 0 b hb (closed_kids h)
  cases hf : freeB k o b with
  | true =>
    obtain ⟨rfl, ho1, ho2⟩ := free_in h hf
    obtain rfl := hbar rfl
    have hw : ∀ z : Int, 0 ≤ z → z < V → wrap64 z = z := fun z _ _ => wrap64_in (by omega) (by omega)
    by_cases h0 : o - b = 0
    · rw [rep1_some hf (show Gs x (o - b) = some x by unfold Gs; rw [if_pos h0]), (free1_nil x.k x.o x.kids _).2 (closed1_mono hb hx)]
      simp only [free1, hf, if_true, freeL, List.append_nil, h0, hw 0 (by omega) (by omega), down]
      rw [if_neg (by omega)]
    · rw [rep1_none hf (show Gs x (o - b) = none by unfold Gs; rw [if_neg h0])]
      have hf2 : freeB 5 (o - 1) b = true := by
        simp only [freeB, decide_true, Bool.true_and, decide_eq_true_eq]
        omega
      simp only [free1, shs, hf, hf2, if_true, repL, freeL, List.append_nil, down]
      rw [hw _ (by omega) (by omega), hw _ (by omega) (by omega), if_pos (by omega)]
      rw [show o - 1 - b = o - b - 1 by omega]
  | false =>
    rw [rep1_bound hf]
    simp only [free1, hf, Bool.false_eq_true, if_false, List.nil_append, e1]
/-- three times the same -/
def L3 (x : Tm) : Fo := .cons x.k x.t x.kids x.o (.cons x.k x.t x.kids x.o (.cons x.k x.t x.kids x.o .nil))
theorem gi_l3 (x : Tm) (n : Int) (h0 : 0 ≤ n) (h3 : n < 3) : Gi (L3 x) n = some x := by
  have h : n = 0 ∨ n = 1 ∨ n = 2 := by omega
  rcases h with rfl | rfl | rfl <;> rfl
theorem ins_three (x : Tm) (k : Int) (t : List UInt8) (o : Int) (kids : Fo) (V : Int) (hV : V ≤ 3) (h : closed1 k o kids V = true) : rep1 (Gi (L3 x)) shi k t o kids 0 = rep1 (Gn 3 x) (shn 3) k t o kids 0 :=
  rep1_congr (V := V) (fun n h0 h1 => ⟨x, gi_l3 x n h0 (by omega), by unfold Gn; rw [if_pos (by omega)]⟩) t (by simpa using h)
theorem freeL_lt {V : Int} (hV : V ≤ 1152921504606846976) (f : Fo) : ∀ pk i b, closedL pk i (b + V) f = true → ∀ x ∈ freeL pk i b f, 0 ≤ x ∧ x < V := by
  induction f with
  | nil => intro pk i b _ x hx; cases hx
  | cons k t kids o r ih1 ih2 =>
    intro pk i b h x hx
    rw [closedL_cons, Bool.and_eq_true, around_add] at h
    obtain ⟨h1, h3⟩ := h
    rw [freeL_cons, List.mem_append] at hx
    rcases hx with hx | hx
    · rw [free1, List.mem_append] at hx
      rcases hx with hx | hx
      · cases hf : freeB k o (aroundB pk i b) with
        | true =>
          obtain ⟨_, ho1, ho2⟩ := free_in h1 hf
          rw [hf, if_pos rfl, List.mem_singleton, wrap64_in (by omega) (by omega)] at hx
          omega
        | false =>
          rw [hf] at hx
          simp at hx
      · exact ih1 _ _ _ (closed_kids h1) x hx
    · exact ih2 _ _ _ h3 x hx
theorem free1_lt {V : Int} (hV : V ≤ 1152921504606846976) {k o b : Int} {kids : Fo} (h : closed1 k o kids (b + V) = true) : ∀ x ∈ free1 k o kids b, 0 ≤ x ∧ x < V := by
  intro x hx
  rw [free1, List.mem_append] at hx
  rcases hx with hx | hx
  · cases hf : freeB k o b with
    | true =>
      obtain ⟨_, ho1, ho2⟩ := free_in h hf
      rw [hf, if_pos rfl, List.mem_singleton, wrap64_in (by omega) (by omega)] at hx
      omega
    | false =>
      rw [hf] at hx
      simp at hx
  · exact freeL_lt hV _ _ _ _ (closed_kids h) x hx
theorem mem_setI {x : Int} {l : List Int} (h : x ∈ setI l) : x ∈ l := by
  have key : ∀ (xs l : List Int), x ∈ insAG l xs → x ∈ l ∨ x ∈ xs := by
    intro xs
    induction xs with
    | nil => intro l h; exact .inl h
    | cons y ys ih =>
      intro l h
      rcases ih (insG l y) h with h1 | h1
      · rcases (mem_insG l y x).1 h1 with rfl | h2
        · exact .inr (.head _)
        · exact .inl h2
      · exact .inr (.tail _ h1)
  rw [setI_ins] at h
  rcases key l [] h with h1 | h1
  · cases h1
  · exact h1
theorem Gn_some {m : Int} {x y : Tm} {n : Int} (h : Gn m x n = some y) : y = x := by
  unfold Gn at h
  split at h
  · cases h; rfl
  · cases h
theorem Gs_some {x y : Tm} {n : Int} (h : Gs x n = some y) : y = x := by
  unfold Gs at h
  split at h
  · cases h; rfl
  · cases h
theorem ab_le (a b : Nat) (h : a + b ≤ 4194304) : a * b ≤ 4398046511104 := by
  rcases Nat.le_total a 2097152 with h1 | h1
  · obtain ⟨e, he⟩ : ∃ e, a + e = 2097152 := ⟨2097152 - a, by omega⟩
    have h2 : a * b ≤ a * (2097152 + e) := Nat.mul_le_mul_left _ (by omega)
    have h3 : a * e ≤ 2097152 * e := Nat.mul_le_mul_right _ h1
    rw [Nat.mul_add] at h2
    omega
  · obtain ⟨e, he⟩ : ∃ e, 2097152 + e = a := ⟨a - 2097152, by omega⟩
    have h2 : a * b = 2097152 * b + e * b := by rw [← he, Nat.add_mul]
    have h3 : e * b ≤ e * 2097152 := Nat.mul_le_mul_left _ (by omega)
    omega
/-- the size behind m substitutions -/
theorem gn_size {a b : Nat} (hab : a + b ≤ 4194304) {m : Int} {x : Tm} (hx : fsize x.kids ≤ b) {k o : Int} {t : List UInt8} {kids : Fo} (hk : fsize kids ≤ a) {y : Tm} (hy : rep1 (Gn m x) (shn m) k t o kids 0 = y) : fsize y.kids ≤ 8796093022206 := by
  subst hy
  have h := rep1_size (G := Gn m x) (sh := shn m) b (fun f z hz => by rw [Gn_some hz]; exact hx) k t o kids 0
  have h2 : fsize kids * (b + 1) ≤ a * (b + 1) := Nat.mul_le_mul_right _ hk
  have h3 := ab_le a b hab
  have h4 : a * (b + 1) = a * b + a := by rw [Nat.mul_add, Nat.mul_one]
  omega
theorem down_take (R : List Int) (i : Nat) (hi : i < R.length) : down (R.take (i + 1)) = down (R.take i) ++ (if 0 < R.getD i 0 then [R.getD i 0 - 1] else []) := by
  rw [List.take_add_one, down_app]
  congr 1
  rw [List.getElem?_eq_getElem hi]
  simp only [Option.toList, down, List.getD_eq_getElem?_getD, List.getElem?_eq_getElem hi, Option.getD_some]
end Go.Proofs.YtddfpbcdopcdhaaDoor.Sx
