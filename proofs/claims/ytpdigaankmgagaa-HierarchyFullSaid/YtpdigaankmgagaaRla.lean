/- A region that draws its order and whose last operation is a store that waits for all others: shown by what each operation leaves. No condition. -/
import Derived.Test.YtpdigaankmgagaaRin
set_option linter.unusedVariables false
set_option linter.unusedSimpArgs false
namespace Go.Proofs.Ytpdigaankmgagaa
open Go.RowKit

section
variable {P : Program} {ops : Array Oper} {Q : Exit → Act → World → Prop}
/-- all operations but the last one -/
def HopG {γ : Type} (P : Program) (ops : Array Oper) (Q : Exit → Act → World → Prop) (V : γ → Nat → Value → World → Prop) (I : γ → World → Prop) (T : γ → World → γ → World → Prop) (Z : Nat → γ → Prop) (a0 : Act) (i : Nat) (o : Oper) : Prop :=
  ∀ m a w, I m w → Z i m → Frm ops a0 a → Deps (V m) ops o a w → o.wp P a w (fun a' w' => ∃ v, a' = a.put o.dst v ∧ ∃ m', V m' i v w' ∧ T m w m' w' ∧ ∀ j, j ≠ i → Z j m → Z j m') Q
def HopsL {γ : Type} (P : Program) (ops : Array Oper) (Q : Exit → Act → World → Prop) (V : γ → Nat → Value → World → Prop) (I : γ → World → Prop) (T : γ → World → γ → World → Prop) (Z : Nat → γ → Prop) (a0 : Act) : Nat → List Oper → Prop
  | _, [] => True
  | _, [_] => True
  | i, o :: o' :: r => HopG P ops Q V I T Z a0 i o ∧ HopsL P ops Q V I T Z a0 (i + 1) (o' :: r)
theorem HopsL.get {γ : Type} {V : γ → Nat → Value → World → Prop} {I : γ → World → Prop} {T : γ → World → γ → World → Prop} {Z : Nat → γ → Prop} {a0 : Act} : ∀ {l : List Oper} {n : Nat}, HopsL P ops Q V I T Z a0 n l → ∀ {i : Nat} {o : Oper}, l[i]? = some o → i + 1 < l.length → HopG P ops Q V I T Z a0 (n + i) o := by
  intro l
  induction l with
  | nil => intro n _ i o h; cases h
  | cons x r ih =>
    intro n h i o hi hl
    cases r with
    | nil => simp at hl
    | cons x' r =>
      cases i with
      | zero => simp at hi; subst hi; exact h.1
      | succ i =>
        have := ih h.2 (i := i) (o := o) (by simpa using hi) (by simpa using hl)
        rwa [Nat.add_assoc, Nat.add_comm 1 i] at this
/-- the shape of the region: q the store -/
def okLast (ops : Array Oper) (n q : Nat) : Bool :=
  decide (q + 1 = ops.size) && (List.range ops.size).all fun i => match ops[i]? with
    | none => true
    | some o => o.guard.isNone && (o.after.all fun e => !Region.binds .any e || decide (e.on < i)) &&
      (i == q || (List.range ops.size).any fun k => decide (i < k) && (match ops[k]? with | some ok => ok.after.any (fun e => Region.binds .any e && e.on == i) | none => false)) &&
      (match o.dst with
        | none => i == q
        | some d => decide (i ≠ q) && decide (d < n) && (List.range ops.size).all fun j => j == i || (match ops[j]? with | some oj => oj.dst != some d | none => true))

theorem wp_region_last {γ : Type} {id : Nat} {a0 : Act} {w0 : World} (hm : P.follows .mixedOrders = true) (V : γ → Nat → Value → World → Prop) (I : γ → World → Prop) (T : γ → World → γ → World → Prop) (Z : Nat → γ → Prop) (R : Act → World → Prop) (m0 : γ) (q : Nat) (oq : Oper) (hoq : ops[q]? = some oq)
    (hI0 : I m0 w0.drew) (hZ0 : ∀ i, Z i m0) (hI : ∀ m w m' w', I m w → T m w m' w' → I m' w') (hV : ∀ m m' i v w w', V m i v w → T m w m' w' → V m' i v w') (hok : okLast ops a0.tmps.size q = true) (hops : HopsL P ops Q V I T Z a0 0 ops.toList)
    (hlast : ∀ m a w, I m w → Frm ops a0 a → (∀ i o d, ops[i]? = some o → o.dst = some d → V m i (a.tmps.getD d undef) w) → oq.wp P a w (fun a' w' => a' = a ∧ R a w') Q)
    (hdone : ∀ a w, Frm ops a0 a → R a w → Q .normal a w) : (Code.region id ops true).wp P Q a0 w0 := by
  unfold okLast at hok
  rw [Bool.and_eq_true, decide_eq_true_eq] at hok
  obtain ⟨hqs, hok⟩ := hok
  have hsz : ∀ {i : Nat} {o : Oper}, ops[i]? = some o → i < ops.size := by
    intro i o ho
    rcases Nat.lt_or_ge i ops.size with h | h
    · exact h
    · rw [Array.getElem?_eq_none h] at ho; cases ho
  have hat : ∀ i o, ops[i]? = some o → o.guard = none ∧ (∀ e ∈ o.after, Region.binds .any e = true → e.on < i) ∧
      (i ≠ q → ∃ k ok, i < k ∧ ops[k]? = some ok ∧ ∃ e ∈ ok.after, Region.binds .any e = true ∧ e.on = i) ∧
      (o.dst = none → i = q) ∧ (∀ d, o.dst = some d → i ≠ q ∧ d < a0.tmps.size ∧ ∀ j oj, ops[j]? = some oj → j ≠ i → oj.dst ≠ some d) := by
    intro i o ho
    have h := List.all_eq_true.1 hok i (List.mem_range.2 (hsz ho))
    simp only [ho, Bool.and_eq_true] at h
    obtain ⟨⟨⟨h1, h2⟩, h3⟩, h4⟩ := h
    refine ⟨by simpa using h1, fun e he hb => ?_, fun hk => ?_, fun hd => ?_, fun d hd => ?_⟩
    · have := Array.all_eq_true'.1 h2 e he
      rw [hb] at this
      simpa using this
    · rw [Bool.or_eq_true] at h3
      rcases h3 with h3 | h3
      · exact absurd (by simpa using h3) hk
      · obtain ⟨k, _, h5⟩ := List.any_eq_true.1 h3
        simp only [Bool.and_eq_true, decide_eq_true_eq] at h5
        obtain ⟨h6, h8⟩ := h5
        cases hok' : ops[k]? with
        | none => rw [hok'] at h8; cases h8
        | some ok =>
          rw [hok'] at h8
          obtain ⟨e, he, h9⟩ := Array.any_eq_true'.1 h8
          simp only [Bool.and_eq_true, beq_iff_eq] at h9
          exact ⟨k, ok, h6, hok', e, he, h9.1, h9.2⟩
    · rw [hd] at h4
      simpa using h4
    · rw [hd] at h4
      simp only [Bool.and_eq_true, decide_eq_true_eq] at h4
      refine ⟨h4.1.1, h4.1.2, fun j oj hj hne e => ?_⟩
      have := List.all_eq_true.1 h4.2 j (List.mem_range.2 (hsz hj))
      simp [hj, e, hne] at this
  -- all others have been met when the store's are
  have hcov : ∀ listed : Array Bool, (∀ i o, listed.getD i false = true → ops[i]? = some o → ∀ e ∈ o.after, Region.binds .any e = true → listed.getD e.on false = true) → (∀ e ∈ oq.after, Region.binds .any e = true → listed.getD e.on false = true) →
      ∀ n i o, ops.size - i ≤ n → ops[i]? = some o → i ≠ q → listed.getD i false = true := by
    intro listed hdc hlq n
    induction n with
    | zero => intro i o hn ho; have := hsz ho; omega
    | succ n ih =>
      intro i o hn ho hk
      obtain ⟨k, ok, hik, hok', e, he, hb, hon⟩ := (hat i o ho).2.2.1 hk
      rw [← hon]
      by_cases hkq : k = q
      · subst hkq
        rw [hoq] at hok'
        cases hok'
        exact hlq e he hb
      · exact hdc k ok (ih k ok (by have := hsz ho; omega) hok' hkq) hok' e he hb
  refine wp_region_any hm ?_
  refine wpAny_inv (P := P) (ops := ops) (Q := Q) (fun i o ho => (hat i o ho).2.1)
    (fun listed a w => Frm ops a0 a ∧ (∀ i o, listed.getD i false = true → ops[i]? = some o → ∀ e ∈ o.after, Region.binds .any e = true → listed.getD e.on false = true) ∧
      (listed.getD q false = false → ∃ m, I m w ∧ (∀ i, listed.getD i false = false → Z i m) ∧ ∀ i o d, listed.getD i false = true → ops[i]? = some o → o.dst = some d → V m i (a.tmps.getD d undef) w) ∧
      (listed.getD q false = true → R a w)) ?_ ?_ _ _ _ _ (by simp) ?_ ?_
  · rintro listed a w i hs ⟨hF, hdc, hpq, hRq⟩ hi
    obtain ⟨hun, o, ho, hdep⟩ := mem_ready.1 hi
    obtain ⟨hg, hb, hea, hdn, hd⟩ := hat i o ho
    have hil : i < listed.size := by rw [hs]; exact hsz ho
    have hun' : listed.getD i false = false := by simpa [hil] using hun
    have hset : ∀ j, (listed.setIfInBounds i true).getD j false = if j = i then true else listed.getD j false := by
      intro j
      by_cases hji : j = i
      · subst hji; simp [Array.getElem?_setIfInBounds, hil]
      · simp [Array.getElem?_setIfInBounds, Ne.symm hji, hji]
    have hdc' : ∀ j oj, (listed.setIfInBounds i true).getD j false = true → ops[j]? = some oj → ∀ e ∈ oj.after, Region.binds .any e = true → (listed.setIfInBounds i true).getD e.on false = true := by
      intro j oj hj hoj e he hbe
      rw [hset] at hj ⊢
      split
      · rfl
      · by_cases hji : j = i
        · subst hji
          rw [ho] at hoj
          cases hoj
          exact hdep e he hbe
        · rw [if_neg hji] at hj
          exact hdc j oj hj hoj e he hbe
    unfold wpOp
    simp only [ho]
    rw [if_pos (by simp [Region.wanted, hg])]
    refine .inl ?_
    by_cases hiq : i = q
    · subst hiq
      rw [hoq] at ho
      cases ho
      obtain ⟨m, hB, hZ, hL⟩ := hpq hun'
      refine Oper.wp_mono ?_ (hlast m a w hB hF ?_)
      · rintro a' w' ⟨rfl, hr⟩
        refine ⟨hF, hdc', fun h => ?_, fun _ => hr⟩
        rw [hset, if_pos rfl] at h
        cases h
      · intro j oj dj hoj hdj
        have hjq := ((hat j oj hoj).2.2.2.2 dj hdj).1
        exact hL j oj dj (hcov listed hdc hdep _ j oj (Nat.le_refl _) hoj hjq) hoj hdj
    · have hlq : listed.getD q false = false := by
        cases hc : listed.getD q false with
        | false => rfl
        | true =>
          have := hcov listed hdc (fun e he hbe => hdc q oq hc hoq e he hbe) _ i o (Nat.le_refl _) ho hiq
          rw [hun'] at this
          cases this
      obtain ⟨m, hB, hZ, hL⟩ := hpq hlq
      obtain ⟨d, hdd⟩ : ∃ d, o.dst = some d := by
        cases h : o.dst with
        | none => exact absurd (hdn h) hiq
        | some d => exact ⟨d, rfl⟩
      obtain ⟨_, hdlt, hdis⟩ := hd d hdd
      have H := HopsL.get hops (i := i) (o := o) (by simpa using ho) (by have := hsz ho; simp; omega)
      rw [Nat.zero_add] at H
      refine Oper.wp_mono ?_ (H m a w hB (hZ i hun') hF ?_)
      · rintro a' w' ⟨v, rfl, m', hv, hbw, hz⟩
        have hput : ∀ t, (a.put o.dst v).tmps.getD t undef = if t = d then v else a.tmps.getD t undef := by
          intro t
          rw [hdd]
          simp only [Act.put]
          have : d < a.tmps.size := by rw [hF.size]; exact hdlt
          by_cases htd : t = d
          · subst htd
            simp [Array.getElem?_setIfInBounds, this]
          · rw [if_neg htd]
            simp [Array.getElem?_setIfInBounds, Ne.symm htd]
        refine ⟨⟨?_, ?_, fun t ht => ?_⟩, hdc', fun _ => ⟨m', hI _ _ _ _ hB hbw, fun j hj => ?_, fun j oj dj hj hoj hdj => ?_⟩, fun h => by rw [hset, if_neg (Ne.symm hiq), hlq] at h; cases h⟩
        · rw [hdd]; simp only [Act.put, Array.size_setIfInBounds]; exact hF.size
        · rw [hdd]; exact hF.defers
        · rw [hput, if_neg (fun e => ht i o ho (by rw [hdd, e]))]
          exact hF.same t ht
        · rw [hset] at hj
          split at hj
          · cases hj
          · exact hz j (by assumption) (hZ j hj)
        · rw [hput]
          by_cases hji : j = i
          · subst hji
            rw [ho] at hoj
            cases hoj
            rw [hdd] at hdj
            cases hdj
            rw [if_pos rfl]
            exact hv
          · rw [if_neg (fun e => hdis j oj hoj hji (by rw [hdj, e]))]
            rw [hset, if_neg hji] at hj
            exact hV _ _ _ _ _ _ (hL j oj dj hj hoj hdj) hbw
      · intro j oj dj hj hoj hdj
        obtain ⟨e, he, h2⟩ := Array.any_eq_true'.1 hj
        simp only [Bool.and_eq_true, beq_iff_eq] at h2
        obtain ⟨h2, rfl⟩ := h2
        exact hL _ oj dj (hdep e he h2) hoj hdj
  · rintro listed a w ⟨hF, _, _, hR⟩ hall
    refine hdone a w hF (hR (hall q ?_))
    omega
  · unfold unl
    exact Nat.le_trans List.countP_le_length (by simp)
  · have hrep : ∀ j, (Array.replicate ops.size false).getD j false = false := by
      intro j
      rw [Array.getD_eq_getD_getElem?, Array.getElem?_replicate]
      split <;> rfl
    refine ⟨⟨rfl, rfl, fun _ _ => rfl⟩, fun i o hi => ?_, fun _ => ⟨m0, hI0, fun i _ => hZ0 i, fun i o d hi => ?_⟩, fun hi => ?_⟩
    · exact absurd (hi.symm.trans (hrep i)) (by decide)
    · exact absurd (hi.symm.trans (hrep i)) (by decide)
    · exact absurd (hi.symm.trans (hrep q)) (by decide)
theorem all_of {V : Nat → Value → World → Prop} {a : Act} {w : World} (h : ∀ i o d, ops[i]? = some o → o.dst = some d → V i (a.tmps.getD d undef) w) (j d : Nat) {oj : Oper} (hj : ops[j]? = some oj) (hd : oj.dst = some d) : V j (a.tmps[d]?.getD undef) w := by
  rw [← Array.getD_eq_getD_getElem?]
  exact h j oj d hj hd
end
/-- is slot t written -/
def writ (ops : Array Oper) (t : Nat) : Bool := ops.toList.any fun o => match o.dst with | some d => d == t | none => false
/-- the frame behind the region, written out -/
theorem Frm.act {ops : Array Oper} {a0 a : Act} (h : Frm ops a0 a) : a = ⟨((List.range a0.tmps.size).map fun j => bif writ ops j then a.tmps.getD j undef else a0.tmps.getD j undef).toArray, a0.defers⟩ := by
  obtain ⟨tm, df⟩ := a
  obtain ⟨h1, h2, h3⟩ := h
  simp only at h1 h2 h3
  subst h2
  congr 1
  apply Array.ext
  · simp [h1]
  · intro j hj1 hj2
    simp only [List.getElem_toArray, List.getElem_map, List.getElem_range]
    cases hw : writ ops j with
    | true => simp [hj1]
    | false =>
      have := h3 j (fun i o ho e => by
        have := List.any_eq_false.1 hw o (Array.mem_def.1 (Array.mem_of_getElem? ho))
        rw [e] at this
        simp at this)
      simp only [cond_false]
      rw [← this]
      simp [hj1]
end Go.Proofs.Ytpdigaankmgagaa
