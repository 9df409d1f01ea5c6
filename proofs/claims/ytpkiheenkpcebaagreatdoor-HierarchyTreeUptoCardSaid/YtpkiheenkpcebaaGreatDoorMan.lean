/- A region that draws its order and whose last operation is a store that waits for all others: shown by what each operation leaves. No condition. A region in any order, shown by what each operation leaves under a ghost that the operations move. No condition. hierarchy.copyTerm; slices.Clone of fields; copyDecl of a declaration with fields. No condition but bounded sizes. -/
import Derived.Test.YtpkiheenkpcebaaGreatDoorMac
import Derived.Test.YtpkiheenkpcebaaGreatDoorMam
import Derived.Test.YtpkiheenkpcebaaGreatDoorMai
import Derived.Test.YtpkiheenkpcebaaGreatDoorMag
set_option linter.unusedVariables false
set_option linter.unusedSimpArgs false
namespace Go.Proofs.YtpkiheenkpcebaaGreatDoor
open Go.RowKit

section
variable {P : Program} {ops : Array Oper} {Q : Exit → Act → World → Prop}
/-- all operations but the last one -/
def HopG {γ : Type} (P : Program) (ops : Array Oper) (Q : Exit → Act → World → Prop) (V : γ → Nat → Value → World → Prop) (I : γ → World → Prop) (T : γ → World → γ → World → Prop) (Z : Nat → γ → Prop) (a0 : Act) (i : Nat) (o : Oper) : Prop :=
  ∀ m a w, I m w → Z i m → Frm ops a0 a → Deps (V m) ops o a w → o.wp P a w (fun a' w' => ∃ v, a' = a.put o.dst v ∧ ∃ m', V m' i v w' ∧ T m w m' w' ∧ ∀ j, j ≠ i → Z j m → Z j m') Q
def HopsL {γ : Type} (P : Program) (ops : Array Oper) (Q : Exit → Act → World → Prop) (V : γ → Nat → Value → World → Prop) (I : γ → World → Prop) (T : γ → World → γ → World → Prop) (Z : Nat → γ → Prop) (a0 : Act) : Nat → List Oper → Prop
  | _, [] => True
  | _, [_] => True
  | i, o :: o' :: r => HopG P ops Q V I T Z a0 i o ∧ HopsL P ops Q V I T Z a0 (i + 1) (o' :: r)
theorem HopsL.get {γ : Type} {V : γ → Nat → Value → World → Prop} {I : γ → World → Prop} {T : γ → World → γ → World → Prop} {Z : Nat → γ → Prop} {a0 : Act} : ∀ {l : List Oper} {n : Nat}, HopsL P ops Q V I T Z a0 n l → ∀ {i : Nat} {o : Oper}, l[i]? = some o → i + 1 < l.length → HopG P ops Q V I T Z a0 (n + i) o := by
  intro l
  induction l with
  | nil => intro n _ i o h; cases h
  | cons x r ih =>
    intro n h i o hi hl
    cases r with
    | nil => simp at hl
    | cons x' r =>
      cases i with
      | zero => simp at hi; subst hi; exact h.1
      | succ i =>
        have := ih h.2 (i := i) (o := o) (by simpa using hi) (by simpa using hl)
        rwa [Nat.add_assoc, Nat.add_comm 1 i] at this
/-- the shape of the region: q the store -/
def okLast (ops : Array Oper) (n q : Nat) : Bool :=
  decide (q + 1 = ops.size) && (List.range ops.size).all fun i => match ops[i]? with
    | none => true
    | some o => o.guard.isNone && (o.after.all fun e => !Region.binds .any e || decide (e.on < i)) &&
      (i == q || (List.range ops.size).any fun k => decide (i < k) && (match ops[k]? with | some ok => ok.after.any (fun e => Region.binds .any e && e.on == i) | none => false)) &&
      (match o.dst with
        | none => i == q
        | some d => decide (i ≠ q) && decide (d < n) && (List.range ops.size).all fun j => j == i || (match ops[j]? with | some oj => oj.dst != some d | none => true))

theorem wp_region_last {γ : Type} {id : Nat} {a0 : Act} {w0 : World} (hm : P.follows .mixedOrders = true) (V : γ → Nat → Value → World → Prop) (I : γ → World → Prop) (T : γ → World → γ → World → Prop) (Z : Nat → γ → Prop) (R : Act → World → Prop) (m0 : γ) (q : Nat) (oq : Oper) (hoq : ops[q]? = some oq)
    (hI0 : I m0 w0.drew) (hZ0 : ∀ i, Z i m0) (hI : ∀ m w m' w', I m w → T m w m' w' → I m' w') (hV : ∀ m m' i v w w', V m i v w → T m w m' w' → V m' i v w') (hok : okLast ops a0.tmps.size q = true) (hops : HopsL P ops Q V I T Z a0 0 ops.toList)
    (hlast : ∀ m a w, I m w → Frm ops a0 a → (∀ i o d, ops[i]? = some o → o.dst = some d → V m i (a.tmps.getD d undef) w) → oq.wp P a w (fun a' w' => a' = a ∧ R a w') Q)
    (hdone : ∀ a w, Frm ops a0 a → R a w → Q .normal a w) : (Code.region id ops true).wp P Q a0 w0 := by
  unfold okLast at hok
  rw [Bool.and_eq_true, decide_eq_true_eq] at hok
  obtain ⟨hqs, hok⟩ := hok
  have hsz : ∀ {i : Nat} {o : Oper}, ops[i]? = some o → i < ops.size := by
    intro i o ho
    rcases Nat.lt_or_ge i ops.size with h | h
    · exact h
    · rw [Array.getElem?_eq_none h] at ho; cases ho
  have hat : ∀ i o, ops[i]? = some o → o.guard = none ∧ (∀ e ∈ o.after, Region.binds .any e = true → e.on < i) ∧
      (i ≠ q → ∃ k ok, i < k ∧ ops[k]? = some ok ∧ ∃ e ∈ ok.after, Region.binds .any e = true ∧ e.on = i) ∧
      (o.dst = none → i = q) ∧ (∀ d, o.dst = some d → i ≠ q ∧ d < a0.tmps.size ∧ ∀ j oj, ops[j]? = some oj → j ≠ i → oj.dst ≠ some d) := by
    intro i o ho
    have h := List.all_eq_true.1 hok i (List.mem_range.2 (hsz ho))
    simp only [ho, Bool.and_eq_true] at h
    obtain ⟨⟨⟨h1, h2⟩, h3⟩, h4⟩ := h
    refine ⟨by simpa using h1, fun e he hb => ?_, fun hk => ?_, fun hd => ?_, fun d hd => ?_⟩
    · have := Array.all_eq_true'.1 h2 e he
      rw [hb] at this
      simpa using this
    · rw [Bool.or_eq_true] at h3
      rcases h3 with h3 | h3
      · exact absurd (by simpa using h3) hk
      · obtain ⟨k, _, h5⟩ := List.any_eq_true.1 h3
        simp only [Bool.and_eq_true, decide_eq_true_eq] at h5
        obtain ⟨h6, h8⟩ := h5
        cases hok' : ops[k]? with
        | none => rw [hok'] at h8; cases h8
        | some ok =>
          rw [hok'] at h8
          obtain ⟨e, he, h9⟩ := Array.any_eq_true'.1 h8
          simp only [Bool.and_eq_true, beq_iff_eq] at h9
          exact ⟨k, ok, h6, hok', e, he, h9.1, h9.2⟩
    · rw [hd] at h4
      simpa using h4
    · rw [hd] at h4
      simp only [Bool.and_eq_true, decide_eq_true_eq] at h4
      refine ⟨h4.1.1, h4.1.2, fun j oj hj hne e => ?_⟩
      have := List.all_eq_true.1 h4.2 j (List.mem_range.2 (hsz hj))
      simp [hj, e, hne] at this
  -- all others have been met when the store's are
  have hcov : ∀ listed : Array Bool, (∀ i o, listed.getD i false = true → ops[i]? = some o → ∀ e ∈ o.after, Region.binds .any e = true → listed.getD e.on false = true) → (∀ e ∈ oq.after, Region.binds .any e = true → listed.getD e.on false = true) →
      ∀ n i o, ops.size - i ≤ n → ops[i]? = some o → i ≠ q → listed.getD i false = true := by
    intro listed hdc hlq n
    induction n with
    | zero => intro i o hn ho; have := hsz ho; omega
    | succ n ih =>
      intro i o hn ho hk
      obtain ⟨k, ok, hik, hok', e, he, hb, hon⟩ := (hat i o ho).2.2.1 hk
      rw [← hon]
      by_cases hkq : k = q
      · subst hkq
        rw [hoq] at hok'
        cases hok'
        exact hlq e he hb
      · exact hdc k ok (ih k ok (by have := hsz ho; omega) hok' hkq) hok' e he hb
  refine wp_region_any hm ?_
  refine wpAny_inv (P := P) (ops := ops) (Q := Q) (fun i o ho => (hat i o ho).2.1)
    (fun listed a w => Frm ops a0 a ∧ (∀ i o, listed.getD i false = true → ops[i]? = some o → ∀ e ∈ o.after, Region.binds .any e = true → listed.getD e.on false = true) ∧
      (listed.getD q false = false → ∃ m, I m w ∧ (∀ i, listed.getD i false = false → Z i m) ∧ ∀ i o d, listed.getD i false = true → ops[i]? = some o → o.dst = some d → V m i (a.tmps.getD d undef) w) ∧
      (listed.getD q false = true → R a w)) ?_ ?_ _ _ _ _ (by simp) ?_ ?_
  · rintro listed a w i hs ⟨hF, hdc, hpq, hRq⟩ hi
    obtain ⟨hun, o, ho, hdep⟩ := mem_ready.1 hi
    obtain ⟨hg, hb, hea, hdn, hd⟩ := hat i o ho
    have hil : i < listed.size := by rw [hs]; exact hsz ho
    have hun' : listed.getD i false = false := by simpa [hil] using hun
    have hset : ∀ j, (listed.setIfInBounds i true).getD j false = if j = i then true else listed.getD j false := by
      intro j
      by_cases hji : j = i
      · subst hji; simp [Array.getElem?_setIfInBounds, hil]
      · simp [Array.getElem?_setIfInBounds, Ne.symm hji, hji]
    have hdc' : ∀ j oj, (listed.setIfInBounds i true).getD j false = true → ops[j]? = some oj → ∀ e ∈ oj.after, Region.binds .any e = true → (listed.setIfInBounds i true).getD e.on false = true := by
      intro j oj hj hoj e he hbe
      rw [hset] at hj ⊢
      split
      · rfl
      · by_cases hji : j = i
        · subst hji
          rw [ho] at hoj
          cases hoj
          exact hdep e he hbe
        · rw [if_neg hji] at hj
          exact hdc j oj hj hoj e he hbe
    unfold wpOp
    simp only [ho]
    rw [if_pos (by simp [Region.wanted, hg])]
    refine .inl ?_
    by_cases hiq : i = q
    · subst hiq
      rw [hoq] at ho
      cases ho
      obtain ⟨m, hB, hZ, hL⟩ := hpq hun'
      refine Oper.wp_mono ?_ (hlast m a w hB hF ?_)
      · rintro a' w' ⟨rfl, hr⟩
        refine ⟨hF, hdc', fun h => ?_, fun _ => hr⟩
        rw [hset, if_pos rfl] at h
        cases h
      · intro j oj dj hoj hdj
        have hjq := ((hat j oj hoj).2.2.2.2 dj hdj).1
        exact hL j oj dj (hcov listed hdc hdep _ j oj (Nat.le_refl _) hoj hjq) hoj hdj
    · have hlq : listed.getD q false = false := by
        cases hc : listed.getD q false with
        | false => rfl
        | true =>
          have := hcov listed hdc (fun e he hbe => hdc q oq hc hoq e he hbe) _ i o (Nat.le_refl _) ho hiq
          rw [hun'] at this
          cases this
      obtain ⟨m, hB, hZ, hL⟩ := hpq hlq
      obtain ⟨d, hdd⟩ : ∃ d, o.dst = some d := by
        cases h : o.dst with
        | none => exact absurd (hdn h) hiq
        | some d => exact ⟨d, rfl⟩
      obtain ⟨_, hdlt, hdis⟩ := hd d hdd
      have H := HopsL.get hops (i := i) (o := o) (by simpa using ho) (by have := hsz ho; simp; omega)
      rw [Nat.zero_add] at H
      refine Oper.wp_mono ?_ (H m a w hB (hZ i hun') hF ?_)
      · rintro a' w' ⟨v, rfl, m', hv, hbw, hz⟩
        have hput : ∀ t, (a.put o.dst v).tmps.getD t undef = if t = d then v else a.tmps.getD t undef := by
          intro t
          rw [hdd]
          simp only [Act.put]
          have : d < a.tmps.size := by rw [hF.size]; exact hdlt
          by_cases htd : t = d
          · subst htd
            simp [Array.getElem?_setIfInBounds, this]
          · rw [if_neg htd]
            simp [Array.getElem?_setIfInBounds, Ne.symm htd]
        refine ⟨⟨?_, ?_, fun t ht => ?_⟩, hdc', fun _ => ⟨m', hI _ _ _ _ hB hbw, fun j hj => ?_, fun j oj dj hj hoj hdj => ?_⟩, fun h => by rw [hset, if_neg (Ne.symm hiq), hlq] at h; cases h⟩
        · rw [hdd]; simp only [Act.put, Array.size_setIfInBounds]; exact hF.size
        · rw [hdd]; exact hF.defers
        · rw [hput, if_neg (fun e => ht i o ho (by rw [hdd, e]))]
          exact hF.same t ht
        · rw [hset] at hj
          split at hj
          · cases hj
          · exact hz j (by assumption) (hZ j hj)
        · rw [hput]
          by_cases hji : j = i
          · subst hji
            rw [ho] at hoj
            cases hoj
            rw [hdd] at hdj
            cases hdj
            rw [if_pos rfl]
            exact hv
          · rw [if_neg (fun e => hdis j oj hoj hji (by rw [hdj, e]))]
            rw [hset, if_neg hji] at hj
            exact hV _ _ _ _ _ _ (hL j oj dj hj hoj hdj) hbw
      · intro j oj dj hj hoj hdj
        obtain ⟨e, he, h2⟩ := Array.any_eq_true'.1 hj
        simp only [Bool.and_eq_true, beq_iff_eq] at h2
        obtain ⟨h2, rfl⟩ := h2
        exact hL _ oj dj (hdep e he h2) hoj hdj
  · rintro listed a w ⟨hF, _, _, hR⟩ hall
    refine hdone a w hF (hR (hall q ?_))
    omega
  · unfold unl
    exact Nat.le_trans List.countP_le_length (by simp)
  · have hrep : ∀ j, (Array.replicate ops.size false).getD j false = false := by
      intro j
      rw [Array.getD_eq_getD_getElem?, Array.getElem?_replicate]
      split <;> rfl
    refine ⟨⟨rfl, rfl, fun _ _ => rfl⟩, fun i o hi => ?_, fun _ => ⟨m0, hI0, fun i _ => hZ0 i, fun i o d hi => ?_⟩, fun hi => ?_⟩
    · exact absurd (hi.symm.trans (hrep i)) (by decide)
    · exact absurd (hi.symm.trans (hrep i)) (by decide)
    · exact absurd (hi.symm.trans (hrep q)) (by decide)
theorem all_of {V : Nat → Value → World → Prop} {a : Act} {w : World} (h : ∀ i o d, ops[i]? = some o → o.dst = some d → V i (a.tmps.getD d undef) w) (j d : Nat) {oj : Oper} (hj : ops[j]? = some oj) (hd : oj.dst = some d) : V j (a.tmps[d]?.getD undef) w := by
  rw [← Array.getD_eq_getD_getElem?]
  exact h j oj d hj hd
end
/-- is slot t written -/
def writ (ops : Array Oper) (t : Nat) : Bool := ops.toList.any fun o => match o.dst with | some d => d == t | none => false
/-- the frame behind the region, written out -/
theorem Frm.act {ops : Array Oper} {a0 a : Act} (h : Frm ops a0 a) : a = ⟨((List.range a0.tmps.size).map fun j => bif writ ops j then a.tmps.getD j undef else a0.tmps.getD j undef).toArray, a0.defers⟩ := by
  obtain ⟨tm, df⟩ := a
  obtain ⟨h1, h2, h3⟩ := h
  simp only at h1 h2 h3
  subst h2
  congr 1
  apply Array.ext
  · simp [h1]
  · intro j hj1 hj2
    simp only [List.getElem_toArray, List.getElem_map, List.getElem_range]
    cases hw : writ ops j with
    | true => simp [hj1]
    | false =>
      have := h3 j (fun i o ho e => by
        have := List.any_eq_false.1 hw o (Array.mem_def.1 (Array.mem_of_getElem? ho))
        rw [e] at this
        simp at this)
      simp only [cond_false]
      rw [← this]
      simp [hj1]
end Go.Proofs.YtpkiheenkpcebaaGreatDoor
namespace Go.Proofs.YtpkiheenkpcebaaGreatDoor
open Go.RowKit

section
variable {P : Program} {ops : Array Oper} {Q : Exit → Act → World → Prop}
def HopsG {γ : Type} (P : Program) (ops : Array Oper) (Q : Exit → Act → World → Prop) (V : γ → Nat → Value → World → Prop) (I : γ → World → Prop) (T : γ → World → γ → World → Prop) (Z : Nat → γ → Prop) (a0 : Act) : Nat → List Oper → Prop
  | _, [] => True
  | i, o :: r => HopG P ops Q V I T Z a0 i o ∧ HopsG P ops Q V I T Z a0 (i + 1) r
theorem HopsG.get {γ : Type} {V : γ → Nat → Value → World → Prop} {I : γ → World → Prop} {T : γ → World → γ → World → Prop} {Z : Nat → γ → Prop} {a0 : Act} : ∀ {l : List Oper} {n : Nat}, HopsG P ops Q V I T Z a0 n l → ∀ {i : Nat} {o : Oper}, l[i]? = some o → HopG P ops Q V I T Z a0 (n + i) o := by
  intro l
  induction l with
  | nil => intro n _ i o h; cases h
  | cons x r ih =>
    intro n h i o hi
    cases i with
    | zero => simp at hi; subst hi; exact h.1
    | succ i =>
      have := ih h.2 (i := i) (o := o) (by simpa using hi)
      rwa [Nat.add_assoc, Nat.add_comm 1 i] at this
def okGhost (ops : Array Oper) (n : Nat) : Bool :=
  (List.range ops.size).all fun i => match ops[i]? with
    | none => true
    | some o => o.guard.isNone && (o.after.all fun e => !Region.binds .any e || decide (e.on < i)) && (match o.dst with
      | none => true
      | some d => decide (d < n) && (List.range ops.size).all fun j => j == i || (match ops[j]? with | some oj => oj.dst != some d | none => true))

theorem wp_region_ghost {γ : Type} {id : Nat} {a0 : Act} {w0 : World} (hm : P.follows .mixedOrders = true) (V : γ → Nat → Value → World → Prop) (I : γ → World → Prop) (T : γ → World → γ → World → Prop) (Z : Nat → γ → Prop) (m0 : γ)
    (hI0 : I m0 w0.drew) (hZ0 : ∀ i, Z i m0) (hI : ∀ m w m' w', I m w → T m w m' w' → I m' w') (hV : ∀ m m' i v w w', V m i v w → T m w m' w' → V m' i v w') (hok : okGhost ops a0.tmps.size = true) (hops : HopsG P ops Q V I T Z a0 0 ops.toList)
    (hdone : ∀ m a w, I m w → Frm ops a0 a → (∀ i o, ops[i]? = some o → o.dst = none → ∃ v, V m i v w) → (∀ i o d, ops[i]? = some o → o.dst = some d → V m i (a.tmps.getD d undef) w) → Q .normal a w) : (Code.region id ops true).wp P Q a0 w0 := by
  have hsz : ∀ {i : Nat} {o : Oper}, ops[i]? = some o → i < ops.size := by
    intro i o ho
    rcases Nat.lt_or_ge i ops.size with h | h
    · exact h
    · rw [Array.getElem?_eq_none h] at ho; cases ho
  have hat : ∀ i o, ops[i]? = some o → o.guard = none ∧ (∀ e ∈ o.after, Region.binds .any e = true → e.on < i) ∧ (∀ d, o.dst = some d → d < a0.tmps.size ∧ ∀ j oj, ops[j]? = some oj → j ≠ i → oj.dst ≠ some d) := by
    intro i o ho
    have h := List.all_eq_true.1 hok i (List.mem_range.2 (hsz ho))
    simp only [ho, Bool.and_eq_true] at h
    obtain ⟨⟨h1, h2⟩, h3⟩ := h
    refine ⟨by simpa using h1, fun e he hb => ?_, fun d hd => ?_⟩
    · have := Array.all_eq_true'.1 h2 e he
      rw [hb] at this
      simpa using this
    · rw [hd] at h3
      simp only [Bool.and_eq_true, decide_eq_true_eq] at h3
      refine ⟨h3.1, fun j oj hj hne e => ?_⟩
      have := List.all_eq_true.1 h3.2 j (List.mem_range.2 (hsz hj))
      simp [hj, e, hne] at this
  refine wp_region_any hm ?_
  refine wpAny_inv (P := P) (ops := ops) (Q := Q) (fun i o ho => (hat i o ho).2.1)
    (fun listed a w => Frm ops a0 a ∧ ∃ m, I m w ∧ (∀ i, listed.getD i false = false → Z i m) ∧ (∀ i o, listed.getD i false = true → ops[i]? = some o → o.dst = none → ∃ v, V m i v w) ∧ ∀ i o d, listed.getD i false = true → ops[i]? = some o → o.dst = some d → V m i (a.tmps.getD d undef) w) ?_ ?_ _ _ _ _ (by simp) ?_ ?_
  · rintro listed a w i hs ⟨hF, m, hB, hZ, hN, hL⟩ hi
    obtain ⟨hun, o, ho, hdep⟩ := mem_ready.1 hi
    obtain ⟨hg, hb, hd⟩ := hat i o ho
    have hil : i < listed.size := by rw [hs]; exact hsz ho
    have hun' : listed.getD i false = false := by simpa [hil] using hun
    have hset : ∀ j, (listed.setIfInBounds i true).getD j false = if j = i then true else listed.getD j false := by
      intro j
      by_cases hji : j = i
      · subst hji; simp [Array.getElem?_setIfInBounds, hil]
      · simp [Array.getElem?_setIfInBounds, Ne.symm hji, hji]
    unfold wpOp
    simp only [ho]
    rw [if_pos (by simp [Region.wanted, hg])]
    refine .inl ?_
    have H := HopsG.get hops (i := i) (o := o) (by simpa using ho)
    rw [Nat.zero_add] at H
    refine Oper.wp_mono ?_ (H m a w hB (hZ i hun') hF ?_)
    · rintro a' w' ⟨v, rfl, m', hv, hbw, hz⟩
      have hput : ∀ t, (a.put o.dst v).tmps.getD t undef = if o.dst = some t then v else a.tmps.getD t undef := by
        intro t
        cases hdd : o.dst with
        | none => simp [Act.put]
        | some d =>
          simp only [Act.put]
          have : d < a.tmps.size := by rw [hF.size]; exact (hd d hdd).1
          by_cases htd : t = d
          · subst htd
            simp [Array.getElem?_setIfInBounds, this]
          · rw [if_neg (fun e => htd (Option.some.inj e).symm)]
            simp [Array.getElem?_setIfInBounds, Ne.symm htd]
      refine ⟨⟨?_, ?_, fun t ht => ?_⟩, m', hI _ _ _ _ hB hbw, fun j hj => ?_, fun j oj hj hoj hdj => ?_, fun j oj dj hj hoj hdj => ?_⟩
      · cases hdd : o.dst with
        | none => exact hF.size
        | some d => simp only [Act.put, Array.size_setIfInBounds]; exact hF.size
      · cases hdd : o.dst with
        | none => exact hF.defers
        | some d => exact hF.defers
      · rw [hput, if_neg (ht i o ho)]
        exact hF.same t ht
      · rw [hset] at hj
        split at hj
        · cases hj
        · exact hz j (by assumption) (hZ j hj)
      · by_cases hji : j = i
        · subst hji
          exact ⟨v, hv⟩
        · rw [hset, if_neg hji] at hj
          obtain ⟨v2, h2⟩ := hN j oj hj hoj hdj
          exact ⟨v2, hV _ _ _ _ _ _ h2 hbw⟩
      · rw [hput]
        by_cases hji : j = i
        · subst hji
          rw [ho] at hoj
          cases hoj
          rw [if_pos hdj]
          exact hv
        · rw [if_neg (fun e => (hd dj e).2 j oj hoj hji hdj)]
          rw [hset, if_neg hji] at hj
          exact hV _ _ _ _ _ _ (hL j oj dj hj hoj hdj) hbw
    · intro j oj dj hj hoj hdj
      obtain ⟨e, he, h2⟩ := Array.any_eq_true'.1 hj
      simp only [Bool.and_eq_true, beq_iff_eq] at h2
      obtain ⟨h2, rfl⟩ := h2
      exact hL _ oj dj (hdep e he h2) hoj hdj
  · rintro listed a w ⟨hF, m, hB, _, hN, hL⟩ hall
    exact hdone m a w hB hF (fun i o ho hd => hN i o (hall i (hsz ho)) ho hd) fun i o d ho hd => hL i o d (hall i (hsz ho)) ho hd
  · unfold unl
    exact Nat.le_trans List.countP_le_length (by simp)
  · have hrep : ∀ j, (Array.replicate ops.size false).getD j false = false := by
      intro j
      rw [Array.getD_eq_getD_getElem?, Array.getElem?_replicate]
      split <;> rfl
    exact ⟨⟨rfl, rfl, fun _ _ => rfl⟩, m0, hI0, fun i _ => hZ0 i, fun i o hi => absurd (hi.symm.trans (hrep i)) (by decide), fun i o d hi => absurd (hi.symm.trans (hrep i)) (by decide)⟩
end
end Go.Proofs.YtpkiheenkpcebaaGreatDoor
namespace Go.Proofs.YtpkiheenkpcebaaGreatDoor.Sx
theorem repL_nil (f : Fo) : ∀ pk i b, repL (Gi .nil) shi pk i b f = f := by
  induction f with
  | nil => intros; rfl
  | cons k t kids o r ih1 ih2 =>
    intro pk i b
    rw [repL, ih1, ih2]
    cases freeB k o (aroundB pk i b) <;> simp [Gi, nthF, shi]
theorem rep1_nil (k : Int) (t : List UInt8) (o : Int) (kids : Fo) (b : Int) : rep1 (Gi .nil) shi k t o kids b = ⟨k, t, kids, o⟩ := by
  rw [rep1, repL_nil]
  cases freeB k o b <;> simp [Gi, nthF, shi]
end Go.Proofs.YtpkiheenkpcebaaGreatDoor.Sx
namespace Go.Proofs.YtpkiheenkpcebaaGreatDoor
open Go.RowKit Sx

theorem row8 {w : World} {g : Nat} {t : TypeId} {a b c d e f x y : Value} (h : w.heap[g]? = some (.cells #[a, b, c, d, e, f, x, y] t (0, 0))) :
    (w.cell? ⟨g, 0, none⟩ = some a ∧ w.cell? ⟨g, 1, none⟩ = some b ∧ w.cell? ⟨g, 2, none⟩ = some c ∧ w.cell? ⟨g, 3, none⟩ = some d ∧ w.cell? ⟨g, 4, none⟩ = some e ∧ w.cell? ⟨g, 5, none⟩ = some f ∧ w.cell? ⟨g, 6, none⟩ = some x ∧ w.cell? ⟨g, 7, none⟩ = some y) ∧
    (w.frozen? ⟨g, 0, none⟩ = false ∧ w.frozen? ⟨g, 1, none⟩ = false ∧ w.frozen? ⟨g, 2, none⟩ = false ∧ w.frozen? ⟨g, 3, none⟩ = false ∧ w.frozen? ⟨g, 4, none⟩ = false ∧ w.frozen? ⟨g, 5, none⟩ = false ∧ w.frozen? ⟨g, 6, none⟩ = false ∧ w.frozen? ⟨g, 7, none⟩ = false) :=
  ⟨⟨cell_of_row w g 0 _ _ _ h, cell_of_row w g 1 _ _ _ h, cell_of_row w g 2 _ _ _ h, cell_of_row w g 3 _ _ _ h, cell_of_row w g 4 _ _ _ h, cell_of_row w g 5 _ _ _ h, cell_of_row w g 6 _ _ _ h, cell_of_row w g 7 _ _ _ h⟩,
   by simp [World.frozen?, h], by simp [World.frozen?, h], by simp [World.frozen?, h], by simp [World.frozen?, h], by simp [World.frozen?, h], by simp [World.frozen?, h], by simp [World.frozen?, h], by simp [World.frozen?, h]⟩
/-- the super stored into a declaration's box -/
theorem s4at2 {w : World} {g : Nat} {t : TypeId} {a b c d e f x y : Value} (h : w.heap[g]? = some (.cells #[a, b, c, d, e, f, x, y] t (0, 0))) (p q r s : Value) :
    ((((w.setCell ⟨g, 2, none⟩ p).setCell ⟨g, 3, none⟩ q).setCell ⟨g, 4, none⟩ r).setCell ⟨g, 5, none⟩ s).heap[g]? = some (.cells #[a, b, p, q, r, s, x, y] t (0, 0)) := by
  have h0 := heap_set (i := 2) h p
  have h1 := heap_set (i := 3) h0 q
  have h2 := heap_set (i := 4) h1 r
  exact heap_set (i := 5) h2 s
theorem s4at2_far {w : World} {N x : Nat} (hx : x ≠ N) (a b c d : Value) :
    ((((w.setCell ⟨N, 2, none⟩ a).setCell ⟨N, 3, none⟩ b).setCell ⟨N, 4, none⟩ c).setCell ⟨N, 5, none⟩ d).heap[x]? = w.heap[x]? :=
  (heap_far (p := ⟨N, 5, none⟩) hx d).trans ((heap_far (p := ⟨N, 4, none⟩) hx c).trans ((heap_far (p := ⟨N, 3, none⟩) hx b).trans (heap_far (p := ⟨N, 2, none⟩) hx a)))
theorem s4at2_gb {w0 w : World} {b N : Nat} (h : w0.grownBy w (some b)) (hN : w0.heap.size ≤ N) (x y z u : Value) :
    w0.grownBy ((((w.setCell ⟨N, 2, none⟩ x).setCell ⟨N, 3, none⟩ y).setCell ⟨N, 4, none⟩ z).setCell ⟨N, 5, none⟩ u) (some b) := by
  refine gb_setCell ?_ (.inr hN) _
  refine gb_setCell ?_ (.inr hN) _
  refine gb_setCell ?_ (.inr hN) _
  exact gb_setCell h (.inr hN) _

set_option maxHeartbeats 2000000 in
set_option maxRecDepth 100000 in
theorem hcopy_any (V : Int) (k o : Int) (t : List UInt8) (kids : Fo) (A : Option Addr) (c : Nat) (w : World) (hV0 : 0 ≤ V) (hV1 : V ≤ 1152921504606846976) (hN : fsize kids ≤ 1099511627776) (hK : KT w kids A c) (hcl : closed1 k o kids V = true) :
    Calls Tryz.prog 68 #[.agg #[.int .i64 k, .string ⟨t.toArray⟩, .int .i64 o, .slice A kids.len c]] w (SbP w NS ⟨k, t, kids, o⟩) := by
  have f1 := bh_alloc (BH.refl w) (.cells #[.int .i64 k, .string ⟨t.toArray⟩, .int .i64 o, .slice A kids.len c] 34)
  have f2 := bh_alloc f1 (.cells #[.int .i64 0, .string ⟨#[]⟩, .int .i64 0, .slice none 0 0] 34)
  have e2 := heap_alloc_new (w.alloc (.cells #[.int .i64 k, .string ⟨t.toArray⟩, .int .i64 o, .slice A kids.len c] 34)) (.cells #[.int .i64 0, .string ⟨#[]⟩, .int .i64 0, .slice none 0 0] 34)
  rw [World.size_alloc] at e2
  have hR := instantiate_any V k o t kids A c .nil none 0 _ hV0 hV1 (by omega) (wid_of_size hN) (by decide) (hK.below f2) (kt0 _) hcl
  rw [rep1_nil] at hR
  have HC := Lib.hid hR
  have HE := Lib.hid e2
  have HF := Lib.hid f2
  clear f1 f2 e2 hR
  go_enter Tryz.func68, Tryz.ntmps68
  go_wp2_with (fail)
  refine HC.out.mono ?_
  rintro e w2 ⟨A2, c2, rfl, u1, u2⟩
  have HN2 := Lib.hid ((Below.block u2 (w.heap.size + 1) (by simp)).trans HE.out)
  have HFin := Lib.hid (SbP.box (x := ⟨k, t, kids, o⟩) (N := w.heap.size + 1) (S := NS) (w := w) (fun y hy => hy.elim) (by omega) (BH.trans HF.out u2) (u1.keep (S' := fun y => (NS y ∨ w.heap.size ≤ y) ∧ y ≠ w.heap.size + 1) (Nat.le_refl _) fun y hy _ => ⟨rfl, hy.elim (fun h => h.elim) fun h => ⟨.inr (by simp at h; omega), by simp at h; omega⟩⟩))
  clear u1 u2
  obtain ⟨b0, b1, b2, b3, y0, y1, y2, y3⟩ := row4 HN2.out
  go_wp2_with (fail)
  obtain ⟨m0, m1, m2, m3, _⟩ := row4 (s4 HN2.out (.int .i64 k) (.string ⟨t.toArray⟩) (.int .i64 o) (.slice A2 kids.len c2))
  exact bodyPost_ret (v := .agg #[.int .i64 k, .string ⟨t.toArray⟩, .int .i64 o, .slice A2 kids.len c2]) (by simp [results, Tryz.results68, go_sem, m0, m1, m2, m3]) rfl HFin.out

theorem s8 {w : World} {N : Nat} {ty : TypeId} {q0 q1 q2 q3 q4 q5 q6 q7 : Value} (h : w.heap[N]? = some (.cells #[q0, q1, q2, q3, q4, q5, q6, q7] ty (0, 0))) (a b c d e f x y : Value) :
    ((((((((w.setCell ⟨N, 0, none⟩ a).setCell ⟨N, 1, none⟩ b).setCell ⟨N, 2, none⟩ c).setCell ⟨N, 3, none⟩ d).setCell ⟨N, 4, none⟩ e).setCell ⟨N, 5, none⟩ f).setCell ⟨N, 6, none⟩ x).setCell ⟨N, 7, none⟩ y).heap[N]? = some (.cells #[a, b, c, d, e, f, x, y] ty (0, 0)) := by
  have h0 : (w.setCell ⟨N, 0, none⟩ a).heap[N]? = some (.cells #[a, q1, q2, q3, q4, q5, q6, q7] ty (0, 0)) := heap_set (i := 0) h a
  generalize w.setCell ⟨N, 0, none⟩ a = w0 at *
  have h1 : (w0.setCell ⟨N, 1, none⟩ b).heap[N]? = some (.cells #[a, b, q2, q3, q4, q5, q6, q7] ty (0, 0)) := heap_set (i := 1) h0 b
  generalize w0.setCell ⟨N, 1, none⟩ b = w1 at *
  have h2 : (w1.setCell ⟨N, 2, none⟩ c).heap[N]? = some (.cells #[a, b, c, q3, q4, q5, q6, q7] ty (0, 0)) := heap_set (i := 2) h1 c
  generalize w1.setCell ⟨N, 2, none⟩ c = w2 at *
  have h3 : (w2.setCell ⟨N, 3, none⟩ d).heap[N]? = some (.cells #[a, b, c, d, q4, q5, q6, q7] ty (0, 0)) := heap_set (i := 3) h2 d
  generalize w2.setCell ⟨N, 3, none⟩ d = w3 at *
  have h4 : (w3.setCell ⟨N, 4, none⟩ e).heap[N]? = some (.cells #[a, b, c, d, e, q5, q6, q7] ty (0, 0)) := heap_set (i := 4) h3 e
  generalize w3.setCell ⟨N, 4, none⟩ e = w4 at *
  have h5 : (w4.setCell ⟨N, 5, none⟩ f).heap[N]? = some (.cells #[a, b, c, d, e, f, q6, q7] ty (0, 0)) := heap_set (i := 5) h4 f
  generalize w4.setCell ⟨N, 5, none⟩ f = w5 at *
  have h6 : (w5.setCell ⟨N, 6, none⟩ x).heap[N]? = some (.cells #[a, b, c, d, e, f, x, q7] ty (0, 0)) := heap_set (i := 6) h5 x
  generalize w5.setCell ⟨N, 6, none⟩ x = w6 at *
  exact heap_set (i := 7) h6 y
theorem s8_far {w : World} {N i : Nat} (hx : i ≠ N) (a b c d e f x y : Value) :
    ((((((((w.setCell ⟨N, 0, none⟩ a).setCell ⟨N, 1, none⟩ b).setCell ⟨N, 2, none⟩ c).setCell ⟨N, 3, none⟩ d).setCell ⟨N, 4, none⟩ e).setCell ⟨N, 5, none⟩ f).setCell ⟨N, 6, none⟩ x).setCell ⟨N, 7, none⟩ y).heap[i]? = w.heap[i]? :=
  (heap_far (p := ⟨N, 7, none⟩) hx y).trans ((heap_far (p := ⟨N, 6, none⟩) hx x).trans ((heap_far (p := ⟨N, 5, none⟩) hx f).trans ((heap_far (p := ⟨N, 4, none⟩) hx e).trans ((heap_far (p := ⟨N, 3, none⟩) hx d).trans ((heap_far (p := ⟨N, 2, none⟩) hx c).trans ((heap_far (p := ⟨N, 1, none⟩) hx b).trans (heap_far (p := ⟨N, 0, none⟩) hx a)))))))
theorem s8_gb {w0 w : World} {g N : Nat} (h : w0.grownBy w (some g)) (hN : w0.heap.size ≤ N) (a b c d e f x y : Value) :
    w0.grownBy ((((((((w.setCell ⟨N, 0, none⟩ a).setCell ⟨N, 1, none⟩ b).setCell ⟨N, 2, none⟩ c).setCell ⟨N, 3, none⟩ d).setCell ⟨N, 4, none⟩ e).setCell ⟨N, 5, none⟩ f).setCell ⟨N, 6, none⟩ x).setCell ⟨N, 7, none⟩ y) (some g) := by
  refine gb_setCell ?_ (.inr hN) _
  refine gb_setCell ?_ (.inr hN) _
  refine gb_setCell ?_ (.inr hN) _
  refine gb_setCell ?_ (.inr hN) _
  refine gb_setCell ?_ (.inr hN) _
  refine gb_setCell ?_ (.inr hN) _
  refine gb_setCell ?_ (.inr hN) _
  exact gb_setCell h (.inr hN) _

theorem own_set1 {w : World} {base : Nat} {e : TypeId} {size g n c : Nat} {xs : List Value} (h : w.ownsRow base e size (.slice (some ⟨g, 0, none⟩) n c) n xs) (j : Nat) (u : Value) : (w.setCell ⟨g, j, none⟩ u).ownsRow base e size (.slice (some ⟨g, 0, none⟩) n c) n (xs.set j u) := by
  obtain ⟨h1, h2⟩ := h
  refine ⟨by rw [List.length_set]; exact h1, ?_⟩
  rcases h2 with ⟨h2, _⟩ | ⟨g', cap, cur, e1, q1, q2, q3, q4, q5, q6⟩
  · cases h2
  · cases e1
    refine .inr ⟨g, c, cur.setIfInBounds j u, rfl, q1, heap_set q2 u, q3, q4, by simpa using q5, ?_⟩
    rw [Array.toList_setIfInBounds, List.take_set, q6]
theorem own_set4 {w : World} {base : Nat} {e : TypeId} {size g n c m : Nat} {us zs : List Value} {s0 s1 s2 s3 s4 : Value} (h : w.ownsRow base e size (.slice (some ⟨g, 0, none⟩) n c) n (us ++ (s0 :: s1 :: s2 :: s3 :: s4 :: zs))) (hm : us.length = m) (p q r s : Value) :
    ((((w.setCell ⟨g, m + 1, none⟩ p).setCell ⟨g, m + 2, none⟩ q).setCell ⟨g, m + 3, none⟩ r).setCell ⟨g, m + 4, none⟩ s).ownsRow base e size (.slice (some ⟨g, 0, none⟩) n c) n (us ++ (s0 :: p :: q :: r :: s :: zs)) := by
  have h1 := own_set1 (own_set1 (own_set1 (own_set1 h (m + 1) p) (m + 2) q) (m + 3) r) (m + 4) s
  have e : ((((us ++ (s0 :: s1 :: s2 :: s3 :: s4 :: zs)).set (m + 1) p).set (m + 2) q).set (m + 3) r).set (m + 4) s = us ++ (s0 :: p :: q :: r :: s :: zs) := by
    subst hm
    simp [List.set_append]
  rw [e] at h1
  exact h1
theorem set4_far {w : World} {g m x : Nat} (hx : x ≠ g) (p q r s : Value) : ((((w.setCell ⟨g, m + 1, none⟩ p).setCell ⟨g, m + 2, none⟩ q).setCell ⟨g, m + 3, none⟩ r).setCell ⟨g, m + 4, none⟩ s).heap[x]? = w.heap[x]? :=
  (heap_far (p := ⟨g, m + 4, none⟩) hx s).trans ((heap_far (p := ⟨g, m + 3, none⟩) hx r).trans ((heap_far (p := ⟨g, m + 2, none⟩) hx q).trans (heap_far (p := ⟨g, m + 1, none⟩) hx p)))
theorem set4_gb {w0 w : World} {b N m : Nat} (h : w0.grownBy w (some b)) (hN : w0.heap.size ≤ N) (p q r s : Value) : w0.grownBy ((((w.setCell ⟨N, m + 1, none⟩ p).setCell ⟨N, m + 2, none⟩ q).setCell ⟨N, m + 3, none⟩ r).setCell ⟨N, m + 4, none⟩ s) (some b) := by
  refine gb_setCell ?_ (.inr hN) _
  refine gb_setCell ?_ (.inr hN) _
  refine gb_setCell ?_ (.inr hN) _
  exact gb_setCell h (.inr hN) _

theorem infoField : (Tryz.prog.info? 40).map (fun i => (i.zero, i.size, i.bytes)) = some (some (.agg #[.string ⟨#[]⟩, .int .i64 0, .string ⟨#[]⟩, .int .i64 0, .slice none 0 0]), 5, 72) := by kernel_rfl

/-- at the operation of a plain region -/
theorem wpList_rea {P : Program} {w : World} {ops : Array Oper} {rest : List Oper} {o : Oper} {a : Act} {Q : Exit → Act → World → Prop} (hgd : o.guard = none) (s x : Operand) (t : TypeId)
    (ho : o.op = .call { callee := .builtin .append, args := #[s, x], argTypes := #[t, t] })
    (base : Nat) (e : TypeId) (i : TypeInfo) (z : Value) (size bytes : Nat) (ht : P.underlying t = some (.slice e)) (hi : P.info? e = some i) (hz : i.zero = some z)
    (hsize : i.size = size) (hby : i.bytes = bytes) (hzs : z.cells.size = size) (hsz : 0 < size) (v : Value) (n : Nat) (xs : List Value) (hs : a.eval s = v) (hown : w.ownsRow base e size v n xs)
    (A : Option Addr) (m c : Nat) (news : List Value) (hx : a.eval x = .slice A m c) (hr : Rea w size A m news) (h63 : n + m ≤ maxLen) (hbytes : (n + m) * bytes ≤ 140737488355328) (hbase : base ≤ w.heap.size)
    (h : ∀ v' w', w'.ownsRow base e size v' (n + m) (xs ++ news) → w.grownBy w' v.ownBlock → (v'.ownBlock = v.ownBlock ∨ v'.ownBlock = some w.heap.size) → wpList P ops Q rest (a.put o.dst v') w') : wpList P ops Q (o :: rest) a w :=
  wpList_plain hgd fun K hK => by
    have h2 := step_rea (P := P) (w := w) (ops := ops) (K := K) (Q := Q) (E := True) hgd s x t ho base e i z size bytes ht hi hz hsize hby hzs hsz v n xs hs hown A m c news hx hr h63 hbytes hbase fun v' w' h2 h3 h4 => hK _ _ (h v' w' h2 h3 h4)
    rw [if_pos (by simp [Region.wanted, hgd])] at h2
    exact h2

set_option maxHeartbeats 2000000 in
set_option maxRecDepth 100000 in
theorem cloneF (F : Option Addr) (n x : Nat) (ys : List Value) (w : World) (hn : n ≤ 1048576) (hr : Rea w 5 F n ys) :
    Calls Tryz.prog 78 #[.slice F n x] w fun e w' => ∃ F2 x2, e = .returned (.slice F2 n x2) ∧ w'.ownsRow w.heap.size 40 5 (.slice F2 n x2) n ys ∧ BH w w' := by
  obtain ⟨i0, hi, hz0, hz1, hz2⟩ := info_parts infoField
  have q := fun (w : World) (a : Option Addr) (n c n' c' : Nat) => Lib.run_eql_slice_nil (P := Tryz.prog) w 35 _ a n c n' c' Tryz.underlying35
  have HR := Lib.hid hr
  cases F with
  | none =>
    have h0 : n = 0 := by
      rcases Nat.eq_zero_or_pos n with h | h
      · exact h
      · obtain ⟨_, _, e, _⟩ := hr.2.2 h; cases e
    subst h0
    have hy : ys = [] := List.eq_nil_of_length_eq_zero (by simpa using hr.1)
    subst hy
    clear hr
    go_enter Tryz.func78, Tryz.ntmps78
    go_wp2_with (fail)
    go_ret
    exact ⟨none, 0, rfl, World.ownsRow_nil _ _ _ _, BH.refl _⟩
  | some ad =>
    clear hr
    go_enter Tryz.func78, Tryz.ntmps78
    go_wp2_with (at_builtin; go_loud (refine wpList_rea (by rfl) _ _ _ (by rfl) w.heap.size 40 i0 _ 5 72 Tryz.underlying35 hi hz0 hz1 hz2 rfl (by decide) (.slice (some ⟨w.heap.size, 0, none⟩) 0 0) 0 [] (by rfl) (own0 (heap_alloc_new w _) (Nat.le_refl _)) (some ad) n x ys (by rfl) (HR.out.bh (bh_alloc (BH.refl w) _)) (by unfold maxLen; omega) (by omega) (by simp) ?_))
    intro v1 w3 ho1 hg1 ha1
    obtain ⟨A3, c3, rfl, hc3⟩ := own_shape ho1
    have HO := Lib.hid ho1
    have HB := Lib.hid (bh_own (bh_alloc (BH.refl w) _) hg1 (fun q hq => by cases hq; exact Nat.le_refl _))
    clear ho1 hg1 ha1 hc3
    go_wp2_with (fail)
    go_ret
    exact ⟨A3, c3, rfl, by simpa using HO.out, HB.out⟩
end Go.Proofs.YtpkiheenkpcebaaGreatDoor
