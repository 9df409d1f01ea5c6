/- A region that draws its order, shown by what each operation leaves: whatever the order, each operation is met once, with what those before it have left. No condition. -/
import Derived.Test.YtpdigaankmgagaaApp
import Derived.Orders
set_option linter.unusedVariables false
set_option linter.unusedSimpArgs false
namespace Go.Proofs.Ytpdigaankmgagaa
open Go.RowKit

section
variable {P : Program} {ops : Array Oper} {Q : Exit → Act → World → Prop}

def unl (n : Nat) (listed : Array Bool) : Nat := (List.range n).countP fun i => !listed.getD i true
theorem countP_less {p q : Nat → Bool} {l : List Nat} {i : Nat} (hnd : l.Nodup) (hi : i ∈ l) (hp : p i = true) (hq : q i = false) (hs : ∀ j, j ≠ i → q j = p j) : l.countP q + 1 = l.countP p := by
  induction l with
  | nil => cases hi
  | cons x r ih =>
    obtain ⟨h1, h2⟩ := List.nodup_cons.1 hnd
    by_cases hx : x = i
    · subst hx
      have e : r.countP q = r.countP p := List.countP_congr fun j hj => by rw [hs j (fun e => h1 (e ▸ hj))]
      rw [List.countP_cons, List.countP_cons, hp, hq, e]
      simp
    · have hi' : i ∈ r := by
        rcases List.mem_cons.1 hi with e | h
        · exact absurd e.symm hx
        · exact h
      have := ih h2 hi'
      rw [List.countP_cons, List.countP_cons, hs x hx]
      omega
theorem unl_set {n i : Nat} {listed : Array Bool} (hs : listed.size = n) (hi : listed.getD i true = false) : unl n (listed.setIfInBounds i true) + 1 = unl n listed := by
  have hlt : i < listed.size := by
    rcases Nat.lt_or_ge i listed.size with h | h
    · exact h
    · simp [Array.getElem?_eq_none h] at hi
  have hin : i < n := by omega
  refine countP_less (i := i) List.nodup_range (List.mem_range.2 hin) (by simp only [hi]; rfl) ?_ (fun j hj => ?_)
  · simp [Array.getElem?_setIfInBounds, hlt]
  · simp [Array.getElem?_setIfInBounds, Ne.symm hj]

theorem all_of_unl {n : Nat} {listed : Array Bool} (hs : listed.size = n) (h : unl n listed = 0) : ∀ i, i < n → listed.getD i false = true := by
  intro i hi
  have := List.countP_eq_zero.1 h i (List.mem_range.2 hi)
  have hlt : i < listed.size := by omega
  simpa [hlt] using this
theorem all_of_ready (hback : ∀ i o, ops[i]? = some o → ∀ e ∈ o.after, Region.binds .any e = true → e.on < i) {listed : Array Bool} (hs : listed.size = ops.size) (hr : Region.ready .any ops listed = []) :
    ∀ i, i < ops.size → listed.getD i false = true := by
  intro i
  induction i using Nat.strongRecOn with
  | ind i ih =>
    intro hi
    cases hc : listed.getD i false with
    | true => rfl
    | false =>
      exfalso
      have hlt : i < listed.size := by omega
      have hf : listed.getD i true = false := by simpa [hlt] using hc
      have : i ∈ Region.ready .any ops listed := mem_ready.2 ⟨hf, ops[i], by simp [hi], fun e he hb => ih e.on (hback i _ (by simp [hi]) e he hb) (Nat.lt_trans (hback i _ (by simp [hi]) e he hb) hi)⟩
      rw [hr] at this
      cases this

/-- the region by an invariant of what has been met -/
theorem wpAny_inv (hback : ∀ i o, ops[i]? = some o → ∀ e ∈ o.after, Region.binds .any e = true → e.on < i) (I : Array Bool → Act → World → Prop)
    (hstep : ∀ listed a w i, listed.size = ops.size → I listed a w → i ∈ Region.ready .any ops listed → wpOp P ops Q i (fun a' w' => I (listed.setIfInBounds i true) a' w') a w)
    (hdone : ∀ listed a w, I listed a w → (∀ i, i < ops.size → listed.getD i false = true) → Q .normal a w) :
    ∀ fuel (listed : Array Bool) a w, listed.size = ops.size → unl ops.size listed ≤ fuel → I listed a w → wpAny P .any ops Q fuel listed a w := by
  intro fuel
  induction fuel with
  | zero =>
    intro listed a w hs hu h
    have hall := all_of_unl hs (by omega)
    refine ⟨?_, hdone _ _ _ h hall⟩
    cases hr : Region.ready .any ops listed with
    | nil => rfl
    | cons x r =>
      have hx : x ∈ Region.ready .any ops listed := by rw [hr]; exact List.mem_cons_self
      obtain ⟨h1, o, ho, _⟩ := mem_ready.1 hx
      have hlt : x < ops.size := by
        rcases Nat.lt_or_ge x ops.size with h | h
        · exact h
        · rw [Array.getElem?_eq_none h] at ho; cases ho
      have h2 := hall x hlt
      have : x < listed.size := by omega
      simp [this] at h1 h2
      rw [h1] at h2
      cases h2
  | succ fuel ih =>
    intro listed a w hs hu h
    refine ⟨fun hr => hdone _ _ _ h (all_of_ready hback hs hr), fun i hi => ?_⟩
    have hun := unl_set (n := ops.size) hs (mem_ready.1 hi).1
    exact wpOp_mono (fun a' w' h' => ih _ a' w' (by simpa using hs) (by omega) h') (hstep listed a w i hs h hi)

/-- what stands in the frame ahead of the region and is not written in it -/
structure Frm (ops : Array Oper) (a0 a : Act) : Prop where
  size : a.tmps.size = a0.tmps.size
  defers : a.defers = a0.defers
  same : ∀ t, (∀ (i : Nat) (o : Oper), ops[i]? = some o → o.dst ≠ some t) → a.tmps.getD t undef = a0.tmps.getD t undef
/-- what the operations ahead of o have left -/
def Deps (V : Nat → Value → World → Prop) (ops : Array Oper) (o : Oper) (a : Act) (w : World) : Prop :=
  ∀ j oj d, (o.after.any fun e => Region.binds .any e && e.on == j) = true → ops[j]? = some oj → oj.dst = some d → V j (a.tmps.getD d undef) w
/-- what an operation is to leave -/
def Hop (P : Program) (ops : Array Oper) (Q : Exit → Act → World → Prop) (V : Nat → Value → World → Prop) (a0 : Act) (w0 : World) (i : Nat) (o : Oper) : Prop :=
  ∀ a w, BH w0 w → Frm ops a0 a → Deps V ops o a w → o.wp P a w (fun a' w' => ∃ v, a' = a.put o.dst v ∧ V i v w' ∧ BH w w') Q
def Hops (P : Program) (ops : Array Oper) (Q : Exit → Act → World → Prop) (V : Nat → Value → World → Prop) (a0 : Act) (w0 : World) : Nat → List Oper → Prop
  | _, [] => True
  | i, o :: r => Hop P ops Q V a0 w0 i o ∧ Hops P ops Q V a0 w0 (i + 1) r
theorem Hops.get {V : Nat → Value → World → Prop} {a0 : Act} {w0 : World} : ∀ {l : List Oper} {n : Nat}, Hops P ops Q V a0 w0 n l → ∀ {i : Nat} {o : Oper}, l[i]? = some o → Hop P ops Q V a0 w0 (n + i) o := by
  intro l
  induction l with
  | nil => intro n _ i o h; cases h
  | cons x r ih =>
    intro n h i o hi
    cases i with
    | zero => simp at hi; subst hi; exact h.1
    | succ i =>
      have := ih h.2 (i := i) (o := o) (by simpa using hi)
      rwa [Nat.add_assoc, Nat.add_comm 1 i] at this

def okOps (ops : Array Oper) (n : Nat) : Bool :=
  (List.range ops.size).all fun i => match ops[i]? with
    | none => true
    | some o => o.guard.isNone && (o.after.all fun e => !Region.binds .any e || decide (e.on < i)) && (match o.dst with
      | none => false
      | some d => decide (d < n) && (List.range ops.size).all fun j => j == i || (match ops[j]? with | some oj => oj.dst != some d | none => true))

theorem wp_region_facts {id : Nat} {a0 : Act} {w0 : World} (hm : P.follows .mixedOrders = true) (V : Nat → Value → World → Prop) (hV : ∀ i v w w', V i v w → BH w w' → V i v w')
    (hok : okOps ops a0.tmps.size = true) (hops : Hops P ops Q V a0 w0 0 ops.toList)
    (hdone : ∀ a w, BH w0 w → Frm ops a0 a → (∀ i o d, ops[i]? = some o → o.dst = some d → V i (a.tmps.getD d undef) w) → Q .normal a w) : (Code.region id ops true).wp P Q a0 w0 := by
  have hok' : ∀ i o, ops[i]? = some o → o.guard = none ∧ (∀ e ∈ o.after, Region.binds .any e = true → e.on < i) ∧ ∃ d, o.dst = some d ∧ d < a0.tmps.size ∧ ∀ j oj, ops[j]? = some oj → j ≠ i → oj.dst ≠ some d := by
    intro i o ho
    have hlt : i < ops.size := by
      rcases Nat.lt_or_ge i ops.size with h | h
      · exact h
      · rw [Array.getElem?_eq_none h] at ho; cases ho
    have h := List.all_eq_true.1 hok i (List.mem_range.2 hlt)
    simp only [ho] at h
    rw [Bool.and_eq_true, Bool.and_eq_true] at h
    obtain ⟨⟨h1, h2⟩, h3⟩ := h
    refine ⟨by simpa using h1, fun e he hb => ?_, ?_⟩
    · have := Array.all_eq_true'.1 h2 e he
      rw [hb] at this
      simpa using this
    · cases hd : o.dst with
      | none => rw [hd] at h3; cases h3
      | some d =>
        rw [hd] at h3
        simp only [Bool.and_eq_true, decide_eq_true_eq] at h3
        refine ⟨d, rfl, h3.1, fun j oj hj hne e => ?_⟩
        have hjl : j < ops.size := by
          rcases Nat.lt_or_ge j ops.size with h | h
          · exact h
          · rw [Array.getElem?_eq_none h] at hj; cases hj
        have := List.all_eq_true.1 h3.2 j (List.mem_range.2 hjl)
        simp [hj, e, hne] at this
  refine wp_region_any hm ?_
  refine wpAny_inv (P := P) (ops := ops) (Q := Q) (fun i o ho => (hok' i o ho).2.1) (fun listed a w => BH w0 w ∧ Frm ops a0 a ∧ ∀ i o d, listed.getD i false = true → ops[i]? = some o → o.dst = some d → V i (a.tmps.getD d undef) w) ?_ ?_ _ _ _ _ (by simp) ?_ ⟨BH.drew w0, ⟨rfl, rfl, fun _ _ => rfl⟩, ?_⟩
  · rintro listed a w i hs ⟨hB, hF, hL⟩ hi
    obtain ⟨hun, o, ho, hdep⟩ := mem_ready.1 hi
    obtain ⟨hg, hb, d, hd, hdlt, hdis⟩ := hok' i o ho
    have H := Hops.get hops (i := i) (o := o) (by simpa using ho)
    rw [Nat.zero_add] at H
    unfold wpOp
    simp only [ho]
    rw [if_pos (by simp [Region.wanted, hg])]
    refine .inl (Oper.wp_mono ?_ (H a w hB hF ?_))
    · rintro a' w' ⟨v, rfl, hv, hbw⟩
      have hput : ∀ t, (a.put o.dst v).tmps.getD t undef = if t = d then v else a.tmps.getD t undef := by
        intro t
        rw [hd]
        simp only [Act.put]
        have : d < a.tmps.size := by rw [hF.size]; exact hdlt
        by_cases htd : t = d
        · subst htd
          simp [Array.getElem?_setIfInBounds, this]
        · rw [if_neg htd]
          simp [Array.getElem?_setIfInBounds, Ne.symm htd]
      refine ⟨BH.trans hB hbw, ⟨?_, ?_, fun t ht => ?_⟩, fun j oj dj hj hoj hdj => ?_⟩
      · rw [hd]; simp only [Act.put, Array.size_setIfInBounds]; exact hF.size
      · rw [hd]; exact hF.defers
      · rw [hput, if_neg (fun e => ht i o ho (by rw [hd, e]))]
        exact hF.same t ht
      · rw [hput]
        by_cases hji : j = i
        · subst hji
          rw [ho] at hoj
          cases hoj
          rw [hd] at hdj
          cases hdj
          rw [if_pos rfl]
          exact hv
        · rw [if_neg (fun e => hdis j oj hoj hji (by rw [hdj, e]))]
          refine hV _ _ _ _ (hL j oj dj ?_ hoj hdj) hbw
          simpa [Array.getElem?_setIfInBounds, Ne.symm hji] using hj
    · intro j oj dj hj hoj hdj
      obtain ⟨e, he, h2⟩ := Array.any_eq_true'.1 hj
      simp only [Bool.and_eq_true, beq_iff_eq] at h2
      obtain ⟨h2, rfl⟩ := h2
      exact hL _ oj dj (hdep e he h2) hoj hdj
  · rintro listed a w ⟨hB, hF, hL⟩ hall
    refine hdone a w hB hF fun i o d ho hd => hL i o d (hall i ?_) ho hd
    rcases Nat.lt_or_ge i ops.size with h | h
    · exact h
    · rw [Array.getElem?_eq_none h] at ho; cases ho
  · unfold unl
    exact Nat.le_trans List.countP_le_length (by simp)
  · intro i o d hi
    simp [Array.getElem?_replicate] at hi
    split at hi <;> simp_all
end
theorem same_of {ops : Array Oper} {a0 a : Act} (h : Frm ops a0 a) (t : Nat) (hb : (ops.all fun o => o.dst != some t) = true) : a.tmps[t]?.getD undef = a0.tmps.getD t undef := by
  rw [← Array.getD_eq_getD_getElem?]
  refine h.same t fun i o ho e => ?_
  have := Array.all_eq_true'.1 hb o (Array.mem_of_getElem? ho)
  rw [e] at this
  simp at this
theorem dep_of {V : Nat → Value → World → Prop} {ops : Array Oper} {o : Oper} {a : Act} {w : World} (h : Deps V ops o a w) (j d : Nat) {oj : Oper} (hb : (o.after.any fun e => Region.binds .any e && e.on == j) = true) (hj : ops[j]? = some oj) (hd : oj.dst = some d) : V j (a.tmps[d]?.getD undef) w := by
  rw [← Array.getD_eq_getD_getElem?]
  exact h j oj d hb hj hd
end Go.Proofs.Ytpdigaankmgagaa
