/- A region in any order with guarded operations, shown by what each operation leaves under a ghost that the operations move. No condition. HierarchyDeclare: what the operations of its two drawn regions leave; bounded sizes. No condition. -/
import Derived.Test.YtpkiheenkpcebaaGreatDoorMbd
import Derived.Test.YtpkiheenkpcebaaGreatDoorMan
import Derived.Test.YtpkiheenkpcebaaGreatDoorMbi
import Derived.Test.YtpkiheenkpcebaaGreatDoorMbj
import Derived.Test.YtpkiheenkpcebaaGreatDoorMbq
set_option linter.unusedVariables false
set_option linter.unusedSimpArgs false
namespace Go.Proofs.YtpkiheenkpcebaaGreatDoor
open Go.RowKit Sx

section
variable {P : Program} {ops : Array Oper} {Q : Exit → Act → World → Prop}
/-- what an operation is to leave, where it is wanted; else that what stands in its place will do -/
def HopQ {γ : Type} (P : Program) (ops : Array Oper) (Q : Exit → Act → World → Prop) (V : γ → Nat → Value → World → Prop) (I : γ → World → Prop) (T : γ → World → γ → World → Prop) (Z : Nat → γ → Prop) (want : Nat → Bool) (a0 : Act) (i : Nat) (o : Oper) : Prop :=
  (match o.guard with | none => want i = true | some (j, b) => ∀ m v w, V m j v w → isB v b = want i) ∧ (bif want i then HopG P ops Q V I T Z a0 i o else ∀ m w, V m i undef w)
def HopsQ {γ : Type} (P : Program) (ops : Array Oper) (Q : Exit → Act → World → Prop) (V : γ → Nat → Value → World → Prop) (I : γ → World → Prop) (T : γ → World → γ → World → Prop) (Z : Nat → γ → Prop) (want : Nat → Bool) (a0 : Act) : Nat → List Oper → Prop
  | _, [] => True
  | i, o :: r => HopQ P ops Q V I T Z want a0 i o ∧ HopsQ P ops Q V I T Z want a0 (i + 1) r
theorem HopsQ.get {γ : Type} {V : γ → Nat → Value → World → Prop} {I : γ → World → Prop} {T : γ → World → γ → World → Prop} {Z : Nat → γ → Prop} {want : Nat → Bool} {a0 : Act} : ∀ {l : List Oper} {n : Nat}, HopsQ P ops Q V I T Z want a0 n l → ∀ {i : Nat} {o : Oper}, l[i]? = some o → HopQ P ops Q V I T Z want a0 (n + i) o := by
  intro l
  induction l with
  | nil => intro n _ i o h; cases h
  | cons x r ih =>
    intro n h i o hi
    cases i with
    | zero => simp at hi; subst hi; exact h.1
    | succ i =>
      have := ih h.2 (i := i) (o := o) (by simpa using hi)
      rwa [Nat.add_assoc, Nat.add_comm 1 i] at this
def okGq (ops : Array Oper) (n : Nat) : Bool :=
  (List.range ops.size).all fun i => match ops[i]? with
    | none => true
    | some o => (match o.guard with | none => true | some (j, _) => (o.after.any fun e => Region.binds .any e && e.on == j) && (match ops[j]? with | some oj => oj.dst.isSome | none => false)) && (o.after.all fun e => !Region.binds .any e || decide (e.on < i)) && (match o.dst with
      | none => o.guard.isNone
      | some d => decide (d < n) && (List.range ops.size).all fun j => j == i || (match ops[j]? with | some oj => oj.dst != some d | none => true))

theorem wp_region_gg {γ : Type} {id : Nat} {a0 : Act} {w0 : World} (hm : P.follows .mixedOrders = true) (V : γ → Nat → Value → World → Prop) (I : γ → World → Prop) (T : γ → World → γ → World → Prop) (Z : Nat → γ → Prop) (want : Nat → Bool) (m0 : γ)
    (hI0 : I m0 w0.drew) (hZ0 : ∀ i, Z i m0) (hI : ∀ m w m' w', I m w → T m w m' w' → I m' w') (hV : ∀ m m' i v w w', V m i v w → T m w m' w' → V m' i v w') (hT : ∀ m w, I m w → T m w m w) (hok : okGq ops a0.tmps.size = true) (hops : HopsQ P ops Q V I T Z want a0 0 ops.toList)
    (hdone : ∀ m a w, I m w → Frm ops a0 a → (∀ i o, ops[i]? = some o → o.dst = none → ∃ v, V m i v w) → (∀ i o d, ops[i]? = some o → o.dst = some d → V m i (a.tmps.getD d undef) w) → Q .normal a w) : (Code.region id ops true).wp P Q a0 w0 := by
  have hsz : ∀ {i : Nat} {o : Oper}, ops[i]? = some o → i < ops.size := by
    intro i o ho
    rcases Nat.lt_or_ge i ops.size with h | h
    · exact h
    · rw [Array.getElem?_eq_none h] at ho; cases ho
  have hat : ∀ i o, ops[i]? = some o → (∀ j b, o.guard = some (j, b) → (o.after.any fun e => Region.binds .any e && e.on == j) = true ∧ ∃ oj d, ops[j]? = some oj ∧ oj.dst = some d) ∧ (∀ e ∈ o.after, Region.binds .any e = true → e.on < i) ∧ (o.dst = none → o.guard = none) ∧ (∀ d, o.dst = some d → d < a0.tmps.size ∧ ∀ j oj, ops[j]? = some oj → j ≠ i → oj.dst ≠ some d) := by
    intro i o ho
    have h := List.all_eq_true.1 hok i (List.mem_range.2 (hsz ho))
    simp only [ho] at h
    rw [Bool.and_eq_true, Bool.and_eq_true] at h
    obtain ⟨⟨h1, h2⟩, h3⟩ := h
    refine ⟨fun j b hg => ?_, fun e he hb => ?_, fun hd => ?_, fun d hd => ?_⟩
    · simp only [hg, Bool.and_eq_true] at h1
      refine ⟨h1.1, ?_⟩
      have h4 := h1.2
      cases hj : ops[j]? with
      | none => rw [hj] at h4; cases h4
      | some oj =>
        rw [hj] at h4
        obtain ⟨d, hd⟩ := Option.isSome_iff_exists.1 h4
        exact ⟨oj, d, rfl, hd⟩
    · have := Array.all_eq_true'.1 h2 e he
      rw [hb] at this
      simpa using this
    · rw [hd] at h3
      simpa using h3
    · rw [hd] at h3
      simp only [Bool.and_eq_true, decide_eq_true_eq] at h3
      refine ⟨h3.1, fun j oj hj hne e => ?_⟩
      have := List.all_eq_true.1 h3.2 j (List.mem_range.2 (hsz hj))
      simp [hj, e, hne] at this
  refine wp_region_any hm ?_
  refine wpAny_inv (P := P) (ops := ops) (Q := Q) (fun i o ho => (hat i o ho).2.1)
    (fun listed a w => Frm ops a0 a ∧ ∃ m, I m w ∧ (∀ i, listed.getD i false = false → Z i m) ∧ (∀ i o, listed.getD i false = true → ops[i]? = some o → o.dst = none → ∃ v, V m i v w) ∧ ∀ i o d, listed.getD i false = true → ops[i]? = some o → o.dst = some d → V m i (a.tmps.getD d undef) w) ?_ ?_ _ _ _ _ (by simp) ?_ ?_
  · rintro listed a w i hs ⟨hF, m, hB, hZ, hN, hL⟩ hi
    obtain ⟨hun, o, ho, hdep⟩ := mem_ready.1 hi
    obtain ⟨hg, hb, hdn, hd⟩ := hat i o ho
    have hil : i < listed.size := by rw [hs]; exact hsz ho
    have hun' : listed.getD i false = false := by simpa [hil] using hun
    have hset : ∀ j, (listed.setIfInBounds i true).getD j false = if j = i then true else listed.getD j false := by
      intro j
      by_cases hji : j = i
      · subst hji; simp [Array.getElem?_setIfInBounds, hil]
      · simp [Array.getElem?_setIfInBounds, Ne.symm hji, hji]
    have H := HopsQ.get hops (i := i) (o := o) (by simpa using ho)
    rw [Nat.zero_add] at H
    have hdeps : Deps (V m) ops o a w := by
      intro j oj dj hj hoj hdj
      obtain ⟨e, he, h2⟩ := Array.any_eq_true'.1 hj
      simp only [Bool.and_eq_true, beq_iff_eq] at h2
      obtain ⟨h2, rfl⟩ := h2
      exact hL _ oj dj (hdep e he h2) hoj hdj
    have hnext : ∀ v w' m', V m' i v w' → T m w m' w' → (∀ j, j ≠ i → Z j m → Z j m') → Frm ops a0 (a.put o.dst v) ∧ ∃ m, I m w' ∧ (∀ j, (listed.setIfInBounds i true).getD j false = false → Z j m) ∧ (∀ j oj, (listed.setIfInBounds i true).getD j false = true → ops[j]? = some oj → oj.dst = none → ∃ v, V m j v w') ∧ ∀ j oj dj, (listed.setIfInBounds i true).getD j false = true → ops[j]? = some oj → oj.dst = some dj → V m j ((a.put o.dst v).tmps.getD dj undef) w' := by
      intro v w' m' hv hbw hz
      have hput : ∀ t, (a.put o.dst v).tmps.getD t undef = if o.dst = some t then v else a.tmps.getD t undef := by
        intro t
        cases hdd : o.dst with
        | none => simp [Act.put]
        | some d =>
          simp only [Act.put]
          have : d < a.tmps.size := by rw [hF.size]; exact (hd d hdd).1
          by_cases htd : t = d
          · subst htd
            simp [Array.getElem?_setIfInBounds, this]
          · rw [if_neg (fun e => htd (Option.some.inj e).symm)]
            simp [Array.getElem?_setIfInBounds, Ne.symm htd]
      refine ⟨⟨?_, ?_, fun t ht => ?_⟩, m', hI _ _ _ _ hB hbw, fun j hj => ?_, fun j oj hj hoj hdj => ?_, fun j oj dj hj hoj hdj => ?_⟩
      · cases hdd : o.dst with
        | none => exact hF.size
        | some d => simp only [Act.put, Array.size_setIfInBounds]; exact hF.size
      · cases hdd : o.dst with
        | none => exact hF.defers
        | some d => exact hF.defers
      · rw [hput, if_neg (ht i o ho)]
        exact hF.same t ht
      · rw [hset] at hj
        split at hj
        · cases hj
        · exact hz j (by assumption) (hZ j hj)
      · by_cases hji : j = i
        · subst hji
          exact ⟨v, hv⟩
        · rw [hset, if_neg hji] at hj
          obtain ⟨v2, h2⟩ := hN j oj hj hoj hdj
          exact ⟨v2, hV _ _ _ _ _ _ h2 hbw⟩
      · rw [hput]
        by_cases hji : j = i
        · subst hji
          rw [ho] at hoj
          cases hoj
          rw [if_pos hdj]
          exact hv
        · rw [if_neg (fun e => (hd dj e).2 j oj hoj hji hdj)]
          rw [hset, if_neg hji] at hj
          exact hV _ _ _ _ _ _ (hL j oj dj hj hoj hdj) hbw
    have hwant : Region.wanted o (yielded ops a.tmps) = want i := by
      obtain ⟨H1, _⟩ := H
      cases hgd : o.guard with
      | none =>
        rw [hgd] at H1
        rw [show want i = true from H1]
        simp [Region.wanted, hgd]
      | some jb =>
        obtain ⟨j, b⟩ := jb
        rw [hgd] at H1
        obtain ⟨hdj, oj, dj, hoj, hdst⟩ := hg j b hgd
        have hv := hdeps j oj dj hdj hoj hdst
        have h3 := H1 _ _ _ hv
        rw [← h3]
        have hjl : dj < a.tmps.size := by
          rw [hF.size]
          exact ((hat j oj hoj).2.2.2 dj hdst).1
        have hy : yielded ops a.tmps j = (match a.tmps.getD dj undef with | .bool c => some c | _ => none) := by
          unfold yielded
          rw [hoj]
          simp only [Option.bind_some, hdst]
          rw [Array.getD_eq_getD_getElem?, Array.getElem?_eq_getElem hjl]
          simp only [Option.getD_some]
          split <;> simp_all
        unfold Region.wanted
        simp only [hgd, hy]
        unfold isB
        split <;> simp_all
    unfold wpOp
    simp only [ho]
    rw [hwant]
    obtain ⟨_, H2⟩ := H
    cases hwi : want i with
    | true =>
      rw [hwi] at H2
      rw [if_pos rfl]
      refine .inl (Oper.wp_mono ?_ (H2 m a w hB (hZ i hun') hF hdeps))
      rintro a' w' ⟨v, rfl, m', hv, hbw, hz⟩
      exact hnext v w' m' hv hbw hz
    | false =>
      rw [hwi] at H2
      rw [if_neg (by simp)]
      exact hnext undef w m (H2 m w) (hT m w hB) (fun _ _ h => h)
  · rintro listed a w ⟨hF, m, hB, _, hN, hL⟩ hall
    exact hdone m a w hB hF (fun i o ho hd => hN i o (hall i (hsz ho)) ho hd) fun i o d ho hd => hL i o d (hall i (hsz ho)) ho hd
  · unfold unl
    exact Nat.le_trans List.countP_le_length (by simp)
  · have hrep : ∀ j, (Array.replicate ops.size false).getD j false = false := by
      intro j
      rw [Array.getD_eq_getD_getElem?, Array.getElem?_replicate]
      split <;> rfl
    exact ⟨⟨rfl, rfl, fun _ _ => rfl⟩, m0, hI0, fun i _ => hZ0 i, fun i o hi => absurd (hi.symm.trans (hrep i)) (by decide), fun i o d hi => absurd (hi.symm.trans (hrep i)) (by decide)⟩
end
end Go.Proofs.YtpkiheenkpcebaaGreatDoor
namespace Go.Proofs.YtpkiheenkpcebaaGreatDoor
open Go.RowKit Sx
theorem OkT.mono {V V' : Int} {x : Tm} (h : OkT V x) (hV : V ≤ V') : OkT V' x := ⟨h.1, h.2.1, h.2.2.1, closed1_mono hV h.2.2.2⟩
theorem OkF.mono {V V' : Int} {fs : List (List UInt8 × Tm)} (h : OkF V fs) (hV : V ≤ V') : OkF V' fs := ⟨h.1, fun f hf => ⟨(h.2 f hf).1, (h.2 f hf).2.mono hV⟩⟩
theorem OkD.mono {V V' : Int} {d : De} (h : OkD V d) (hV : V ≤ V') : OkD V' d := ⟨h.1, h.2.1.mono hV, h.2.2.mono hV⟩
def lenTB : Fo → Bool
  | .nil => true
  | .cons _ t kids _ rest => decide (t.length ≤ 1048576) && (lenTB kids && lenTB rest)
theorem lenT_of (f : Fo) : lenTB f = true → lenT f := by
  induction f with
  | nil => intro _; trivial
  | cons k t kids o r ih1 ih2 =>
    intro h
    rw [lenTB, Bool.and_eq_true, Bool.and_eq_true, decide_eq_true_eq] at h
    exact ⟨h.1, ih1 h.2.1, ih2 h.2.2⟩
def okTB (V : Int) (x : Tm) : Bool := decide (fsize x.kids ≤ 1073741824) && (decide (x.t.length ≤ 1048576) && (lenTB x.kids && closed1 x.k x.o x.kids V))
theorem okT_of {V : Int} {x : Tm} (h : okTB V x = true) : OkT V x := by
  rw [okTB, Bool.and_eq_true, Bool.and_eq_true, Bool.and_eq_true, decide_eq_true_eq, decide_eq_true_eq] at h
  exact ⟨h.1, h.2.1, lenT_of _ h.2.2.1, h.2.2.2⟩
def okDB (V : Int) (d : De) : Bool := decide (d.name.length ≤ 1048576) && (okTB V d.super && (decide (d.fields.length ≤ 1048576) && d.fields.all fun f => decide (f.1.length ≤ 1048576) && okTB V f.2))
theorem okD_of {V : Int} {d : De} (h : okDB V d = true) : OkD V d := by
  rw [okDB, Bool.and_eq_true, Bool.and_eq_true, Bool.and_eq_true, decide_eq_true_eq, decide_eq_true_eq] at h
  refine ⟨h.1, okT_of h.2.1, h.2.2.1, fun f hf => ?_⟩
  have h2 := List.all_eq_true.1 h.2.2.2 f hf
  rw [Bool.and_eq_true, decide_eq_true_eq] at h2
  exact ⟨h2.1, okT_of h2.2⟩
theorem baseD_okD : ∀ d ∈ baseD, OkD 3 d := by
  have key : ∀ d ∈ baseD, okDB 3 d = true := by decide
  exact fun d hd => okD_of (key d hd)
theorem spD_ok {z n : Int} {d : De} {nm : List UInt8} {x : Tm} (hd : OkD 3 d) (hx : OkT 3 x) (hs : fsize x.kids ≤ 1000000000) (hn : nm.length ≤ 1048576) (hf : d.fields.length ≤ 1000) : OkD 3 (spD z d n nm x) := by
  obtain ⟨d1, d2, d3⟩ := hd
  unfold spD
  split
  · exact ⟨hn, d2, d3⟩
  split
  · exact ⟨d1, d2, d3⟩
  split
  · exact ⟨d1, hx, d3⟩
  split
  · exact ⟨d1, d2, d3⟩
  split
  · refine ⟨d1, d2, ?_, fun f h => ?_⟩
    · show (d.fields ++ [(nm, x)]).length ≤ _
      rw [List.length_append]
      show d.fields.length + 1 ≤ _
      omega
    · rcases List.mem_append.1 h with h | h
      · exact d3.2 f h
      · simp at h
        subst h
        exact ⟨hn, hx⟩
  split
  · refine ⟨d1, d2, ?_, fun f h => ?_⟩
    · show (d.fields ++ d.fields).length ≤ _
      rw [List.length_append]
      omega
    · rcases List.mem_append.1 h with h | h
      · exact d3.2 f h
      · exact d3.2 f h
  split
  · refine ⟨d1, ⟨?_, by show ([66, 111, 120] : List UInt8).length ≤ _; decide, ?_, ?_⟩, d3⟩
    · show fsize (.cons x.k x.t x.kids x.o .nil) ≤ _
      simp [fsize]
      omega
    · exact ⟨hx.2.1, hx.2.2.1, trivial⟩
    · exact (by show closed1 2 0 (.cons x.k x.t x.kids x.o .nil) 3 = true; exact closed1_kids (by decide) (by decide) (by rw [closedL_cons, show aroundB 0 0 3 = 3 from rfl, hx.2.2.2]; rfl))
  split
  · exact ⟨d1, ⟨by show fsize Fo.nil ≤ _; decide, by show ([] : List UInt8).length ≤ _; decide, trivial, (by show closed1 n 0 .nil 3 = true; simp [closed1, freeB, closedL])⟩, d3⟩
  · exact ⟨d1, d2, d3⟩

/-- region 5: 0 no stream yet, 1 a stream, 2 the term made; al: the box has been made, g: it -/
structure DeG where
  n : Nat
  b : Nat
  al : Nat
  g : Nat
/-- the blocks that the declaration may lie in -/
def dgS (N0 M0 : Nat) (m : DeG) (y : Nat) : Prop := (y < N0 ∨ M0 ≤ y) ∧ (m.al = 1 → y ≠ m.g)
def dgI (W0 : World) (a : Option Addr) (len cap : Nat) (zs : List Int) (m : DeG) (W : World) : Prop :=
  BH W0 W ∧ (m.n = 1 → Strm W m.b a len cap zs 0) ∧ (1 ≤ m.n → W0.heap.size ≤ m.b ∧ m.b < W.heap.size ∧ (m.al = 1 → m.b ≠ m.g)) ∧ (m.al = 1 → W0.heap.size ≤ m.g ∧ m.g < W.heap.size) ∧ m.n ≤ 2 ∧ m.al ≤ 1
def dgT (W0 : World) (a : Option Addr) (len cap : Nat) (zs : List Int) (m : DeG) (W : World) (m' : DeG) (W' : World) : Prop :=
  dgI W0 a len cap zs m' W' ∧ W.heap.size ≤ W'.heap.size ∧ m.n ≤ m'.n ∧ (1 ≤ m.n → m'.b = m.b) ∧ (m.al = 1 → m'.al = 1 ∧ m'.g = m.g) ∧ (m.al = 0 → m'.al = 1 → W.heap.size ≤ m'.g) ∧
    (∀ y, y < W.heap.size → (m.n = 1 → y ≠ m.b) → W'.heap[y]? = W.heap[y]?) ∧ (m.n = 2 → BH W W')
def dgZ (j : Nat) (m : DeG) : Prop := (j = 11 → m.n = 0) ∧ (j = 15 → m.n ≤ 1) ∧ (j = 17 → m.al = 0)
theorem dg_same {W0 W : World} {a : Option Addr} {len cap : Nat} {zs : List Int} {m : DeG} (h : dgI W0 a len cap zs m W) : dgT W0 a len cap zs m W m W :=
  ⟨h, Nat.le_refl _, Nat.le_refl _, fun _ => rfl, fun h => ⟨h, rfl⟩, fun h1 h2 => by omega, fun _ _ _ => rfl, fun _ => BH.refl _⟩
theorem dg_bh {W0 W W' : World} {a : Option Addr} {len cap : Nat} {zs : List Int} {m : DeG} (h : dgI W0 a len cap zs m W) (hb : BH W W') : dgT W0 a len cap zs m W m W' := by
  obtain ⟨h1, h2, h3, h4, h5, h6⟩ := h
  have hs := Below.size hb
  refine ⟨⟨BH.trans h1 hb, fun h => (h2 h).keep hb, fun h => ⟨(h3 h).1, by have := (h3 h).2.1; omega, (h3 h).2.2⟩, fun h => ⟨(h4 h).1, by have := (h4 h).2; omega⟩, h5, h6⟩, hs, Nat.le_refl _, fun _ => rfl, fun h => ⟨h, rfl⟩, fun h1 h2 => by omega, fun y hy _ => Below.block hb y hy, fun _ => hb⟩
theorem dgS_T {W0 : World} {a : Option Addr} {len cap : Nat} {zs : List Int} {m m' : DeG} {W W' : World} {N0 M0 : Nat} (h : dgT W0 a len cap zs m W m' W') (hal : m.al ≤ 1) {y : Nat} (hy : dgS N0 M0 m y) (hl : y < W.heap.size) : dgS N0 M0 m' y := by
  obtain ⟨_, _, _, _, t1, t2, _, _⟩ := h
  refine ⟨hy.1, fun h' => ?_⟩
  by_cases h0 : m.al = 1
  · rw [(t1 h0).2]; exact hy.2 h0
  · have := t2 (by omega) h'
    omega
/-- the zero of a declaration -/
def zero8 : Array Value := #[.string ⟨#[]⟩, .int .i64 0, .int .i64 0, .string ⟨#[]⟩, .int .i64 0, .slice none 0 0, .bool false, .slice none 0 0]
def dgV (N0 M0 : Nat) (gd L cd p : Nat) (d : De) (A : Option Addr) (c : Nat) (F : Option Addr) (x : Nat) (how n vars vr : Int) (nm : List UInt8) (a : Option Addr) (len cap : Nat) (which : Int) (m : DeG) (j : Nat) (v : Value) (w : World) : Prop :=
  match j with
  | 0 => v = .slice (some ⟨gd, 0, none⟩) L cd
  | 1 => v = .int .i64 which
  | 2 => v = .slice (some ⟨gd, 0, none⟩) L cd
  | 3 => v = .int .i64 (L : Int)
  | 4 => v = .int .i64 (p : Int)
  | 5 => v = .pointer (some ⟨gd, p * 8, none⟩)
  | 6 => v = .agg #[.string ⟨d.name.toArray⟩, .int .i64 d.arity, .int .i64 d.super.k, .string ⟨d.super.t.toArray⟩, .int .i64 d.super.o, .slice A d.super.kids.len c, .bool d.conc, .slice F d.fields.length x]
  | 7 => v = .int .i64 how
  | 8 => v = .int .i64 n
  | 9 => v = .string ⟨nm.toArray⟩
  | 10 => v = .slice a len cap
  | 11 => 1 ≤ m.n ∧ v = .pointer (some ⟨m.b, 0, none⟩)
  | 12 => v = .slice (some ⟨gd, 0, none⟩) L cd
  | 13 => v = .int .i64 vars
  | 14 => v = .int .i64 vr
  | 15 => m.n = 2 ∧ m.al ≤ 1 ∧ ∃ (y : Tm) (A2 : Option Addr) (c2 : Nat), v = .agg #[.int .i64 y.k, .string ⟨y.t.toArray⟩, .int .i64 y.o, .slice A2 y.kids.len c2] ∧ KS w (dgS N0 M0 m) y.kids A2 c2 ∧ OkT 3 y ∧ fsize y.kids ≤ 1000000000
  | 16 => m.n = 2 ∧ m.al ≤ 1 ∧ ∃ (e : De) (A2 : Option Addr) (c2 : Nat) (F2 : Option Addr) (x2 : Nat), v = .agg #[.string ⟨e.name.toArray⟩, .int .i64 e.arity, .int .i64 e.super.k, .string ⟨e.super.t.toArray⟩, .int .i64 e.super.o, .slice A2 e.super.kids.len c2, .bool e.conc, .slice F2 e.fields.length x2] ∧ KS w (dgS N0 M0 m) e.super.kids A2 c2 ∧ FlS w (dgS N0 M0 m) e.fields F2 x2 ∧ OkD 3 e
  | 17 => m.al = 1 ∧ m.g < w.heap.size ∧ (m.n = 1 → m.b ≠ m.g) ∧ v = .pointer (some ⟨m.g, 0, none⟩) ∧ w.heap[m.g]? = some (.cells zero8 37 (0, 0))
  | _ => True
theorem dgV_T {W0 : World} {N0 M0 : Nat} {gd L cd p : Nat} {d : De} {A : Option Addr} {c : Nat} {F : Option Addr} {x : Nat} {how n vars vr : Int} {nm : List UInt8} {a : Option Addr} {len cap : Nat} {zs : List Int} {which : Int} (m m' : DeG) (j : Nat) (v : Value) (w w' : World) (h : dgV N0 M0 gd L cd p d A c F x how n vars vr nm a len cap which m j v w) (hT : dgT W0 a len cap zs m w m' w') : dgV N0 M0 gd L cd p d A c F x how n vars vr nm a len cap which m' j v w' := by
  have hT' := hT
  obtain ⟨hI, hsz, hn, hb, h1, h2, hk, h3⟩ := hT
  have hn2 := hI.2.2.2.2.1
  have hal2 := hI.2.2.2.2.2
  unfold dgV at *
  split at h
  all_goals first
    | exact h
    | exact trivial
    | (obtain ⟨e1, e2⟩ := h; exact ⟨by omega, by rw [hb e1]; exact e2⟩)
    | (obtain ⟨e0, e1, y, A2, c2, e, k1, k2⟩ := h
       exact ⟨by omega, hal2, y, A2, c2, e, k1.keep hsz (fun y hy hl => ⟨hk y hl (fun e => by omega), dgS_T hT' e1 hy hl⟩), k2⟩)
    | (obtain ⟨e0, e1, y, A2, c2, F2, x2, e, k1, k2, k3⟩ := h
       exact ⟨by omega, hal2, y, A2, c2, F2, x2, e, k1.keep hsz (fun y hy hl => ⟨hk y hl (fun e => by omega), dgS_T hT' e1 hy hl⟩), k2.keep hsz (fun y hy hl => ⟨hk y hl (fun e => by omega), dgS_T hT' e1 hy hl⟩), k3⟩)
    | (obtain ⟨e0, e1, e2, e3, e4⟩ := h
       obtain ⟨f1, f2⟩ := h1 e0
       refine ⟨f1, by rw [f2]; omega, fun e => ((hI.2.2.1 (by omega)).2.2 f1), by rw [f2]; exact e3, ?_⟩
       rw [f2]
       exact (hk _ e1 (fun e => (e2 e).symm)).trans e4)

/-- region 8: how many declarations have been made -/
def h8I (wH : World) (p b q g : Nat) (ds : List De) (d : De) (A : Option Addr) (c : Nat) (F : Option Addr) (x : Nat) (m : HiG) (W : World) : Prop :=
  Hier W wH.heap.size p b (fun x => x = q) m.v m.l (if m.n = 0 then ds else declD ds d) ∧ RHier W (HS p b m.v (fun x => x = q)) q (if m.n = 2 then declD ds d else ds) ∧
    KS W (HS p b m.v (fun x => x = q)) d.super.kids A c ∧ FlS W (HS p b m.v (fun x => x = q)) d.fields F x ∧ W.heap[g]? = some (.cells #[.string ⟨d.name.toArray⟩, .int .i64 d.arity, .int .i64 d.super.k, .string ⟨d.super.t.toArray⟩, .int .i64 d.super.o, .slice A d.super.kids.len c, .bool d.conc, .slice F d.fields.length x] 37 (0, 0)) ∧ HS p b m.v (fun x => x = q) g ∧ BH wH W ∧ m.n ≤ 2
def h8T (wH : World) (p b q g : Nat) (ds : List De) (d : De) (A : Option Addr) (c : Nat) (F : Option Addr) (x : Nat) (m : HiG) (W : World) (m' : HiG) (W' : World) : Prop := h8I wH p b q g ds d A c F x m' W' ∧ m.n ≤ m'.n ∧ (m.n = 2 → BH W W')
def h8Z (j : Nat) (m : HiG) : Prop := (j = 2 → m.n = 0) ∧ (j = 5 → m.n ≤ 1)
def h8V (p q : Nat) (ds : List De) (d : De) (A : Option Addr) (c : Nat) (F : Option Addr) (x : Nat) (z : Int) (m : HiG) (j : Nat) (v : Value) (w : World) : Prop :=
  match j with
  | 0 => v = .pointer (some ⟨p, 0, none⟩)
  | 1 => v = .agg #[.string ⟨d.name.toArray⟩, .int .i64 d.arity, .int .i64 d.super.k, .string ⟨d.super.t.toArray⟩, .int .i64 d.super.o, .slice A d.super.kids.len c, .bool d.conc, .slice F d.fields.length x]
  | 2 => v = .int .i64 z ∧ 1 ≤ m.n
  | 3 => v = .pointer (some ⟨q, 0, none⟩)
  | 4 => v = .agg #[.string ⟨d.name.toArray⟩, .int .i64 d.arity, .int .i64 d.super.k, .string ⟨d.super.t.toArray⟩, .int .i64 d.super.o, .slice A d.super.kids.len c, .bool d.conc, .slice F d.fields.length x]
  | 5 => v = .int .i64 z ∧ m.n = 2
  | 6 => v = .bool true ∧ m.n = 2
  | 7 => v = .bool true ∧ m.n = 2
  | 8 => v = .pointer (some ⟨p, 0, none⟩) ∧ m.n = 2
  | 9 => m.n = 2 ∧ ∃ A c, v = .slice A (declD ds d).length c ∧ DcS w (fun _ => True) (declD ds d) A c
  | 10 => v = .pointer (some ⟨q, 0, none⟩) ∧ m.n = 2
  | 11 => m.n = 2 ∧ ∃ A c, v = .slice A (declD ds d).length c ∧ DcS w (fun _ => True) (declD ds d) A c
  | _ => v = .bool true ∧ m.n = 2
theorem h8V_T {wH : World} {p b q g : Nat} {ds : List De} {d : De} {A : Option Addr} {c : Nat} {F : Option Addr} {x : Nat} {z : Int} (m m' : HiG) (j : Nat) (v : Value) (w w' : World) (h : h8V p q ds d A c F x z m j v w) (hT : h8T wH p b q g ds d A c F x m w m' w') : h8V p q ds d A c F x z m' j v w' := by
  obtain ⟨hI, hn, hb⟩ := hT
  have hn2 := hI.2.2.2.2.2.2.2
  unfold h8V at *
  split at h
  all_goals first
    | exact h
    | exact ⟨h.1, by have := h.2; omega⟩
    | (obtain ⟨e0, A1, c1, e, k⟩ := h; exact ⟨by omega, A1, c1, e, k.bh (hb e0)⟩)
theorem h8_same {wH W : World} {p b q g : Nat} {ds : List De} {d : De} {A : Option Addr} {c : Nat} {F : Option Addr} {x : Nat} {m : HiG} (h : h8I wH p b q g ds d A c F x m W) : h8T wH p b q g ds d A c F x m W m W := ⟨h, Nat.le_refl _, fun _ => BH.refl _⟩
theorem h8_bh {wH W W' : World} {p b q g : Nat} {ds : List De} {d : De} {A : Option Addr} {c : Nat} {F : Option Addr} {x : Nat} {m : HiG} (h : h8I wH p b q g ds d A c F x m W) (hb : BH W W') : h8T wH p b q g ds d A c F x m W m W' := by
  obtain ⟨h1, h2, h3, h4, h5, h6, h7, h8⟩ := h
  exact ⟨⟨h1.bh hb, h2.bh hb, h3.bh hb, h4.bh hb, (Below.block hb _ (heap_lt h5)).trans h5, h6, BH.trans h7 hb, h8⟩, Nat.le_refl _, fun _ => hb⟩
/-- old blocks and new ones are none of the hierarchies' -/
theorem hs_of {u1 u2 W0 : World} {p b q : Nat} {v : Value} {l : List (List UInt8 × Value)} {ds : List De} (h : Hier u2 u1.heap.size p b (fun x => x = q) v l ds) (hq : u1.heap.size ≤ q) (hb : BH u2 W0) {y : Nat} (hy : y < u1.heap.size ∨ W0.heap.size ≤ y) : HS p b v (fun x => x = q) y := by
  have hs := Below.size hb
  have hB := h.hB
  have h1 := heap_lt h.blk
  have h2 := h.map.lt
  have h3 := h.hQ q rfl
  refine ⟨⟨by omega, by omega, fun e => ?_⟩, fun e => by omega⟩
  have := h.own.lt y e
  omega
theorem dn_of {W : World} {S : Nat → Prop} {ds : List De} {gd cd : Nat} {E : EG} (h : DcS W S ds (some ⟨gd, 0, none⟩) cd) (e1 : E.gd = gd) (e2 : E.od = 0) (e3 : E.nd = ds.length) (e4 : E.ds = ds.map fun d => (d.name, d.arity.toNat)) (hne : gd ≠ E.b) (hlt : gd < W.heap.size) (hl : ds.length ≤ 1000) (hds : ∀ d ∈ ds, avX d) : DN W E := by
  refine ⟨by rw [e1]; exact hne, by rw [e1]; exact hlt, by rw [e3, e4]; simp, by rw [e3]; exact hl, ?_⟩
  intro j n ar hj
  rw [e4, List.getElem?_map, Option.map_eq_some_iff] at hj
  obtain ⟨d, hd, he⟩ := hj
  obtain ⟨rfl, rfl⟩ := Prod.mk.inj he
  obtain ⟨g, off, A1, c1, F1, x1, e, _, _, p0, p1, p2, p3, p4, p5, p6, p7, _, _⟩ := h.at hd
  cases e
  obtain ⟨o1, o2, o3⟩ := hds d (List.mem_of_getElem? hd)
  rw [e1, e2]
  exact ⟨⟨d.super.k, d.super.t, d.super.o, A1, d.super.kids.len, c1, d.conc, F1, d.fields.length, x1, p0, by rw [Int.toNat_of_nonneg o1]; exact p1, p2, p3, p4, p5, p6, p7⟩, by omega, o3⟩
end Go.Proofs.YtpkiheenkpcebaaGreatDoor
