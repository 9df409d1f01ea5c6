/- telref1.validParameterized. No condition but bounded sizes. telref1.Any, Exists. No condition. A region in any order with guarded operations, shown by what each operation leaves. No condition. -/
import Derived.Test.YtpkiheenkpcebaaGreatDoorMay
import Derived.Test.YtpkiheenkpcebaaGreatDoorMbc
import Derived.Test.YtpkiheenkpcebaaGreatDoorMav
import Derived.Test.YtpkiheenkpcebaaGreatDoorMac
set_option linter.unusedVariables false
set_option linter.unusedSimpArgs false
namespace Go.Proofs.YtpkiheenkpcebaaGreatDoor.Sx
theorem insI_G (l : List Int) (n : Int) : insI l n = insG l n := by
  induction l with
  | nil => rfl
  | cons x r ih => simp only [insI, insG, ih]
theorem setI_eq (xs : List Int) : insA [] xs = setI xs := by
  unfold setI
  rw [set_eq lin_int]
  have : insI = insG := funext fun l => funext fun n => insI_G l n
  unfold insA insAG
  rw [this]
end Go.Proofs.YtpkiheenkpcebaaGreatDoor.Sx
namespace Go.Proofs.YtpkiheenkpcebaaGreatDoor
open Go.RowKit Sx

set_option maxHeartbeats 4000000 in
set_option maxRecDepth 100000 in
theorem rValidPar (k o : Int) (t : List UInt8) (kids : Fo) (A : Option Addr) (c : Nat) (ar : Int) (w : World) (hN : fsize kids ≤ 1073741824) (hK : KT w kids A c) (ht : t.length ≤ 1048576) (hl : lenT kids) :
    Calls Tryz.prog 121 #[.agg #[.int .i64 k, .string ⟨t.toArray⟩, .int .i64 o, .slice A kids.len c], .int .i64 ar] w fun e w' => e = .returned (.bool (vtB k t o kids ar)) ∧ BH w w' := by
  obtain ⟨x, hx⟩ : ∃ x, validV k t o kids = x := ⟨_, rfl⟩
  obtain ⟨p, hp⟩ : ∃ p, plain1 k o kids = p := ⟨_, rfl⟩
  obtain ⟨R, hR⟩ : ∃ R, setI (free1 k o kids 0) = R := ⟨_, rfl⟩
  have hC : ∀ X, BH w X → Calls Tryz.prog 156 #[.agg #[.int .i64 k, .string ⟨t.toArray⟩, .int .i64 o, .slice A kids.len c]] X fun e u => e = .returned (.int .i64 x) ∧ BH X u := fun X hX =>
    (rValidate_any k o t kids A c X hN (hK.below hX) ht hl).mono fun e u h => ⟨by rw [h.1, hx], h.2⟩
  have hP : ∀ X, BH w X → Calls Tryz.prog 157 #[.agg #[.int .i64 k, .string ⟨t.toArray⟩, .int .i64 o, .slice A kids.len c]] X fun e u => e = .returned (.bool p) ∧ BH X u := fun X hX =>
    (rPlain_any (fsize kids) k o t kids A c X (Nat.le_refl _) hN (hK.below hX)).mono fun e u h => ⟨by rw [h.1, hp], h.2⟩
  have hF : ∀ X, BH w X → Calls Tryz.prog 155 #[.agg #[.int .i64 k, .string ⟨t.toArray⟩, .int .i64 o, .slice A kids.len c]] X fun e u => ∃ A' c', e = .returned (.slice A' R.length c') ∧ Cel u 1 A' R.length c' (R.map (Value.int .i64)) ∧ BH X u := fun X hX => by
    have h := rTermFreeVars_any k o t kids A c X hN (hK.below hX)
    rw [setI_eq, hR] at h
    exact h
  have hRl : R.length ≤ 4294967296 := by
    have h5 := freeL_len kids k 0 0
    have h6 : (free1 k o kids 0).length ≤ fsize kids + 1 := by
      simp only [free1, List.length_append]
      split <;> simp <;> omega
    have h7 : R.length ≤ (free1 k o kids 0).length := by
      rw [← hR]
      have := insAG_len (free1 k o kids 0) ([] : List Int)
      rw [setI, set_eq lin_int]
      simpa using this
    omega
  have hV : vtB k t o kids ar = ((x == 0) && (p && lastB R ar)) := by rw [vtB, hx, hp, hR]
  obtain ⟨Z, hZ⟩ : ∃ Z, vtB k t o kids ar = Z := ⟨_, rfl⟩
  rw [hZ] at hV ⊢
  have HZ := Lib.hid hV
  have HC := Lib.hid hC
  have HP := Lib.hid hP
  have HF := Lib.hid hF
  have e1 := heap_alloc_new w (.cells #[.int .i64 k, .string ⟨t.toArray⟩, .int .i64 o, .slice A kids.len c] 34)
  have f1 := bh_alloc (BH.refl w) (.cells #[.int .i64 k, .string ⟨t.toArray⟩, .int .i64 o, .slice A kids.len c] 34)
  have HE := Lib.hid (And.intro e1 f1)
  obtain ⟨b0, b1, b2, b3, _⟩ := row4 e1
  clear hC hP hF hx hp hR hV hZ e1 f1 hK hl ht hN
  go_enter Tryz.func121, Tryz.ntmps121
  go_wp2_with (fail)
  refine (HF.out _ HE.out.2).mono ?_
  rintro e u3 ⟨A3, c3, rfl, hcel, hb⟩
  have HC3 := Lib.hid hcel
  have HB := Lib.hid (BH.trans HE.out.2 hb)
  have HN := Lib.hid ((Below.block hb _ (heap_lt HE.out.1)).trans HE.out.1)
  clear hb hcel b0 b1 b2 b3
  obtain ⟨b0, b1, b2, b3, _⟩ := row4 HN.out
  go_wp2_with (fail)
  refine (HC.out _ HB.out).mono ?_
  rintro e u ⟨rfl, hb⟩
  have HCb := Lib.hid (HC3.out.bh hb)
  have HB1 := Lib.hid (BH.trans HB.out hb)
  have HN1 := Lib.hid ((Below.block hb _ (heap_lt HN.out)).trans HN.out)
  clear hb b0 b1 b2 b3 HC3
  obtain ⟨b0, b1, b2, b3, _⟩ := row4 HN1.out
  by_cases h0 : x = 0
  · subst h0
    go_wp2_with (fail)
    refine (HP.out _ HB1.out).mono ?_
    rintro e u2 ⟨rfl, hb⟩
    have HC3 := Lib.hid (HCb.out.bh hb)
    have HB2 := Lib.hid (BH.trans HB1.out hb)
    clear hb b0 b1 b2 b3 HCb
    cases p with
    | false =>
      go_wp2_with (fail)
      go_ret
      exact ⟨by rw [HZ.out]; rfl, HB2.out⟩
    | true =>
      obtain ⟨q, hq⟩ : ∃ q, lastB R ar = q := ⟨_, rfl⟩
      rw [hq] at HZ
      by_cases hRR : R = []
      · subst hRR
        have hq' : q = true := by rw [← hq]; rfl
        subst hq'
        clear hq
        go_wp2_with (fail)
        go_ret
        exact ⟨by rw [HZ.out]; rfl, HB2.out⟩
      · have hlen : 0 < R.length := List.length_pos_iff.2 hRR
        obtain ⟨m, hm⟩ : ∃ m, R.length = m + 1 := ⟨R.length - 1, by omega⟩
        obtain ⟨g, off, rfl, hg, q0⟩ := HC3.out.int_at (k := m) (by omega)
        have hqz : q = decide (R.getD m 0 < ar) := by
          rw [← hq, lastB, List.getLast?_eq_getElem?, List.getElem?_eq_getElem (by omega), List.getD_eq_getElem?_getD, List.getElem?_eq_getElem (by omega)]
          simp [hm]
        obtain ⟨z, hz⟩ : ∃ z, R.getD m 0 = z := ⟨_, rfl⟩
        rw [hz] at q0 hqz
        subst hqz
        rw [hm]
        have t1 : decide (((m + 1 : Nat) : Int) = 0) = false := by rw [decide_eq_false_iff_not]; omega
        have t2 : (((m + 1 : Nat) : Int) == 0) = false := by rw [beq_eq_false_iff_ne]; omega
        have w1 : IntKind.i64.wrap (((m + 1 : Nat) : Int) - 1) = (m : Int) := (IntKind.wrap_i64 _).trans (by omega)
        have w2 : ((m + 1 : Nat) : Int) - 1 = (m : Int) := by omega
        have w3 : (m : Int) < ((m + 1 : Nat) : Int) := by omega
        have w4 : (0 : Int) ≤ (m : Int) := by omega
        have w5 : wrap64 (m : Int) = (m : Int) := wrap64_in (by omega) (by omega)
        obtain ⟨L, hL⟩ : ∃ L, m + 1 = L := ⟨_, rfl⟩
        rw [hL] at t1 t2 w1 w2 w3 ⊢
        clear hRR hq hz hlen hL hm
        by_cases hza : z < ar
        · have t3 : decide (z < ar) = true := by simpa using hza
          go_wp2_with (fail)
          go_ret
          exact ⟨by rw [HZ.out, t3]; rfl, HB2.out⟩
        · have t3 : decide (z < ar) = false := by simpa using hza
          go_wp2_with (fail)
          go_ret
          exact ⟨by rw [HZ.out, t3]; rfl, HB2.out⟩
  · have t1 : (x == 0) = false := by simpa using h0
    have t2 : decide (x = 0) = false := by simpa using h0
    go_wp2_with (fail)
    go_ret
    exact ⟨by rw [HZ.out, t1]; rfl, HB1.out⟩
end Go.Proofs.YtpkiheenkpcebaaGreatDoor
namespace Go.Proofs.YtpkiheenkpcebaaGreatDoor
open Go.RowKit Sx

theorem anyC (w : World) : Calls Tryz.prog 94 #[] w fun e w' => e = .returned (.agg #[.int .i64 0, .string ⟨#[]⟩, .int .i64 0, .slice none 0 0]) ∧ BH w w' := by
  go_enter Tryz.func94, Tryz.ntmps94
  go_wp2_with (fail)
  obtain ⟨m0, m1, m2, m3⟩ := box4 w (.int .i64 0) (.string ⟨#[]⟩) (.int .i64 0) (.slice none 0 0) 34
  exact bodyPost_ret (v := .agg #[.int .i64 0, .string ⟨#[]⟩, .int .i64 0, .slice none 0 0]) (by simp [results, Tryz.results94, go_sem, m0, m1, m2, m3]) rfl ⟨rfl, (Below.refl _ _).alloc (Nat.le_refl _) _⟩
set_option maxHeartbeats 1000000 in
theorem existsC (k1 o1 k2 o2 : Int) (s1 s2 : ByteArray) (A1 A2 : Option Addr) (n1 c1 n2 c2 : Nat) (w : World) :
    Calls Tryz.prog 97 #[.agg #[.int .i64 k1, .string s1, .int .i64 o1, .slice A1 n1 c1], .agg #[.int .i64 k2, .string s2, .int .i64 o2, .slice A2 n2 c2]] w fun e w' =>
      ∃ g, e = .returned (.agg #[.int .i64 6, .string ⟨#[]⟩, .int .i64 0, .slice (some ⟨g, 0, none⟩) 2 2]) ∧ w'.heap[g]? = some (.cells #[.int .i64 k1, .string s1, .int .i64 o1, .slice A1 n1 c1, .int .i64 k2, .string s2, .int .i64 o2, .slice A2 n2 c2] 34 (0, 0)) ∧ BH w w' := by
  obtain ⟨b0, b1, b2, b3⟩ := box4 w (.int .i64 k1) (.string s1) (.int .i64 o1) (.slice A1 n1 c1) 34
  have ha := heap_alloc_new w (.cells #[.int .i64 k1, .string s1, .int .i64 o1, .slice A1 n1 c1] 34 (0, 0))
  go_enter Tryz.func97, Tryz.ntmps97
  go_wp2_with (fail)
  obtain ⟨wb, hwb⟩ : ∃ wb, (w.alloc (.cells #[.int .i64 k1, .string s1, .int .i64 o1, .slice A1 n1 c1] 34)).alloc (.cells #[.int .i64 k2, .string s2, .int .i64 o2, .slice A2 n2 c2] 34) = wb := ⟨_, rfl⟩
  have hs : wb.heap.size = w.heap.size + 2 := by rw [← hwb]; simp
  have hb : BH w wb := by rw [← hwb]; exact ((Below.refl _ _).alloc (Nat.le_refl _) _).alloc (by simp) _
  rw [hwb]
  have h1 := heap_alloc_new wb (.cells #[.int .i64 6, .string ⟨#[]⟩, .int .i64 0, .slice (some ⟨w.heap.size + 1 + 1 + 1, 0, none⟩) 2 2] 34 (0, 0))
  rw [hs] at h1
  have h2 := (Below.heap_alloc (wb.alloc (.cells #[.int .i64 6, .string ⟨#[]⟩, .int .i64 0, .slice (some ⟨w.heap.size + 1 + 1 + 1, 0, none⟩) 2 2] 34 (0, 0))) (.cells #[.int .i64 k1, .string s1, .int .i64 o1, .slice A1 n1 c1, .int .i64 k2, .string s2, .int .i64 o2, .slice A2 n2 c2] 34 (0, 0)) (w.heap.size + 2) (by simp [hs])).trans h1
  have h3 := heap_alloc_new (wb.alloc (.cells #[.int .i64 6, .string ⟨#[]⟩, .int .i64 0, .slice (some ⟨w.heap.size + 1 + 1 + 1, 0, none⟩) 2 2] 34 (0, 0))) (.cells #[.int .i64 k1, .string s1, .int .i64 o1, .slice A1 n1 c1, .int .i64 k2, .string s2, .int .i64 o2, .slice A2 n2 c2] 34 (0, 0))
  have hs3 : (wb.alloc (.cells #[.int .i64 6, .string ⟨#[]⟩, .int .i64 0, .slice (some ⟨w.heap.size + 1 + 1 + 1, 0, none⟩) 2 2] 34 (0, 0))).heap.size = w.heap.size + 1 + 1 + 1 := by simp [hs]
  rw [hs3] at h3
  obtain ⟨m0, m1, m2, m3, _⟩ := row4 h2
  exact bodyPost_ret (v := .agg #[.int .i64 6, .string ⟨#[]⟩, .int .i64 0, .slice (some ⟨w.heap.size + 1 + 1 + 1, 0, none⟩) 2 2]) (by simp [results, Tryz.results97, go_sem, m0, m1, m2, m3]) rfl
    ⟨_, rfl, h3, Below.alloc (Below.alloc hb (by omega) _) (by simp; omega) _⟩

end Go.Proofs.YtpkiheenkpcebaaGreatDoor
namespace Go.Proofs.YtpkiheenkpcebaaGreatDoor
open Go.RowKit Sx

section
variable {P : Program} {ops : Array Oper} {Q : Exit → Act → World → Prop}
def isB (v : Value) (b : Bool) : Bool := match v with | .bool c => c == b | _ => false
/-- what an operation is to leave, where it is wanted; else that what stands in its place will do -/
def HopW (P : Program) (ops : Array Oper) (Q : Exit → Act → World → Prop) (V : Nat → Value → World → Prop) (want : Nat → Bool) (a0 : Act) (w0 : World) (i : Nat) (o : Oper) : Prop :=
  (match o.guard with | none => want i = true | some (j, b) => ∀ v w, V j v w → isB v b = want i) ∧ (bif want i then Hop P ops Q V a0 w0 i o else ∀ w, V i undef w)
def HopsW (P : Program) (ops : Array Oper) (Q : Exit → Act → World → Prop) (V : Nat → Value → World → Prop) (want : Nat → Bool) (a0 : Act) (w0 : World) : Nat → List Oper → Prop
  | _, [] => True
  | i, o :: r => HopW P ops Q V want a0 w0 i o ∧ HopsW P ops Q V want a0 w0 (i + 1) r
theorem HopsW.get {V : Nat → Value → World → Prop} {want : Nat → Bool} {a0 : Act} {w0 : World} : ∀ {l : List Oper} {n : Nat}, HopsW P ops Q V want a0 w0 n l → ∀ {i : Nat} {o : Oper}, l[i]? = some o → HopW P ops Q V want a0 w0 (n + i) o := by
  intro l
  induction l with
  | nil => intro n _ i o h; cases h
  | cons x r ih =>
    intro n h i o hi
    cases i with
    | zero => simp at hi; subst hi; exact h.1
    | succ i =>
      have := ih h.2 (i := i) (o := o) (by simpa using hi)
      rwa [Nat.add_assoc, Nat.add_comm 1 i] at this
def okGs (ops : Array Oper) (n : Nat) : Bool :=
  (List.range ops.size).all fun i => match ops[i]? with
    | none => true
    | some o => (match o.guard with | none => true | some (j, _) => (o.after.any fun e => Region.binds .any e && e.on == j) && (match ops[j]? with | some oj => oj.dst.isSome | none => false)) && (o.after.all fun e => !Region.binds .any e || decide (e.on < i)) && (match o.dst with
      | none => false
      | some d => decide (d < n) && (List.range ops.size).all fun j => j == i || (match ops[j]? with | some oj => oj.dst != some d | none => true))

theorem wp_region_gfacts {id : Nat} {a0 : Act} {w0 : World} (hm : P.follows .mixedOrders = true) (V : Nat → Value → World → Prop) (hV : ∀ i v w w', V i v w → BH w w' → V i v w')
    (want : Nat → Bool) (hok : okGs ops a0.tmps.size = true) (hops : HopsW P ops Q V want a0 w0 0 ops.toList)
    (hdone : ∀ a w, BH w0 w → Frm ops a0 a → (∀ i o d, ops[i]? = some o → o.dst = some d → V i (a.tmps.getD d undef) w) → Q .normal a w) : (Code.region id ops true).wp P Q a0 w0 := by
  have hok' : ∀ i o, ops[i]? = some o → (∀ j b, o.guard = some (j, b) → (o.after.any fun e => Region.binds .any e && e.on == j) = true ∧ ∃ oj d, ops[j]? = some oj ∧ oj.dst = some d) ∧ (∀ e ∈ o.after, Region.binds .any e = true → e.on < i) ∧ ∃ d, o.dst = some d ∧ d < a0.tmps.size ∧ ∀ j oj, ops[j]? = some oj → j ≠ i → oj.dst ≠ some d := by
    intro i o ho
    have hlt : i < ops.size := by
      rcases Nat.lt_or_ge i ops.size with h | h
      · exact h
      · rw [Array.getElem?_eq_none h] at ho; cases ho
    have h := List.all_eq_true.1 hok i (List.mem_range.2 hlt)
    simp only [ho] at h
    rw [Bool.and_eq_true, Bool.and_eq_true] at h
    obtain ⟨⟨h1, h2⟩, h3⟩ := h
    refine ⟨fun j b hg => ?_, fun e he hb => ?_, ?_⟩
    · simp only [hg, Bool.and_eq_true] at h1
      refine ⟨h1.1, ?_⟩
      have h4 := h1.2
      cases hj : ops[j]? with
      | none => rw [hj] at h4; cases h4
      | some oj =>
        rw [hj] at h4
        obtain ⟨d, hd⟩ := Option.isSome_iff_exists.1 h4
        exact ⟨oj, d, rfl, hd⟩
    · have := Array.all_eq_true'.1 h2 e he
      rw [hb] at this
      simpa using this
    · cases hd : o.dst with
      | none => rw [hd] at h3; cases h3
      | some d =>
        rw [hd] at h3
        simp only [Bool.and_eq_true, decide_eq_true_eq] at h3
        refine ⟨d, rfl, h3.1, fun j oj hj hne e => ?_⟩
        have hjl : j < ops.size := by
          rcases Nat.lt_or_ge j ops.size with h | h
          · exact h
          · rw [Array.getElem?_eq_none h] at hj; cases hj
        have := List.all_eq_true.1 h3.2 j (List.mem_range.2 hjl)
        simp [hj, e, hne] at this
  refine wp_region_any hm ?_
  refine wpAny_inv (P := P) (ops := ops) (Q := Q) (fun i o ho => (hok' i o ho).2.1) (fun listed a w => BH w0 w ∧ Frm ops a0 a ∧ ∀ i o d, listed.getD i false = true → ops[i]? = some o → o.dst = some d → V i (a.tmps.getD d undef) w) ?_ ?_ _ _ _ _ (by simp) ?_ ⟨BH.drew w0, ⟨rfl, rfl, fun _ _ => rfl⟩, ?_⟩
  · rintro listed a w i hs ⟨hB, hF, hL⟩ hi
    obtain ⟨hun, o, ho, hdep⟩ := mem_ready.1 hi
    obtain ⟨hg, hb, d, hd, hdlt, hdis⟩ := hok' i o ho
    have H := HopsW.get hops (i := i) (o := o) (by simpa using ho)
    rw [Nat.zero_add] at H
    have hput : ∀ v t, (a.put o.dst v).tmps.getD t undef = if t = d then v else a.tmps.getD t undef := by
      intro v t
      rw [hd]
      simp only [Act.put]
      have : d < a.tmps.size := by rw [hF.size]; exact hdlt
      by_cases htd : t = d
      · subst htd
        simp [Array.getElem?_setIfInBounds, this]
      · rw [if_neg htd]
        simp [Array.getElem?_setIfInBounds, Ne.symm htd]
    have hdeps : Deps V ops o a w := by
      intro j oj dj hj hoj hdj
      obtain ⟨e, he, h2⟩ := Array.any_eq_true'.1 hj
      simp only [Bool.and_eq_true, beq_iff_eq] at h2
      obtain ⟨h2, rfl⟩ := h2
      exact hL _ oj dj (hdep e he h2) hoj hdj
    have hnext : ∀ v w', BH w w' → V i v w' → BH w0 w' ∧ Frm ops a0 (a.put o.dst v) ∧ ∀ j oj dj, (listed.setIfInBounds i true).getD j false = true → ops[j]? = some oj → oj.dst = some dj → V j ((a.put o.dst v).tmps.getD dj undef) w' := by
      intro v w' hbw hv
      refine ⟨BH.trans hB hbw, ⟨?_, ?_, fun t ht => ?_⟩, fun j oj dj hj hoj hdj => ?_⟩
      · rw [hd]; simp only [Act.put, Array.size_setIfInBounds]; exact hF.size
      · rw [hd]; exact hF.defers
      · rw [hput, if_neg (fun e => ht i o ho (by rw [hd, e]))]
        exact hF.same t ht
      · rw [hput]
        by_cases hji : j = i
        · subst hji
          rw [ho] at hoj
          cases hoj
          rw [hd] at hdj
          cases hdj
          rw [if_pos rfl]
          exact hv
        · rw [if_neg (fun e => hdis j oj hoj hji (by rw [hdj, e]))]
          refine hV _ _ _ _ (hL j oj dj ?_ hoj hdj) hbw
          simpa [Array.getElem?_setIfInBounds, Ne.symm hji] using hj
    have hwant : Region.wanted o (yielded ops a.tmps) = want i := by
      obtain ⟨H1, _⟩ := H
      cases hgd : o.guard with
      | none =>
        rw [hgd] at H1
        rw [show want i = true from H1]
        simp [Region.wanted, hgd]
      | some jb =>
        obtain ⟨j, b⟩ := jb
        rw [hgd] at H1
        obtain ⟨hdj, oj, dj, hoj, hdst⟩ := hg j b hgd
        have hv := hdeps j oj dj hdj hoj hdst
        have h3 := H1 _ _ hv
        rw [← h3]
        have hjl : dj < a.tmps.size := by
          obtain ⟨_, _, d2, hd2, hlt2, _⟩ := hok' j oj hoj
          rw [hdst] at hd2
          cases hd2
          rw [hF.size]
          exact hlt2
        have hy : yielded ops a.tmps j = (match a.tmps.getD dj undef with | .bool c => some c | _ => none) := by
          unfold yielded
          rw [hoj]
          simp only [Option.bind_some, hdst]
          rw [Array.getD_eq_getD_getElem?, Array.getElem?_eq_getElem hjl]
          simp only [Option.getD_some]
          split <;> simp_all
        unfold Region.wanted
        simp only [hgd, hy]
        unfold isB
        split <;> simp_all
    unfold wpOp
    simp only [ho]
    rw [hwant]
    obtain ⟨_, H2⟩ := H
    cases hwi : want i with
    | true =>
      rw [hwi] at H2
      rw [if_pos rfl]
      refine .inl (Oper.wp_mono ?_ (H2 a w hB hF hdeps))
      rintro a' w' ⟨v, rfl, hv, hbw⟩
      exact hnext v w' hbw hv
    | false =>
      rw [hwi] at H2
      rw [if_neg (by simp)]
      exact hnext undef w (BH.refl _) (H2 w)
  · rintro listed a w ⟨hB, hF, hL⟩ hall
    refine hdone a w hB hF fun i o d ho hd => hL i o d (hall i ?_) ho hd
    rcases Nat.lt_or_ge i ops.size with h | h
    · exact h
    · rw [Array.getElem?_eq_none h] at ho; cases ho
  · unfold unl
    exact Nat.le_trans List.countP_le_length (by simp)
  · intro i o d hi
    simp [Array.getElem?_replicate] at hi
    split at hi <;> simp_all
end
end Go.Proofs.YtpkiheenkpcebaaGreatDoor
