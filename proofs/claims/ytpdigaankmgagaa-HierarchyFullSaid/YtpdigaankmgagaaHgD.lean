/- valid declarations. -/
import Derived.Test.YtpdigaankmgagaaHgB
import Derived.Test.YtpdigaankmgagaaTls
import Derived.Test.YtpdigaankmgagaaAsc
set_option linter.unusedVariables false
set_option linter.unusedSimpArgs false
namespace Go.Proofs.Ytpdigaankmgagaa.Sx
/-- a name for a declared type -/
def tnB (s : List UInt8) : Bool := validV 2 s 0 .nil == 0
def lastB (R : List Int) (ar : Int) : Bool := match R.getLast? with | none => true | some x => decide (x < ar)
/-- a term that a declaration with ar parameters may contain -/
def vtB (k : Int) (t : List UInt8) (o : Int) (kids : Fo) (ar : Int) : Bool :=
  (validV k t o kids == 0) && (plain1 k o kids && lastB (setI (free1 k o kids 0)) ar)
def vsB (x : Tm) (ar : Int) : Bool := (x.k == 0 || x.k == 2) && vtB x.k x.t x.o x.kids ar
/-- a declaration without fields that may be added -/
def vdB (d : De) : Bool := tnB d.name && (decide (0 ≤ d.arity) && vsB d.super d.arity)
end Go.Proofs.Ytpdigaankmgagaa.Sx
namespace Go.Proofs.Ytpdigaankmgagaa
open Go.RowKit Sx

set_option maxHeartbeats 2000000 in
set_option maxRecDepth 100000 in
theorem hTypeName (s : List UInt8) (w : World) (hs : s.length ≤ 1048576) : Calls Try.prog 26 #[.string ⟨s.toArray⟩] w fun e w' => e = .returned (.bool (tnB s)) ∧ BH w w' := by
  obtain ⟨x, hx⟩ : ∃ x, validV 2 s 0 .nil = x := ⟨_, rfl⟩
  have hC : ∀ X, Calls Try.prog 39 #[.agg #[.int .i64 2, .string ⟨s.toArray⟩, .int .i64 0, .slice none 0 0]] X fun e u => e = .returned (.int .i64 x) ∧ BH X u := fun X =>
    (validate_any 2 0 s .nil none 0 X (by decide) (kt0 _) hs trivial).mono fun e u h => ⟨by rw [h.1, hx], h.2⟩
  have HC := Lib.hid hC
  have HX := Lib.hid hx
  clear hC hx
  by_cases h0 : x = 0
  · subst h0
    go_enter Try.func26, Try.ntmps26
    go_wp2_with (fail)
    refine (HC.out _).mono ?_
    rintro e u ⟨rfl, hb⟩
    have HB := Lib.hid hb
    clear hb
    go_wp2_with (fail)
    go_ret
    exact ⟨by rw [tnB, HX.out]; rfl, HB.out⟩
  · have t1 : (x == 0) = false := by simpa using h0
    have t2 : decide (x = 0) = false := by simpa using h0
    go_enter Try.func26, Try.ntmps26
    go_wp2_with (fail)
    refine (HC.out _).mono ?_
    rintro e u ⟨rfl, hb⟩
    have HB := Lib.hid hb
    clear hb
    go_wp2_with (fail)
    go_ret
    exact ⟨by rw [tnB, HX.out, t1]; rfl, HB.out⟩

set_option maxHeartbeats 4000000 in
set_option maxRecDepth 100000 in
theorem hValidTerm (k o : Int) (t : List UInt8) (kids : Fo) (A : Option Addr) (c : Nat) (ar : Int) (w : World) (hN : fsize kids ≤ 1073741824) (hK : KT w kids A c) (ht : t.length ≤ 1048576) (hl : lenT kids) :
    Calls Try.prog 40 #[.agg #[.int .i64 k, .string ⟨t.toArray⟩, .int .i64 o, .slice A kids.len c], .int .i64 ar] w fun e w' => e = .returned (.bool (vtB k t o kids ar)) ∧ BH w w' := by
  obtain ⟨x, hx⟩ : ∃ x, validV k t o kids = x := ⟨_, rfl⟩
  obtain ⟨p, hp⟩ : ∃ p, plain1 k o kids = p := ⟨_, rfl⟩
  obtain ⟨R, hR⟩ : ∃ R, setI (free1 k o kids 0) = R := ⟨_, rfl⟩
  have hC : ∀ X, BH w X → Calls Try.prog 39 #[.agg #[.int .i64 k, .string ⟨t.toArray⟩, .int .i64 o, .slice A kids.len c]] X fun e u => e = .returned (.int .i64 x) ∧ BH X u := fun X hX =>
    (validate_any k o t kids A c X hN (hK.below hX) ht hl).mono fun e u h => ⟨by rw [h.1, hx], h.2⟩
  have hP : ∀ X, BH w X → Calls Try.prog 50 #[.agg #[.int .i64 k, .string ⟨t.toArray⟩, .int .i64 o, .slice A kids.len c]] X fun e u => e = .returned (.bool p) ∧ BH X u := fun X hX =>
    (isPlain_any k o t kids A c X hN (hK.below hX)).mono fun e u h => ⟨by rw [h.1, hp], h.2⟩
  have hF : ∀ X, BH w X → Calls Try.prog 51 #[.agg #[.int .i64 k, .string ⟨t.toArray⟩, .int .i64 o, .slice A kids.len c]] X fun e u => ∃ A' c', e = .returned (.slice A' R.length c') ∧ Cel u 1 A' R.length c' (R.map (Value.int .i64)) ∧ BH X u := fun X hX => by
    refine (freeVars_any k o t kids A c X (by omega) (hK.below hX) hR).mono ?_
    rintro e u ⟨v', rfl, ho, hb⟩
    obtain ⟨A', c', rfl, _⟩ := own_shape ho
    exact ⟨A', c', rfl, Cel.of_own ho, hb⟩
  have hRl : R.length ≤ 4294967296 := by
    have h5 := freeL_len kids k 0 0
    have h6 : (free1 k o kids 0).length ≤ fsize kids + 1 := by
      simp only [free1, List.length_append]
      split <;> simp <;> omega
    have h7 : R.length ≤ (free1 k o kids 0).length := by
      rw [← hR]
      have := insAG_len (free1 k o kids 0) ([] : List Int)
      rw [setI, set_eq lin_int]
      simpa using this
    omega
  have hV : vtB k t o kids ar = ((x == 0) && (p && lastB R ar)) := by rw [vtB, hx, hp, hR]
  obtain ⟨Z, hZ⟩ : ∃ Z, vtB k t o kids ar = Z := ⟨_, rfl⟩
  rw [hZ] at hV ⊢
  have HZ := Lib.hid hV
  have HC := Lib.hid hC
  have HP := Lib.hid hP
  have HF := Lib.hid hF
  have e1 := heap_alloc_new w (.cells #[.int .i64 k, .string ⟨t.toArray⟩, .int .i64 o, .slice A kids.len c] 31)
  have f1 := bh_alloc (BH.refl w) (.cells #[.int .i64 k, .string ⟨t.toArray⟩, .int .i64 o, .slice A kids.len c] 31)
  have HE := Lib.hid (And.intro e1 f1)
  obtain ⟨b0, b1, b2, b3, _⟩ := row4 e1
  clear hC hP hF hx hp hR hV hZ e1 f1 hK hl ht hN
  by_cases h0 : x = 0
  · subst h0
    go_enter Try.func40, Try.ntmps40
    go_wp2_with (fail)
    refine (HC.out _ HE.out.2).mono ?_
    rintro e u ⟨rfl, hb⟩
    have HB := Lib.hid (BH.trans HE.out.2 hb)
    have HN := Lib.hid ((Below.block hb _ (heap_lt HE.out.1)).trans HE.out.1)
    clear hb b0 b1 b2 b3
    obtain ⟨b0, b1, b2, b3, _⟩ := row4 HN.out
    go_wp2_with (fail)
    refine (HP.out _ HB.out).mono ?_
    rintro e u2 ⟨rfl, hb⟩
    have HB2 := Lib.hid (BH.trans HB.out hb)
    have HN2 := Lib.hid ((Below.block hb _ (heap_lt HN.out)).trans HN.out)
    clear hb b0 b1 b2 b3
    obtain ⟨b0, b1, b2, b3, _⟩ := row4 HN2.out
    cases p with
    | false =>
      go_wp2_with (fail)
      go_ret
      exact ⟨by rw [HZ.out]; rfl, HB2.out⟩
    | true =>
      go_wp2_with (fail)
      refine (HF.out _ HB2.out).mono ?_
      rintro e u3 ⟨A3, c3, rfl, hcel, hb⟩
      have HC3 := Lib.hid hcel
      have HB3 := Lib.hid (BH.trans HB2.out hb)
      clear hb hcel b0 b1 b2 b3
      obtain ⟨q, hq⟩ : ∃ q, lastB R ar = q := ⟨_, rfl⟩
      rw [hq] at HZ
      by_cases hRR : R = []
      · subst hRR
        have hq' : q = true := by rw [← hq]; rfl
        subst hq'
        clear hq
        go_wp2_with (fail)
        go_ret
        exact ⟨by rw [HZ.out]; rfl, HB3.out⟩
      · have hlen : 0 < R.length := List.length_pos_iff.2 hRR
        obtain ⟨m, hm⟩ : ∃ m, R.length = m + 1 := ⟨R.length - 1, by omega⟩
        obtain ⟨g, off, rfl, hg, q0⟩ := HC3.out.int_at (k := m) (by omega)
        have hqz : q = decide (R.getD m 0 < ar) := by
          rw [← hq, lastB, List.getLast?_eq_getElem?, List.getElem?_eq_getElem (by omega), List.getD_eq_getElem?_getD, List.getElem?_eq_getElem (by omega)]
          simp [hm]
        obtain ⟨z, hz⟩ : ∃ z, R.getD m 0 = z := ⟨_, rfl⟩
        rw [hz] at q0 hqz
        subst hqz
        rw [hm]
        have t1 : decide (((m + 1 : Nat) : Int) = 0) = false := by rw [decide_eq_false_iff_not]; omega
        have t2 : (((m + 1 : Nat) : Int) == 0) = false := by rw [beq_eq_false_iff_ne]; omega
        have w1 : IntKind.i64.wrap (((m + 1 : Nat) : Int) - 1) = (m : Int) := (IntKind.wrap_i64 _).trans (by omega)
        have w2 : ((m + 1 : Nat) : Int) - 1 = (m : Int) := by omega
        have w3 : (m : Int) < ((m + 1 : Nat) : Int) := by omega
        have w4 : (0 : Int) ≤ (m : Int) := by omega
        have w5 : wrap64 (m : Int) = (m : Int) := wrap64_in (by omega) (by omega)
        obtain ⟨L, hL⟩ : ∃ L, m + 1 = L := ⟨_, rfl⟩
        rw [hL] at t1 t2 w1 w2 w3 ⊢
        clear hRR hq hz hlen hL hm
        by_cases hza : z < ar
        · have t3 : decide (z < ar) = true := by simpa using hza
          go_wp2_with (fail)
          go_ret
          exact ⟨by rw [HZ.out, t3]; rfl, HB3.out⟩
        · have t3 : decide (z < ar) = false := by simpa using hza
          go_wp2_with (fail)
          go_ret
          exact ⟨by rw [HZ.out, t3]; rfl, HB3.out⟩
  · have t1 : (x == 0) = false := by simpa using h0
    have t2 : decide (x = 0) = false := by simpa using h0
    go_enter Try.func40, Try.ntmps40
    go_wp2_with (fail)
    refine (HC.out _ HE.out.2).mono ?_
    rintro e u ⟨rfl, hb⟩
    have HB := Lib.hid (BH.trans HE.out.2 hb)
    clear hb b0 b1 b2 b3
    go_wp2_with (fail)
    go_ret
    exact ⟨by rw [HZ.out, t1]; rfl, HB.out⟩
end Go.Proofs.Ytpdigaankmgagaa
namespace Go.Proofs.Ytpdigaankmgagaa
open Go.RowKit Sx

set_option maxHeartbeats 4000000 in
set_option maxRecDepth 100000 in
theorem hValidSuper (n : List UInt8) (ar k o : Int) (t : List UInt8) (kids : Fo) (A : Option Addr) (c : Nat) (cc : Bool) (w : World) (hN : fsize kids ≤ 1073741824) (hK : KT w kids A c) (ht : t.length ≤ 1048576) (hl : lenT kids) :
    Calls Try.prog 27 #[.agg #[.string ⟨n.toArray⟩, .int .i64 ar, .int .i64 k, .string ⟨t.toArray⟩, .int .i64 o, .slice A kids.len c, .bool cc, .slice none 0 0]] w fun e w' => e = .returned (.bool (vsB ⟨k, t, kids, o⟩ ar)) ∧ BH w w' := by
  obtain ⟨p, hp⟩ : ∃ p, vtB k t o kids ar = p := ⟨_, rfl⟩
  have hC : ∀ X, BH w X → Calls Try.prog 40 #[.agg #[.int .i64 k, .string ⟨t.toArray⟩, .int .i64 o, .slice A kids.len c], .int .i64 ar] X fun e u => e = .returned (.bool p) ∧ BH X u := fun X hX =>
    (hValidTerm k o t kids A c ar X hN (hK.below hX) ht hl).mono fun e u h => ⟨by rw [h.1, hp], h.2⟩
  have hV : vsB ⟨k, t, kids, o⟩ ar = ((k == 0 || k == 2) && p) := by rw [vsB]; simp only [hp]
  obtain ⟨Z, hZ⟩ : ∃ Z, vsB ⟨k, t, kids, o⟩ ar = Z := ⟨_, rfl⟩
  rw [hZ] at hV ⊢
  have HZ := Lib.hid hV
  have HC := Lib.hid hC
  have e1 := heap_alloc_new w (.cells #[.string ⟨n.toArray⟩, .int .i64 ar, .int .i64 k, .string ⟨t.toArray⟩, .int .i64 o, .slice A kids.len c, .bool cc, .slice none 0 0] 34)
  have f1 := bh_alloc (BH.refl w) (.cells #[.string ⟨n.toArray⟩, .int .i64 ar, .int .i64 k, .string ⟨t.toArray⟩, .int .i64 o, .slice A kids.len c, .bool cc, .slice none 0 0] 34)
  have HF := Lib.hid f1
  obtain ⟨⟨r0, r1, r2, r3, r4, r5, r6, r7⟩, _⟩ := row8 e1
  clear hC hp hV hZ hK ht hl hN e1 f1
  by_cases h0 : k = 0
  · subst h0
    go_enter Try.func27, Try.ntmps27
    go_wp2_with (fail)
    refine (HC.out _ HF.out).mono ?_
    rintro e u ⟨rfl, hb⟩
    have HB := Lib.hid (BH.trans HF.out hb)
    clear hb r0 r1 r2 r3 r4 r5 r6 r7
    go_wp2_with (fail)
    go_ret
    exact ⟨by rw [HZ.out]; rfl, HB.out⟩
  · have t1 : (k == 0) = false := by simpa using h0
    have t2 : decide (k = 0) = false := by simpa using h0
    by_cases h2 : k = 2
    · subst h2
      go_enter Try.func27, Try.ntmps27
      go_wp2_with (fail)
      refine (HC.out _ HF.out).mono ?_
      rintro e u ⟨rfl, hb⟩
      have HB := Lib.hid (BH.trans HF.out hb)
      clear hb r0 r1 r2 r3 r4 r5 r6 r7
      go_wp2_with (fail)
      go_ret
      exact ⟨by rw [HZ.out]; rfl, HB.out⟩
    · have t3 : (k == 2) = false := by simpa using h2
      have t4 : decide (k = 2) = false := by simpa using h2
      go_enter Try.func27, Try.ntmps27
      go_wp2_with (fail)
      go_ret
      exact ⟨by rw [HZ.out, t1, t3]; rfl, HF.out⟩

set_option maxHeartbeats 4000000 in
set_option maxRecDepth 100000 in
theorem hValid0 (d : De) (A : Option Addr) (c : Nat) (w : World) (hn : d.name.length ≤ 1048576) (hN : fsize d.super.kids ≤ 1073741824) (hK : KT w d.super.kids A c) (ht : d.super.t.length ≤ 1048576) (hl : lenT d.super.kids) :
    Calls Try.prog 15 #[.agg #[.string ⟨d.name.toArray⟩, .int .i64 d.arity, .int .i64 d.super.k, .string ⟨d.super.t.toArray⟩, .int .i64 d.super.o, .slice A d.super.kids.len c, .bool d.conc, .slice none 0 0]] w fun e w' => e = .returned (.bool (vdB d)) ∧ BH w w' := by
  obtain ⟨n, ar, ⟨k, t, kids, o⟩, cc, fs⟩ := d
  simp only at *
  obtain ⟨p, hp⟩ : ∃ p, tnB n = p := ⟨_, rfl⟩
  obtain ⟨q, hq⟩ : ∃ q, vsB ⟨k, t, kids, o⟩ ar = q := ⟨_, rfl⟩
  have hC : ∀ X, BH w X → Calls Try.prog 26 #[.string ⟨n.toArray⟩] X fun e u => e = .returned (.bool p) ∧ BH X u := fun X hX =>
    (hTypeName n X hn).mono fun e u h => ⟨by rw [h.1, hp], h.2⟩
  have hD : ∀ X, BH w X → Calls Try.prog 27 #[.agg #[.string ⟨n.toArray⟩, .int .i64 ar, .int .i64 k, .string ⟨t.toArray⟩, .int .i64 o, .slice A kids.len c, .bool cc, .slice none 0 0]] X fun e u => e = .returned (.bool q) ∧ BH X u := fun X hX =>
    (hValidSuper n ar k o t kids A c cc X hN (hK.below hX) ht hl).mono fun e u h => ⟨by rw [h.1, hq], h.2⟩
  have hV : vdB ⟨n, ar, ⟨k, t, kids, o⟩, cc, fs⟩ = (p && (decide (0 ≤ ar) && q)) := by rw [vdB]; simp only [hp, hq]
  obtain ⟨Z, hZ⟩ : ∃ Z, vdB ⟨n, ar, ⟨k, t, kids, o⟩, cc, fs⟩ = Z := ⟨_, rfl⟩
  rw [hZ] at hV ⊢
  have HZ := Lib.hid hV
  have HC := Lib.hid hC
  have HD := Lib.hid hD
  have e1 := heap_alloc_new w (.cells #[.string ⟨n.toArray⟩, .int .i64 ar, .int .i64 k, .string ⟨t.toArray⟩, .int .i64 o, .slice A kids.len c, .bool cc, .slice none 0 0] 34)
  have f1 := bh_alloc (BH.refl w) (.cells #[.string ⟨n.toArray⟩, .int .i64 ar, .int .i64 k, .string ⟨t.toArray⟩, .int .i64 o, .slice A kids.len c, .bool cc, .slice none 0 0] 34)
  have HF := Lib.hid (And.intro e1 f1)
  obtain ⟨⟨r0, r1, r2, r3, r4, r5, r6, r7⟩, _⟩ := row8 e1
  clear hC hD hp hq hV hZ hK ht hl hN hn e1 f1
  go_enter Try.func15, Try.ntmps15
  go_wp2_with (fail)
  refine (HC.out _ HF.out.2).mono ?_
  rintro e u ⟨rfl, hb⟩
  have HB := Lib.hid (BH.trans HF.out.2 hb)
  have HN := Lib.hid ((Below.block hb _ (heap_lt HF.out.1)).trans HF.out.1)
  clear hb r0 r1 r2 r3 r4 r5 r6 r7
  obtain ⟨⟨r0, r1, r2, r3, r4, r5, r6, r7⟩, _⟩ := row8 HN.out
  cases p with
  | false =>
    go_wp2_with (fail)
    go_ret
    exact ⟨by rw [HZ.out]; rfl, HB.out⟩
  | true =>
    by_cases ha : ar < 0
    · have t1 : decide (ar < 0) = true := by simpa using ha
      have t2 : decide (0 ≤ ar) = false := by rw [decide_eq_false_iff_not]; omega
      go_wp2_with (fail)
      go_ret
      exact ⟨by rw [HZ.out, t2]; rfl, HB.out⟩
    · have t1 : decide (ar < 0) = false := by simpa using ha
      have t2 : decide (0 ≤ ar) = true := by rw [decide_eq_true_eq]; omega
      go_wp2_with (fail)
      refine (HD.out _ HB.out).mono ?_
      rintro e u2 ⟨rfl, hb⟩
      have HB2 := Lib.hid (BH.trans HB.out hb)
      have HN2 := Lib.hid ((Below.block hb _ (heap_lt HN.out)).trans HN.out)
      clear hb r0 r1 r2 r3 r4 r5 r6 r7
      obtain ⟨⟨r0, r1, r2, r3, r4, r5, r6, r7⟩, _⟩ := row8 HN2.out
      cases q with
      | false =>
        go_wp2_with (fail)
        go_ret
        exact ⟨by rw [HZ.out, t2]; rfl, HB2.out⟩
      | true =>
        go_wp2_with (fail)
        go_ret
        exact ⟨by rw [HZ.out, t2]; rfl, HB2.out⟩
end Go.Proofs.Ytpdigaankmgagaa
