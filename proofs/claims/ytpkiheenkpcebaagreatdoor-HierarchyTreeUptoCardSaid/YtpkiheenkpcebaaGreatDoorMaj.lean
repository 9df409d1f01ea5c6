/- hierarchy.isTypeName, isValidTerm, isValidSuper, isValid of declarations without fields. No condition but bounded sizes. Closed terms, pure. No condition. -/
import Derived.Test.YtpkiheenkpcebaaGreatDoorMag
import Derived.Test.YtpkiheenkpcebaaGreatDoorMai
import Derived.Test.YtpkiheenkpcebaaGreatDoorMab
import Derived.Test.YtpkiheenkpcebaaGreatDoorMae
set_option linter.unusedVariables false
set_option linter.unusedSimpArgs false
namespace Go.Proofs.YtpkiheenkpcebaaGreatDoor.Sx
/-- a name for a declared type -/
def tnB (s : List UInt8) : Bool := validV 2 s 0 .nil == 0
def lastB (R : List Int) (ar : Int) : Bool := match R.getLast? with | none => true | some x => decide (x < ar)
/-- a term that a declaration with ar parameters may contain -/
def vtB (k : Int) (t : List UInt8) (o : Int) (kids : Fo) (ar : Int) : Bool :=
  (validV k t o kids == 0) && (plain1 k o kids && lastB (setI (free1 k o kids 0)) ar)
def vsB (x : Tm) (ar : Int) : Bool := (x.k == 0 || x.k == 2) && vtB x.k x.t x.o x.kids ar
/-- fields that a declaration with ar parameters may have, after fields of the names seen -/
def avL (ar : Int) : List (List UInt8 × Tm) → List (List UInt8) → Bool
  | [], _ => true
  | f :: fs, seen => identC f.1 && (!seen.contains f.1 && (vtB f.2.k f.2.t f.2.o f.2.kids ar && avL ar fs (seen ++ [f.1])))
/-- a declaration that may be added -/
def vdB (d : De) : Bool := tnB d.name && (decide (0 ≤ d.arity) && (vsB d.super d.arity && (decide (d.fields.length = 0) || (d.conc && avL d.arity d.fields []))))
end Go.Proofs.YtpkiheenkpcebaaGreatDoor.Sx
namespace Go.Proofs.YtpkiheenkpcebaaGreatDoor
open Go.RowKit Sx

set_option maxHeartbeats 2000000 in
set_option maxRecDepth 100000 in
theorem hTypeName (s : List UInt8) (w : World) (hs : s.length ≤ 1048576) : Calls Tryz.prog 79 #[.string ⟨s.toArray⟩] w fun e w' => e = .returned (.bool (tnB s)) ∧ BH w w' := by
  obtain ⟨x, hx⟩ : ∃ x, validV 2 s 0 .nil = x := ⟨_, rfl⟩
  have hC : ∀ X, Calls Tryz.prog 108 #[.agg #[.int .i64 2, .string ⟨s.toArray⟩, .int .i64 0, .slice none 0 0]] X fun e u => e = .returned (.int .i64 x) ∧ BH X u := fun X =>
    (validate_any 2 0 s .nil none 0 X (by decide) (kt0 _) hs trivial).mono fun e u h => ⟨by rw [h.1, hx], h.2⟩
  have HC := Lib.hid hC
  have HX := Lib.hid hx
  clear hC hx
  by_cases h0 : x = 0
  · subst h0
    go_enter Tryz.func79, Tryz.ntmps79
    go_wp2_with (fail)
    refine (HC.out _).mono ?_
    rintro e u ⟨rfl, hb⟩
    have HB := Lib.hid hb
    clear hb
    go_wp2_with (fail)
    go_ret
    exact ⟨by rw [tnB, HX.out]; rfl, HB.out⟩
  · have t1 : (x == 0) = false := by simpa using h0
    have t2 : decide (x = 0) = false := by simpa using h0
    go_enter Tryz.func79, Tryz.ntmps79
    go_wp2_with (fail)
    refine (HC.out _).mono ?_
    rintro e u ⟨rfl, hb⟩
    have HB := Lib.hid hb
    clear hb
    go_wp2_with (fail)
    go_ret
    exact ⟨by rw [tnB, HX.out, t1]; rfl, HB.out⟩

set_option maxHeartbeats 4000000 in
set_option maxRecDepth 100000 in
theorem hValidTerm (k o : Int) (t : List UInt8) (kids : Fo) (A : Option Addr) (c : Nat) (ar : Int) (w : World) (hN : fsize kids ≤ 1073741824) (hK : KT w kids A c) (ht : t.length ≤ 1048576) (hl : lenT kids) :
    Calls Tryz.prog 109 #[.agg #[.int .i64 k, .string ⟨t.toArray⟩, .int .i64 o, .slice A kids.len c], .int .i64 ar] w fun e w' => e = .returned (.bool (vtB k t o kids ar)) ∧ BH w w' := by
  obtain ⟨x, hx⟩ : ∃ x, validV k t o kids = x := ⟨_, rfl⟩
  obtain ⟨p, hp⟩ : ∃ p, plain1 k o kids = p := ⟨_, rfl⟩
  obtain ⟨R, hR⟩ : ∃ R, setI (free1 k o kids 0) = R := ⟨_, rfl⟩
  have hC : ∀ X, BH w X → Calls Tryz.prog 108 #[.agg #[.int .i64 k, .string ⟨t.toArray⟩, .int .i64 o, .slice A kids.len c]] X fun e u => e = .returned (.int .i64 x) ∧ BH X u := fun X hX =>
    (validate_any k o t kids A c X hN (hK.below hX) ht hl).mono fun e u h => ⟨by rw [h.1, hx], h.2⟩
  have hP : ∀ X, BH w X → Calls Tryz.prog 131 #[.agg #[.int .i64 k, .string ⟨t.toArray⟩, .int .i64 o, .slice A kids.len c]] X fun e u => e = .returned (.bool p) ∧ BH X u := fun X hX =>
    (isPlain_any k o t kids A c X hN (hK.below hX)).mono fun e u h => ⟨by rw [h.1, hp], h.2⟩
  have hF : ∀ X, BH w X → Calls Tryz.prog 132 #[.agg #[.int .i64 k, .string ⟨t.toArray⟩, .int .i64 o, .slice A kids.len c]] X fun e u => ∃ A' c', e = .returned (.slice A' R.length c') ∧ Cel u 1 A' R.length c' (R.map (Value.int .i64)) ∧ BH X u := fun X hX => by
    refine (freeVars_any k o t kids A c X (by omega) (hK.below hX) hR).mono ?_
    rintro e u ⟨v', rfl, ho, hb⟩
    obtain ⟨A', c', rfl, _⟩ := own_shape ho
    exact ⟨A', c', rfl, Cel.of_own ho, hb⟩
  have hRl : R.length ≤ 4294967296 := by
    have h5 := freeL_len kids k 0 0
    have h6 : (free1 k o kids 0).length ≤ fsize kids + 1 := by
      simp only [free1, List.length_append]
      split <;> simp <;> omega
    have h7 : R.length ≤ (free1 k o kids 0).length := by
      rw [← hR]
      have := insAG_len (free1 k o kids 0) ([] : List Int)
      rw [setI, set_eq lin_int]
      simpa using this
    omega
  have hV : vtB k t o kids ar = ((x == 0) && (p && lastB R ar)) := by rw [vtB, hx, hp, hR]
  obtain ⟨Z, hZ⟩ : ∃ Z, vtB k t o kids ar = Z := ⟨_, rfl⟩
  rw [hZ] at hV ⊢
  have HZ := Lib.hid hV
  have HC := Lib.hid hC
  have HP := Lib.hid hP
  have HF := Lib.hid hF
  have e1 := heap_alloc_new w (.cells #[.int .i64 k, .string ⟨t.toArray⟩, .int .i64 o, .slice A kids.len c] 34)
  have f1 := bh_alloc (BH.refl w) (.cells #[.int .i64 k, .string ⟨t.toArray⟩, .int .i64 o, .slice A kids.len c] 34)
  have HE := Lib.hid (And.intro e1 f1)
  obtain ⟨b0, b1, b2, b3, _⟩ := row4 e1
  clear hC hP hF hx hp hR hV hZ e1 f1 hK hl ht hN
  by_cases h0 : x = 0
  · subst h0
    go_enter Tryz.func109, Tryz.ntmps109
    go_wp2_with (fail)
    refine (HC.out _ HE.out.2).mono ?_
    rintro e u ⟨rfl, hb⟩
    have HB := Lib.hid (BH.trans HE.out.2 hb)
    have HN := Lib.hid ((Below.block hb _ (heap_lt HE.out.1)).trans HE.out.1)
    clear hb b0 b1 b2 b3
    obtain ⟨b0, b1, b2, b3, _⟩ := row4 HN.out
    go_wp2_with (fail)
    refine (HP.out _ HB.out).mono ?_
    rintro e u2 ⟨rfl, hb⟩
    have HB2 := Lib.hid (BH.trans HB.out hb)
    have HN2 := Lib.hid ((Below.block hb _ (heap_lt HN.out)).trans HN.out)
    clear hb b0 b1 b2 b3
    obtain ⟨b0, b1, b2, b3, _⟩ := row4 HN2.out
    cases p with
    | false =>
      go_wp2_with (fail)
      go_ret
      exact ⟨by rw [HZ.out]; rfl, HB2.out⟩
    | true =>
      go_wp2_with (fail)
      refine (HF.out _ HB2.out).mono ?_
      rintro e u3 ⟨A3, c3, rfl, hcel, hb⟩
      have HC3 := Lib.hid hcel
      have HB3 := Lib.hid (BH.trans HB2.out hb)
      clear hb hcel b0 b1 b2 b3
      obtain ⟨q, hq⟩ : ∃ q, lastB R ar = q := ⟨_, rfl⟩
      rw [hq] at HZ
      by_cases hRR : R = []
      · subst hRR
        have hq' : q = true := by rw [← hq]; rfl
        subst hq'
        clear hq
        go_wp2_with (fail)
        go_ret
        exact ⟨by rw [HZ.out]; rfl, HB3.out⟩
      · have hlen : 0 < R.length := List.length_pos_iff.2 hRR
        obtain ⟨m, hm⟩ : ∃ m, R.length = m + 1 := ⟨R.length - 1, by omega⟩
        obtain ⟨g, off, rfl, hg, q0⟩ := HC3.out.int_at (k := m) (by omega)
        have hqz : q = decide (R.getD m 0 < ar) := by
          rw [← hq, lastB, List.getLast?_eq_getElem?, List.getElem?_eq_getElem (by omega), List.getD_eq_getElem?_getD, List.getElem?_eq_getElem (by omega)]
          simp [hm]
        obtain ⟨z, hz⟩ : ∃ z, R.getD m 0 = z := ⟨_, rfl⟩
        rw [hz] at q0 hqz
        subst hqz
        rw [hm]
        have t1 : decide (((m + 1 : Nat) : Int) = 0) = false := by rw [decide_eq_false_iff_not]; omega
        have t2 : (((m + 1 : Nat) : Int) == 0) = false := by rw [beq_eq_false_iff_ne]; omega
        have w1 : IntKind.i64.wrap (((m + 1 : Nat) : Int) - 1) = (m : Int) := (IntKind.wrap_i64 _).trans (by omega)
        have w2 : ((m + 1 : Nat) : Int) - 1 = (m : Int) := by omega
        have w3 : (m : Int) < ((m + 1 : Nat) : Int) := by omega
        have w4 : (0 : Int) ≤ (m : Int) := by omega
        have w5 : wrap64 (m : Int) = (m : Int) := wrap64_in (by omega) (by omega)
        obtain ⟨L, hL⟩ : ∃ L, m + 1 = L := ⟨_, rfl⟩
        rw [hL] at t1 t2 w1 w2 w3 ⊢
        clear hRR hq hz hlen hL hm
        by_cases hza : z < ar
        · have t3 : decide (z < ar) = true := by simpa using hza
          go_wp2_with (fail)
          go_ret
          exact ⟨by rw [HZ.out, t3]; rfl, HB3.out⟩
        · have t3 : decide (z < ar) = false := by simpa using hza
          go_wp2_with (fail)
          go_ret
          exact ⟨by rw [HZ.out, t3]; rfl, HB3.out⟩
  · have t1 : (x == 0) = false := by simpa using h0
    have t2 : decide (x = 0) = false := by simpa using h0
    go_enter Tryz.func109, Tryz.ntmps109
    go_wp2_with (fail)
    refine (HC.out _ HE.out.2).mono ?_
    rintro e u ⟨rfl, hb⟩
    have HB := Lib.hid (BH.trans HE.out.2 hb)
    clear hb b0 b1 b2 b3
    go_wp2_with (fail)
    go_ret
    exact ⟨by rw [HZ.out, t1]; rfl, HB.out⟩
end Go.Proofs.YtpkiheenkpcebaaGreatDoor
namespace Go.Proofs.YtpkiheenkpcebaaGreatDoor.Sx
theorem closedL_any (f : Fo) : ∀ (pk : Int) (i : Nat) (b : Int), pk ≠ 6 → closedL pk i b f = closedL 0 0 b f := by
  induction f with
  | nil => intros; rfl
  | cons k t kids o r _ ih =>
    intro pk i b h
    have e : ∀ (p : Int) (j : Nat), p ≠ 6 → aroundB p j b = b := fun p j hp => by simp [aroundB, hp]
    rw [closedL_cons, closedL_cons, e pk i h, e 0 0 (by decide), ih pk (i + 1) b h, ih 0 (0 + 1) b (by decide)]
theorem closedL_app (f g : Fo) (b : Int) : closedL 0 0 b (f.app g) = (closedL 0 0 b f && closedL 0 0 b g) := by
  induction f with
  | nil => simp [Fo.app, closedL]
  | cons k t kids o r _ ih =>
    show closedL 0 0 b (.cons k t kids o (r.app g)) = _
    rw [closedL_cons, closedL_cons, closedL_any _ 0 (0 + 1) b (by decide), closedL_any r 0 (0 + 1) b (by decide), ih, Bool.and_assoc]
theorem aroundB_mono {a b : Int} (h : a ≤ b) (k : Int) (i : Nat) : aroundB k i a ≤ aroundB k i b := by unfold aroundB; split <;> omega
theorem closedL_mono (f : Fo) : ∀ (pk : Int) (i : Nat) (a b : Int), a ≤ b → closedL pk i a f = true → closedL pk i b f = true := by
  induction f with
  | nil => intros; rfl
  | cons k t kids o r ih1 ih2 =>
    intro pk i a b h hc
    have hm := aroundB_mono h pk i
    simp only [closedL, Bool.and_eq_true, Bool.not_eq_true'] at hc ⊢
    refine ⟨⟨?_, ih1 k 0 _ _ hm hc.1.2⟩, ih2 pk (i + 1) a b h hc.2⟩
    have := hc.1.1
    simp only [freeB, Bool.and_eq_false_iff, decide_eq_false_iff_not] at this ⊢
    rcases this with h1 | h1
    · exact .inl h1
    · exact .inr (by omega)
theorem closed1_mono {k o : Int} {kids : Fo} {a b : Int} (h : a ≤ b) (hc : closed1 k o kids a = true) : closed1 k o kids b = true := by
  have := closedL_mono (.one k [] kids o) 0 0 a b h (by rw [Fo.one, closedL_cons]; simpa [closedL, aroundB] using hc)
  rw [Fo.one, closedL_cons] at this
  simpa [closedL, aroundB] using this
theorem closed1_kids {k o : Int} {kids : Fo} {b : Int} (h6 : k ≠ 6) (h5 : k ≠ 5) (h : closedL 0 0 b kids = true) : closed1 k o kids b = true := by
  rw [closed1, closedL_any _ k 0 b h6, h]
  simp [freeB, h5]
theorem closed1_var {o b : Int} (h : o < b) : closed1 5 o .nil b = true := by
  simp [closed1, freeB, closedL]
  omega
theorem closed1_one {k o : Int} {t : List UInt8} {kids : Fo} {b : Int} (h : closed1 k o kids b = true) : closedL 0 0 b (.one k t kids o) = true := by
  rw [Fo.one, closedL_cons]
  simpa [closedL, aroundB] using h
theorem closed1_ex {k1 o1 k2 o2 : Int} {t1 t2 : List UInt8} {f1 f2 : Fo} {o b : Int} (h1 : closed1 k1 o1 f1 b = true) (h2 : closed1 k2 o2 f2 (b + 1) = true) : closed1 6 o (.cons k1 t1 f1 o1 (.cons k2 t2 f2 o2 .nil)) b = true := by
  rw [closed1, closedL_cons, closedL_cons]
  simp [aroundB, closedL, h1, h2, freeB]
theorem lenT_app (f g : Fo) (hf : lenT f) (hg : lenT g) : lenT (f.app g) := by
  induction f with
  | nil => exact hg
  | cons k t kids o r _ ih => exact ⟨hf.1, hf.2.1, ih hf.2.2⟩
/-- a variable has no arguments -/
def barV (k : Int) (kids : Fo) : Prop := k = 5 → kids = .nil
theorem bar_nil (k : Int) : barV k .nil := fun _ => rfl
theorem bar_ne {k : Int} {kids : Fo} (h : k ≠ 5) : barV k kids := fun e => absurd e h
/-- names are short, variables have no arguments -/
def lenG : Fo → Prop
  | .nil => True
  | .cons k t kids _ rest => (t.length ≤ 1048576 ∧ barV k kids) ∧ lenG kids ∧ lenG rest
theorem lenG_app (f g : Fo) (hf : lenG f) (hg : lenG g) : lenG (f.app g) := by
  induction f with
  | nil => exact hg
  | cons k t kids o r _ ih => exact ⟨hf.1, hf.2.1, ih hf.2.2⟩
theorem lenG_lenT (f : Fo) (h : lenG f) : lenT f := by
  induction f with
  | nil => trivial
  | cons k t kids o r ih1 ih2 => exact ⟨h.1.1, ih1 h.2.1, ih2 h.2.2⟩
end Go.Proofs.YtpkiheenkpcebaaGreatDoor.Sx
