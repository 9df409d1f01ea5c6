/- sexpr.Valid at any node with short texts of printable bytes. No condition but a bounded size. -/
import Derived.Test.YtpflfbfbjmoggaaDoorVaB
import Derived.Test.YtpflfbfbjmoggaaDoorVlp
set_option linter.unusedVariables false
set_option linter.unusedSimpArgs false
namespace Go.Proofs.YtpflfbfbjmoggaaDoor
open Go.RowKit Sx

theorem str_ne {a : UInt8} {l : List UInt8} : ∃ s : ByteArray, (⟨(a :: l).toArray⟩ : ByteArray) = s ∧ ¬ s.toList = [] ∧ s.toList.isEmpty = false := by
  refine ⟨_, rfl, ?_, ?_⟩
  · exact toList_ne _ (by show 1 ≤ (a :: l).toArray.size; simp)
  · have := toList_ne ⟨(a :: l).toArray⟩ (by show 1 ≤ (a :: l).toArray.size; simp)
    cases h : (⟨(a :: l).toArray⟩ : ByteArray).toList with
    | nil => exact absurd h this
    | cons a b => rfl

set_option maxHeartbeats 4000000 in
set_option maxRecDepth 100000 in
theorem validWithin_any (N : Nat) : ∀ (k o : Int) (t : List UInt8) (kids : Fo) (A : Option Addr) (c : Nat) (ys : List Value) (S : Nat → Prop) (room : Nat) (w : World), fsize kids ≤ N → fsize kids ≤ 1073741824 → readsAt w S A kids.len ys → rowOf w S kids ys →
    okS t = true → allS kids → room ≤ 40 →
    Calls Tryd.prog 59 #[.agg #[.int .i64 k, .string ⟨t.toArray⟩, .slice A kids.len c, .int .i64 o], .int .i64 (room : Int)] w fun e w' => e = .returned (.bool (valid1 room k t kids)) ∧ Below w.heap.size w w' := by
  induction N using Nat.strongRecOn with
  | ind N ih =>
  intro k o t kids A c ys S room w hN hN2 hra hxa hs ha hroom
  have IH := Lib.hid ih
  clear ih
  have hlen := len_le_fsize kids
  by_cases hk1 : k = 1
  · subst hk1
    rw [show valid1 room 1 t kids = (kids.isNil && okW t) from rfl]
    have Hl := Lib.hid (okS_len hs)
    clear hra hxa ha hs
    cases kids with
    | nil =>
      cases hw : okW t with
      | true =>
        have Hw := Lib.hid (fun W => isWord_yes ⟨t.toArray⟩ W (by simpa using hw))
        have hbx := heap_alloc_new w (.cells #[.int .i64 1, .string ⟨t.toArray⟩, .slice A 0 c, .int .i64 o] 31 (0, 0))
        obtain ⟨b0, b1, b2, b3, z0, z1, z2, z3⟩ := row4 hbx
        clear hbx hw
        simp only [Fo.len] at *
        go_enter Tryd.func59, Tryd.ntmps59
        go_wp2_with (go_at_call 92; refine (Hw.out _).mono ?_; rintro e1 w1 ⟨rfl, rfl⟩)
        go_ret
        exact ⟨rfl, (Below.refl _ _).alloc (Nat.le_refl _) _⟩
      | false =>
        have hw0 := fun W => isWord_all ⟨t.toArray⟩ W (by have := Hl.out; show t.toArray.size ≤ _; simp; omega)
        rw [show (⟨t.toArray⟩ : ByteArray).data.toList = t from by simp, hw] at hw0
        have Hw := Lib.hid hw0
        have hbx := heap_alloc_new w (.cells #[.int .i64 1, .string ⟨t.toArray⟩, .slice A 0 c, .int .i64 o] 31 (0, 0))
        obtain ⟨b0, b1, b2, b3, z0, z1, z2, z3⟩ := row4 hbx
        clear hbx hw hw0
        simp only [Fo.len] at *
        go_enter Tryd.func59, Tryd.ntmps59
        go_wp2_with (go_at_call 92; refine (Hw.out _).mono ?_; rintro e1 w1 ⟨rfl, rfl⟩)
        go_ret
        exact ⟨rfl, (Below.refl _ _).alloc (Nat.le_refl _) _⟩
    | cons k1 t1 kids1 o1 r1 =>
      obtain ⟨L, hL⟩ : ∃ L, (Fo.cons k1 t1 kids1 o1 r1).len = L + 1 := ⟨_, rfl⟩
      rw [hL]
      rw [hL] at hlen
      have hL1 : decide (L + 1 = 0) = false := by simp
      have hL2 : (((L : Int) + 1) == 0) = false := by rw [beq_eq_false_iff_ne]; omega
      have hL3 : ((((L + 1 : Nat) : Int)) == 0) = false := by simp; omega
      have hbx := heap_alloc_new w (.cells #[.int .i64 1, .string ⟨t.toArray⟩, .slice A (L + 1) c, .int .i64 o] 31 (0, 0))
      obtain ⟨b0, b1, b2, b3, z0, z1, z2, z3⟩ := row4 hbx
      have HL := Lib.hid hL
      clear hbx hL
      go_enter Tryd.func59, Tryd.ntmps59
      go_wp2_with (fail)
      go_ret
      exact ⟨rfl, (Below.refl _ _).alloc (Nat.le_refl _) _⟩
  by_cases hk2 : k = 2
  · subst hk2
    rw [show valid1 room 2 t kids = (kids.isNil && okT t) from rfl, okT_of_okS hs]
    have Hw := Lib.hid (fun W => isStringValue_yes ⟨t.toArray⟩ W (by simpa using hs))
    clear hra hxa ha hs
    cases kids with
    | nil =>
      have hbx := heap_alloc_new w (.cells #[.int .i64 2, .string ⟨t.toArray⟩, .slice A 0 c, .int .i64 o] 31 (0, 0))
      obtain ⟨b0, b1, b2, b3, z0, z1, z2, z3⟩ := row4 hbx
      clear hbx
      simp only [Fo.len] at *
      go_enter Tryd.func59, Tryd.ntmps59
      go_wp2_with (go_at_call 93; refine (Hw.out _).mono ?_; rintro e1 w1 ⟨rfl, rfl⟩)
      go_ret
      exact ⟨rfl, (Below.refl _ _).alloc (Nat.le_refl _) _⟩
    | cons k1 t1 kids1 o1 r1 =>
      obtain ⟨L, hL⟩ : ∃ L, (Fo.cons k1 t1 kids1 o1 r1).len = L + 1 := ⟨_, rfl⟩
      rw [hL]
      rw [hL] at hlen
      have hL1 : decide (L + 1 = 0) = false := by simp
      have hL2 : (((L : Int) + 1) == 0) = false := by rw [beq_eq_false_iff_ne]; omega
      have hL3 : ((((L + 1 : Nat) : Int)) == 0) = false := by simp; omega
      have hbx := heap_alloc_new w (.cells #[.int .i64 2, .string ⟨t.toArray⟩, .slice A (L + 1) c, .int .i64 o] 31 (0, 0))
      obtain ⟨b0, b1, b2, b3, z0, z1, z2, z3⟩ := row4 hbx
      have HL := Lib.hid hL
      clear hbx hL
      go_enter Tryd.func59, Tryd.ntmps59
      go_wp2_with (fail)
      go_ret
      exact ⟨rfl, (Below.refl _ _).alloc (Nat.le_refl _) _⟩
  have hk1' : (k == 1) = false := by simp [hk1]
  have hk2' : (k == 2) = false := by simp [hk2]
  by_cases hk3 : ¬ k = 3
  · rw [valid1_else hk1 hk2 hk3]
    have hk3' : (k == 3) = false := by simp [hk3]
    have hbx := heap_alloc_new w (.cells #[.int .i64 k, .string ⟨t.toArray⟩, .slice A kids.len c, .int .i64 o] 31 (0, 0))
    obtain ⟨b0, b1, b2, b3, z0, z1, z2, z3⟩ := row4 hbx
    clear hbx hra hxa ha hs
    go_enter Tryd.func59, Tryd.ntmps59
    go_wp2_with (fail)
    go_ret
    exact ⟨rfl, (Below.refl _ _).alloc (Nat.le_refl _) _⟩
  obtain rfl : k = 3 := by omega
  clear hk1 hk2 hk3 hk1' hk2'
  cases t with
  | cons a l =>
    rw [show valid1 room 3 (a :: l) kids = false from rfl]
    obtain ⟨s, hss, s1, s2⟩ := str_ne (a := a) (l := l)
    rw [hss]
    have hbx := heap_alloc_new w (.cells #[.int .i64 3, .string s, .slice A kids.len c, .int .i64 o] 31 (0, 0))
    obtain ⟨b0, b1, b2, b3, z0, z1, z2, z3⟩ := row4 hbx
    clear hbx hra hxa ha hs hss
    go_enter Tryd.func59, Tryd.ntmps59
    go_wp2_with (fail)
    go_ret
    exact ⟨rfl, (Below.refl _ _).alloc (Nat.le_refl _) _⟩
  | nil =>
  rcases Nat.eq_zero_or_pos room with rfl | hr1
  · rw [show valid1 0 3 [] kids = false from rfl]
    have hbx := heap_alloc_new w (.cells #[.int .i64 3, .string ⟨([] : List UInt8).toArray⟩, .slice A kids.len c, .int .i64 o] 31 (0, 0))
    obtain ⟨b0, b1, b2, b3, z0, z1, z2, z3⟩ := row4 hbx
    clear hbx hra hxa ha hs
    go_enter Tryd.func59, Tryd.ntmps59
    go_wp2_with (fail)
    go_ret
    exact ⟨rfl, (Below.refl _ _).alloc (Nat.le_refl _) _⟩
  · obtain ⟨rm, rfl⟩ : ∃ rm, room = rm + 1 := ⟨room - 1, by omega⟩
    rw [valid1_list]
    obtain ⟨R, hR⟩ : ∃ R : Int, ((rm + 1 : Nat) : Int) = R := ⟨_, rfl⟩
    have hr0 : (R == 0) = false := by rw [← hR]; simp; omega
    have hwr : IntKind.i64.wrap (R - 1) = (rm : Int) := (IntKind.wrap_i64 _).trans (by omega)
    have hwr2 : wrap64 (R - 1) = (rm : Int) := (wrap64_in (by omega) (by omega)).trans (by omega)
    rw [hR]
    have HRR := Lib.hid hR
    clear hR
    have hwr' := Lib.hid (And.intro hwr hwr2)
    clear hwr hwr2 hs
    have hrow := rowAt_start hra hxa
    obtain ⟨L, hLL⟩ : ∃ L, kids.len = L := ⟨_, rfl⟩
    have hA : 0 < L → ∃ g off : Nat, A = some ⟨g, off, none⟩ ∧ g < w.heap.size := fun h => by rw [← hLL] at h; obtain ⟨g, off, h, _, hl, _⟩ := hra h; exact ⟨g, off, h, hl⟩
    clear hra
    rw [hLL]
    have HL := Lib.hid hLL
    have HX := Lib.hid hxa
    have HR := Lib.hid hrow
    have HS := Lib.hid ha
    clear hxa hrow ha
    have hlen' : L ≤ fsize kids := by have := HL.out; omega
    clear hlen hLL
    obtain ⟨V, hV⟩ : ∃ V, validF rm kids = V := ⟨_, rfl⟩
    rw [hV]
    have HV := Lib.hid hV
    clear hV
    go_enter Tryd.func59, Tryd.ntmps59
    go_wp2_with (fail)
    go_loopw [4, 6, 43] (fun _ _ iv wr => ∃ (i : Nat) (r : Fo) (xs : List Value), iv = .int .i64 (i : Int) ∧ i + r.len = L ∧ validF rm r = V ∧ allS r ∧ fsize r ≤ fsize kids ∧ rowOf w S r xs ∧ rowAt w A i xs ∧ Below w.heap.size w wr) (fun _ _ iv _ => L - (match iv with | .int _ n => n.toNat | _ => 0))
    case atStart => exact ⟨0, kids, ys, rfl, by rw [HL.out]; omega, HV.out, HS.out, Nat.le_refl _, HX.out, HR.out, (Below.refl _ _).alloc (Nat.le_refl _) _⟩
    case round =>
      obtain ⟨i, r, xs, rfl, hi, hvr, hsr, hsz, hx, hcx, hbel⟩ := hrel
      have hbs := hbel.size
      cases r with
      | nil =>
        simp only [Fo.len] at hi
        have hge : decide (i < L) = false := by simp; omega
        have Hi := Lib.hid hi
        have Hv := Lib.hid hvr
        clear hi hvr
        go_wp2_with (fail)
        go_ret
        exact ⟨by rw [← Hv.out]; rfl, hbel⟩
      | cons k1 t1 kids1 o1 r1 =>
        obtain ⟨A1, c1, ys1, zs, rfl, hc1, hr1, hk1, hrest1⟩ := hx
        rw [validF_cons] at hvr
        have Hvr := Lib.hid hvr
        clear hvr
        simp only [Fo.len, fsize] at hi hsz
        obtain ⟨g, off, rfl, hgl⟩ := hA (by omega)
        have hge : decide ((i : Int) < (L : Int)) = true := by simp; omega
        have a0 := (hbel.cell (p := ⟨g, _, none⟩) (by exact hgl)).trans (hcx g off rfl 0 _ rfl)
        have a1 := (hbel.cell (p := ⟨g, _, none⟩) (by exact hgl)).trans (hcx g off rfl 1 _ rfl)
        have a2 := (hbel.cell (p := ⟨g, _, none⟩) (by exact hgl)).trans (hcx g off rfl 2 _ rfl)
        have a3 := (hbel.cell (p := ⟨g, _, none⟩) (by exact hgl)).trans (hcx g off rfl 3 _ rfl)
        simp only [Nat.add_zero] at a0
        have hiL : (i : Int) < (L : Int) := by omega
        have hi0 : (0 : Int) ≤ (i : Int) := by omega
        have hne : ¬ g = wr.heap.size := by omega
        have Hi := Lib.hid hi
        have Hs := Lib.hid hsr
        clear hi hsr
        have hbn := heap_alloc_new wr (.cells #[.int .i64 k1, .string ⟨t1.toArray⟩, .slice A1 kids1.len c1, .int .i64 o1] 31 (0, 0))
        obtain ⟨p0, p1, p2, p3, z0, z1, z2, z3⟩ := row4 hbn
        have hB1 : Below w.heap.size w (wr.alloc (.cells #[.int .i64 k1, .string ⟨t1.toArray⟩, .slice A1 kids1.len c1, .int .i64 o1] 31 (0, 0))) := hbel.alloc hbs _
        clear hbn
        obtain ⟨hwr, hwr2⟩ := hwr'.out
        go_wp2_with (fail)
        refine (IH.out (fsize kids1) (by omega) k1 o1 t1 kids1 A1 c1 ys1 S rm _ (Nat.le_refl _) (by omega) (hr1.keep hB1.size fun x hx hl => ⟨hB1.block x hl, hx⟩) (hk1.keep hB1.size (fun x hx hl => ⟨hB1.block x hl, hx⟩) _) Hs.out.1 Hs.out.2.1 (by omega)).mono ?_
        rintro e1 w1 ⟨rfl, hb1⟩
        cases hv1 : valid1 rm k1 t1 kids1 with
        | true =>
          have Hv1 := Lib.hid hv1
          clear hv1
          go_wp2_with (fail)
          have hi := Hi.out
          exact ⟨⟨i + 1, r1, zs, rfl, by omega, by have h := Hvr.out; rw [Hv1.out, Bool.true_and] at h; exact h, Hs.out.2.2, by omega, hrest1, rowAt_next hcx, hB1.trans (hb1.mono hB1.size)⟩, by simp; omega⟩
        | false =>
          have Hv1 := Lib.hid hv1
          clear hv1
          go_wp2_with (fail)
          go_ret
          exact ⟨by have h := Hvr.out; rw [Hv1.out, Bool.false_and] at h; exact congrArg (fun b => Ending.returned (.bool b)) h, hB1.trans (hb1.mono hB1.size)⟩

theorem valid_any (k o : Int) (t : List UInt8) (kids : Fo) (A : Option Addr) (c : Nat) (ys : List Value) (S : Nat → Prop) (w : World) (hN : fsize kids ≤ 1073741824) (hr : readsAt w S A kids.len ys) (hx : rowOf w S kids ys) (hs : okS t = true) (ha : allS kids) {b : Bool} (hb : valid1 40 k t kids = b) :
    Calls Tryd.prog 22 #[.agg #[.int .i64 k, .string ⟨t.toArray⟩, .slice A kids.len c, .int .i64 o]] w fun e w' => e = .returned (.bool b) ∧ Below w.heap.size w w' := by
  have hbx := heap_alloc_new w (.cells #[.int .i64 k, .string ⟨t.toArray⟩, .slice A kids.len c, .int .i64 o] 31 (0, 0))
  obtain ⟨b0, b1, b2, b3, z0, z1, z2, z3⟩ := row4 hbx
  have B1 : Below w.heap.size w (w.alloc (.cells #[.int .i64 k, .string ⟨t.toArray⟩, .slice A kids.len c, .int .i64 o] 31 (0, 0))) := (Below.refl _ _).alloc (Nat.le_refl _) _
  have hR := Lib.hid (hr.keep (S' := S) B1.size fun x hx hl => ⟨B1.block x hl, hx⟩)
  have hX := Lib.hid (hx.keep (S' := S) B1.size (fun x hx hl => ⟨B1.block x hl, hx⟩) _)
  have HB := Lib.hid B1
  have HS := Lib.hid hs
  have HA := Lib.hid ha
  have HH := Lib.hid hb
  clear hr hx B1 hbx hs ha hb
  go_enter Tryd.func22, Tryd.ntmps22
  go_wp2_with (fail)
  refine (validWithin_any _ k o t kids A c ys S 40 _ (Nat.le_refl _) hN hR.out hX.out HS.out HA.out (Nat.le_refl _)).mono ?_
  rintro e1 w1 ⟨rfl, hb1⟩
  rw [HH.out]
  go_wp2_with (fail)
  go_ret
  exact ⟨rfl, HB.out.trans (hb1.mono (by simp))⟩

set_option maxHeartbeats 1000000 in
theorem format_no (k o : Int) (t : List UInt8) (kids : Fo) (A : Option Addr) (c : Nat) (ys : List Value) (S : Nat → Prop) (w : World) (hN : fsize kids ≤ 1073741824) (hr : readsAt w S A kids.len ys) (hx : rowOf w S kids ys) (hs : okS t = true) (ha : allS kids) (hb : valid1 40 k t kids = false) :
    Calls Tryd.prog 12 #[.agg #[.int .i64 k, .string ⟨t.toArray⟩, .slice A kids.len c, .int .i64 o]] w fun e w' => e = .returned (.tuple #[.string ⟨#[]⟩, .int .i64 2]) ∧ Below w.heap.size w w' := by
  have hbx := heap_alloc_new w (.cells #[.int .i64 k, .string ⟨t.toArray⟩, .slice A kids.len c, .int .i64 o] 31 (0, 0))
  obtain ⟨b0, b1, b2, b3, z0, z1, z2, z3⟩ := row4 hbx
  have B1 : Below w.heap.size w (w.alloc (.cells #[.int .i64 k, .string ⟨t.toArray⟩, .slice A kids.len c, .int .i64 o] 31 (0, 0))) := (Below.refl _ _).alloc (Nat.le_refl _) _
  have hR := Lib.hid (hr.keep (S' := S) B1.size fun x hx hl => ⟨B1.block x hl, hx⟩)
  have hX := Lib.hid (hx.keep (S' := S) B1.size (fun x hx hl => ⟨B1.block x hl, hx⟩) _)
  have HB := Lib.hid B1
  have HS := Lib.hid hs
  have HA := Lib.hid ha
  have HH := Lib.hid hb
  clear hr hx B1 hbx hs ha hb
  go_enter Tryd.func12, Tryd.ntmps12
  go_wp2_with (fail)
  refine (valid_any k o t kids A c ys S _ hN hR.out hX.out HS.out HA.out HH.out).mono ?_
  rintro e1 w1 ⟨rfl, hb1⟩
  go_wp2_with (fail)
  refine bodyPost_ret (v := .tuple #[.string ⟨#[]⟩, .int .i64 2]) (by simp [results, Tryd.results12, go_sem]) rfl ⟨rfl, HB.out.trans (hb1.mono (by simp))⟩
end Go.Proofs.YtpflfbfbjmoggaaDoor
