/- telref1.NodeValid at any node with short texts of printable bytes. No condition but a bounded size. -/
import Derived.Test.YtpflfbfbjmoggaaDoorRWb
import Derived.Test.YtpflfbfbjmoggaaDoorVld
set_option linter.unusedVariables false
set_option linter.unusedSimpArgs false
namespace Go.Proofs.YtpflfbfbjmoggaaDoor
open Go.RowKit Sx

theorem byte_str {s : ByteArray} {q : Nat} (hq : q < s.size) (h : ∀ c ∈ s.data.toList, strB (c.toNat : Int) = true) : ¬ ((s[q].toNat : Int) < 32) ∧ ¬ (126 < (s[q].toNat : Int)) := by
  have := h _ (at_mem s q hq)
  simp [strB] at this
  omega

set_option maxHeartbeats 4000000 in
set_option maxRecDepth 100000 in
theorem rv_word (t : List UInt8) (kids : Fo) (A : Option Addr) (c : Nat) (o dp : Int) (w : World) (hs : okS t = true) (hl : fsize kids ≤ 1073741824) :
    Calls Tryd.prog 60 #[.agg #[.int .i64 1, .string ⟨t.toArray⟩, .slice A kids.len c, .int .i64 o], .int .i64 dp] w fun e w' => e = .returned (.bool (kids.isNil && okW t)) ∧ Below w.heap.size w w' := by
  have h24 := okS_len hs
  have hlen := len_le_fsize kids
  obtain ⟨s, hss, hsl, hsz⟩ : ∃ s : ByteArray, (⟨t.toArray⟩ : ByteArray) = s ∧ s.data.toList = t ∧ s.size = t.length := ⟨_, rfl, by simp, by show t.toArray.size = _; simp⟩
  rw [hss]
  obtain ⟨V, hV⟩ : ∃ V, (kids.isNil && okW t) = V := ⟨_, rfl⟩
  rw [hV]
  obtain ⟨L, hL⟩ : ∃ L, kids.len = L := ⟨_, rfl⟩
  rw [hL] at hlen ⊢
  have hbx := heap_alloc_new w (.cells #[.int .i64 1, .string s, .slice A L c, .int .i64 o] 39 (0, 0))
  obtain ⟨b0, b1, b2, b3, z0, z1, z2, z3⟩ := row4 hbx
  -- the two ways to V
  have vf : (s.data.toList.all (fun c => wordB (c.toNat : Int))) = false → false = V := fun h => by rw [← hV, okW, ← hsl, h]; simp
  have vt : (s.data.toList.all (fun c => wordB (c.toNat : Int))) = true → (decide (0 < s.size) && decide (L = 0)) = V := fun h => by
    rw [← hV, okW, ← hsl, h]
    have e1 : decide (s.data.toList.length ≤ 24) = true := by rw [hsl]; simpa using h24
    rw [e1, ← hL]
    have e2 : (!s.data.toList.isEmpty) = decide (0 < s.size) := by
      rw [hsl, hsz]
      cases t <;> simp
    rw [e2]
    have e3 : kids.isNil = decide (kids.len = 0) := by cases kids <;> simp [Fo.isNil, Fo.len]
    rw [e3]
    simp [Bool.and_comm]
  have VF := Lib.hid vf
  have VT := Lib.hid vt
  have H24 : s.size ≤ 24 := by omega
  clear vf vt hV hss hsl hsz hL hs h24 hbx
  go_enter Tryd.func60, Tryd.ntmps60
  go_wp2_with (fail)
  go_loopw [4, 5] (fun _ i wr => ∃ q : Nat, i = .int .i64 (q : Int) ∧ q ≤ s.size ∧ (w.alloc (.cells #[.int .i64 1, .string s, .slice A L c, .int .i64 o] 39 (0, 0))) = wr ∧ (s.data.toList.drop q).all (fun c => wordB (c.toNat : Int)) = s.data.toList.all (fun c => wordB (c.toNat : Int))) (fun _ i _ => s.size - (match i with | .int _ n => n.toNat | _ => 0))
  case atStart => exact ⟨0, rfl, Nat.zero_le _, rfl, rfl⟩
  case round =>
    obtain ⟨q, rfl, hq, rfl, hall⟩ := hrel
    have Hall := Lib.hid hall
    clear hall
    by_cases hlt : q < s.size
    · have hti : decide ((q : Int) < (s.size : Int)) = true := by simp; omega
      have b0' := byte_lo s[q]
      have b1' := byte_hi s[q]
      have hd := Lib.hid (all_drop (p := fun c => wordB (c.toNat : Int)) hlt)
      cases hq5 : wordB (s[q].toNat : Int) with
      | true =>
        have Hc := Lib.hid (fun W => rIsWordByte_yes (s[q].toNat : Int) W b0' b1' hq5)
        have H5 := Lib.hid hq5
        clear hq5
        go_wp2_with (go_at_call 64; refine (Hc.out _).mono ?_; rintro e1 w1 ⟨rfl, rfl⟩)
        exact ⟨⟨q + 1, by simp, hlt, trivial, by have h := hd.out; simp only [H5.out, Bool.true_and] at h; rw [← h]; exact Hall.out⟩, by simp; omega⟩
      | false =>
        have Hc := Lib.hid (fun W => rIsWordByte_no (s[q].toNat : Int) W b0' b1' hq5)
        have H5 := Lib.hid hq5
        clear hq5
        go_wp2_with (go_at_call 64; refine (Hc.out _).mono ?_; rintro e1 w1 ⟨rfl, rfl⟩)
        go_ret
        exact ⟨congrArg (fun b => Ending.returned (.bool b)) (VF.out (by have h := hd.out; simp only [H5.out, Bool.false_and] at h; rw [← Hall.out, h])), (Below.refl _ _).alloc (Nat.le_refl _) _⟩
    · have hti : decide ((q : Int) < (s.size : Int)) = false := by simp; omega
      have hv := VT.out (by rw [← Hall.out, List.drop_eq_nil_of_le (by simp; omega)]; rfl)
      by_cases h0 : 0 < s.size
      · have t1 : decide ((0 : Int) < (s.size : Int)) = true := by simp; omega
        have t2 : decide ((s.size : Int) ≤ 24) = true := by simp; omega
        by_cases hL0 : L = 0
        · subst hL0
          simp only [h0, decide_true, Bool.and_true] at hv
          subst hv
          go_wp2_with (fail)
          go_ret
          exact ⟨rfl, (Below.refl _ _).alloc (Nat.le_refl _) _⟩
        · have t3 : ((L : Int) == 0) = false := by rw [beq_eq_false_iff_ne]; omega
          simp only [h0, hL0, decide_true, decide_false, Bool.and_false] at hv
          subst hv
          go_wp2_with (fail)
          go_ret
          exact ⟨rfl, (Below.refl _ _).alloc (Nat.le_refl _) _⟩
      · have t1 : decide ((0 : Int) < (s.size : Int)) = false := by rw [decide_eq_false_iff_not]; omega
        simp only [h0, decide_false, Bool.false_and] at hv
        subst hv
        go_wp2_with (fail)
        go_ret
        exact ⟨rfl, (Below.refl _ _).alloc (Nat.le_refl _) _⟩

set_option maxHeartbeats 4000000 in
set_option maxRecDepth 100000 in
theorem rv_str (t : List UInt8) (kids : Fo) (A : Option Addr) (c : Nat) (o dp : Int) (w : World) (hs : okS t = true) (hl : fsize kids ≤ 1073741824) :
    Calls Tryd.prog 60 #[.agg #[.int .i64 2, .string ⟨t.toArray⟩, .slice A kids.len c, .int .i64 o], .int .i64 dp] w fun e w' => e = .returned (.bool kids.isNil) ∧ Below w.heap.size w w' := by
  have h24 := okS_len hs
  have hlen := len_le_fsize kids
  obtain ⟨s, hss, hsl, hsz⟩ : ∃ s : ByteArray, (⟨t.toArray⟩ : ByteArray) = s ∧ s.data.toList = t ∧ s.size = t.length := ⟨_, rfl, by simp, by show t.toArray.size = _; simp⟩
  rw [hss]
  have hv : kids.isNil = decide (kids.len = 0) := by cases kids <;> simp [Fo.isNil, Fo.len]
  rw [hv]
  obtain ⟨L, hL⟩ : ∃ L, kids.len = L := ⟨_, rfl⟩
  rw [hL] at hlen ⊢
  have hbx := heap_alloc_new w (.cells #[.int .i64 2, .string s, .slice A L c, .int .i64 o] 39 (0, 0))
  obtain ⟨b0, b1, b2, b3, z0, z1, z2, z3⟩ := row4 hbx
  have Hb := Lib.hid (fun (q : Nat) (hq : q < s.size) => byte_str hq (by
    rw [hsl]
    simp only [okS, Bool.and_eq_true, List.all_eq_true, decide_eq_true_eq] at hs
    exact hs.1))
  have H24 : s.size ≤ 24 := by omega
  clear hv hss hsl hsz hL hs h24 hbx
  go_enter Tryd.func60, Tryd.ntmps60
  go_wp2_with (fail)
  go_loopw [4, 6] (fun _ i wr => ∃ q : Nat, i = .int .i64 (q : Int) ∧ q ≤ s.size ∧ (w.alloc (.cells #[.int .i64 2, .string s, .slice A L c, .int .i64 o] 39 (0, 0))) = wr) (fun _ i _ => s.size - (match i with | .int _ n => n.toNat | _ => 0))
  case atStart => exact ⟨0, rfl, Nat.zero_le _, rfl⟩
  case round =>
    obtain ⟨q, rfl, hq, rfl⟩ := hrel
    by_cases hlt : q < s.size
    · have hti : decide ((q : Int) < (s.size : Int)) = true := by simp; omega
      obtain ⟨c1, c2⟩ := Hb.out q hlt
      have d1 : decide ((s[q].toNat : Int) < 32) = false := by simpa using c1
      have d2 : decide (126 < (s[q].toNat : Int)) = false := by simpa using c2
      go_wp2_with (fail)
      exact ⟨⟨q + 1, by simp, hlt, trivial⟩, by simp; omega⟩
    · have hti : decide ((q : Int) < (s.size : Int)) = false := by simp; omega
      have t2 : decide ((s.size : Int) ≤ 2000) = true := by simp; omega
      by_cases hL0 : L = 0
      · subst hL0
        go_wp2_with (fail)
        go_ret
        exact ⟨rfl, (Below.refl _ _).alloc (Nat.le_refl _) _⟩
      · have t3 : ((L : Int) == 0) = false := by rw [beq_eq_false_iff_ne]; omega
        have t4 := Lib.hid (show decide (L = 0) = false by simpa using hL0)
        go_wp2_with (fail)
        go_ret
        exact ⟨congrArg (fun b => Ending.returned (.bool b)) t4.out.symm, (Below.refl _ _).alloc (Nat.le_refl _) _⟩

set_option maxHeartbeats 4000000 in
set_option maxRecDepth 100000 in
theorem validNode_any (N : Nat) : ∀ (k o : Int) (t : List UInt8) (kids : Fo) (A : Option Addr) (c : Nat) (ys : List Value) (S : Nat → Prop) (room : Nat) (dp : Int) (w : World), fsize kids ≤ N → fsize kids ≤ 1073741824 → readsAt w S A kids.len ys → rowOf w S kids ys →
    okS t = true → allS kids → dp + room = 40 → 0 ≤ dp →
    Calls Tryd.prog 60 #[.agg #[.int .i64 k, .string ⟨t.toArray⟩, .slice A kids.len c, .int .i64 o], .int .i64 dp] w fun e w' => e = .returned (.bool (valid1 room k t kids)) ∧ Below w.heap.size w w' := by
  induction N using Nat.strongRecOn with
  | ind N ih =>
  intro k o t kids A c ys S room dp w hN hN2 hra hxa hs ha hdp hd0
  have IH := Lib.hid ih
  clear ih
  have hlen := len_le_fsize kids
  by_cases hk1 : k = 1
  · subst hk1
    exact rv_word t kids A c o dp w hs hN2
  by_cases hk2 : k = 2
  · subst hk2
    rw [show valid1 room 2 t kids = (kids.isNil && okT t) from rfl, okT_of_okS hs, Bool.and_true]
    exact rv_str t kids A c o dp w hs hN2
  have hk1' : (k == 1) = false := by simp [hk1]
  have hk2' : (k == 2) = false := by simp [hk2]
  by_cases hk3 : ¬ k = 3
  · rw [valid1_else hk1 hk2 hk3]
    have hk3' : (k == 3) = false := by simp [hk3]
    have hbx := heap_alloc_new w (.cells #[.int .i64 k, .string ⟨t.toArray⟩, .slice A kids.len c, .int .i64 o] 39 (0, 0))
    obtain ⟨b0, b1, b2, b3, z0, z1, z2, z3⟩ := row4 hbx
    clear hbx hra hxa ha hs
    go_enter Tryd.func60, Tryd.ntmps60
    go_wp2_with (fail)
    go_ret
    exact ⟨rfl, (Below.refl _ _).alloc (Nat.le_refl _) _⟩
  obtain rfl : k = 3 := by omega
  clear hk1 hk2 hk3 hk1' hk2'
  cases t with
  | cons a l =>
    rw [show valid1 room 3 (a :: l) kids = false from rfl]
    obtain ⟨s, hss, s1, s2⟩ := str_ne (a := a) (l := l)
    rw [hss]
    have hbx := heap_alloc_new w (.cells #[.int .i64 3, .string s, .slice A kids.len c, .int .i64 o] 39 (0, 0))
    obtain ⟨b0, b1, b2, b3, z0, z1, z2, z3⟩ := row4 hbx
    clear hbx hra hxa ha hs hss
    go_enter Tryd.func60, Tryd.ntmps60
    go_wp2_with (fail)
    go_ret
    exact ⟨rfl, (Below.refl _ _).alloc (Nat.le_refl _) _⟩
  | nil =>
  rcases Nat.eq_zero_or_pos room with rfl | hr1
  · rw [show valid1 0 3 [] kids = false from rfl]
    obtain rfl : dp = 40 := by omega
    have hbx := heap_alloc_new w (.cells #[.int .i64 3, .string ⟨([] : List UInt8).toArray⟩, .slice A kids.len c, .int .i64 o] 39 (0, 0))
    obtain ⟨b0, b1, b2, b3, z0, z1, z2, z3⟩ := row4 hbx
    clear hbx hra hxa ha hs
    go_enter Tryd.func60, Tryd.ntmps60
    go_wp2_with (fail)
    go_ret
    exact ⟨rfl, (Below.refl _ _).alloc (Nat.le_refl _) _⟩
  · obtain ⟨rm, rfl⟩ : ∃ rm, room = rm + 1 := ⟨room - 1, by omega⟩
    rw [valid1_list]
    have hr0 : (dp == 40) = false := by rw [beq_eq_false_iff_ne]; omega
    have hdp0 : 0 ≤ dp := hd0
    have hdp1 : dp < 40 := by omega
    have hrow := rowAt_start hra hxa
    obtain ⟨L, hLL⟩ : ∃ L, kids.len = L := ⟨_, rfl⟩
    have hA : 0 < L → ∃ g off : Nat, A = some ⟨g, off, none⟩ ∧ g < w.heap.size := fun h => by rw [← hLL] at h; obtain ⟨g, off, h, _, hl, _⟩ := hra h; exact ⟨g, off, h, hl⟩
    clear hra
    rw [hLL]
    have hbx := heap_alloc_new w (.cells #[.int .i64 3, .string ⟨([] : List UInt8).toArray⟩, .slice A L c, .int .i64 o] 39 (0, 0))
    have HBX := Lib.hid hbx
    obtain ⟨b0, b1, b2, b3, z0, z1, z2, z3⟩ := row4 hbx
    have HL := Lib.hid hLL
    have HX := Lib.hid hxa
    have HR := Lib.hid hrow
    have HS := Lib.hid ha
    have HDP := Lib.hid hdp
    clear hxa hrow ha hbx hs hdp
    have hlen' : L ≤ fsize kids := by have := HL.out; omega
    clear hlen hLL
    obtain ⟨V, hV⟩ : ∃ V, validF rm kids = V := ⟨_, rfl⟩
    rw [hV]
    have HV := Lib.hid hV
    clear hV
    go_enter Tryd.func60, Tryd.ntmps60
    go_wp2_with (fail)
    go_loopw [4, 7] (fun _ iv wr => ∃ (i : Nat) (r : Fo) (xs : List Value), iv = .int .i64 (i : Int) ∧ i + r.len = L ∧ validF rm r = V ∧ allS r ∧ fsize r ≤ fsize kids ∧ rowOf w S r xs ∧ rowAt w A i xs ∧ Below (w.heap.size + 1) (w.alloc (.cells #[.int .i64 3, .string ⟨([] : List UInt8).toArray⟩, .slice A L c, .int .i64 o] 39 (0, 0))) wr) (fun _ iv _ => L - (match iv with | .int _ n => n.toNat | _ => 0))
    case atStart => exact ⟨0, kids, ys, rfl, by rw [HL.out]; omega, HV.out, HS.out, Nat.le_refl _, HX.out, HR.out, Below.refl _ _⟩
    case round =>
      obtain ⟨i, r, xs, rfl, hi, hvr, hsr, hsz, hx, hcx, hbelX⟩ := hrel
      have hbel : Below w.heap.size w wr := ((Below.refl _ _).alloc (Nat.le_refl _) _).trans (hbelX.mono (by omega))
      have HBX2 := Lib.hid ((hbelX.block w.heap.size (by omega)).trans HBX.out)
      have hbs := hbelX.size
      simp only [World.size_alloc] at hbs
      have HbelX := Lib.hid hbelX
      clear b0 b1 b2 b3 z0 z1 z2 z3 hbelX
      obtain ⟨b0, b1, b2, b3, z0, z1, z2, z3⟩ := row4 HBX2.out
      cases r with
      | nil =>
        simp only [Fo.len] at hi
        have hge : decide (i < L) = false := by simp; omega
        have Hi := Lib.hid hi
        have Hv := Lib.hid hvr
        have HB := Lib.hid hbel
        clear hi hvr hbel
        go_wp2_with (fail)
        go_ret
        exact ⟨by rw [← Hv.out]; rfl, HB.out⟩
      | cons k1 t1 kids1 o1 r1 =>
        obtain ⟨A1, c1, ys1, zs, rfl, hc1, hr1, hk1, hrest1⟩ := hx
        rw [validF_cons] at hvr
        have Hvr := Lib.hid hvr
        clear hvr
        simp only [Fo.len, fsize] at hi hsz
        obtain ⟨g, off, rfl, hgl⟩ := hA (by omega)
        have hge : decide ((i : Int) < (L : Int)) = true := by simp; omega
        have a0 := (hbel.cell (p := ⟨g, _, none⟩) (by exact hgl)).trans (hcx g off rfl 0 _ rfl)
        have a1 := (hbel.cell (p := ⟨g, _, none⟩) (by exact hgl)).trans (hcx g off rfl 1 _ rfl)
        have a2 := (hbel.cell (p := ⟨g, _, none⟩) (by exact hgl)).trans (hcx g off rfl 2 _ rfl)
        have a3 := (hbel.cell (p := ⟨g, _, none⟩) (by exact hgl)).trans (hcx g off rfl 3 _ rfl)
        simp only [Nat.add_zero] at a0
        have hiL : (i : Int) < (L : Int) := by omega
        have hi0 : (0 : Int) ≤ (i : Int) := by omega
        have Hi := Lib.hid hi
        have Hs := Lib.hid hsr
        have HB := Lib.hid hbel
        clear hi hsr hbel
        go_wp2_with (fail)
        refine (IH.out (fsize kids1) (by omega) k1 o1 t1 kids1 A1 c1 ys1 S rm (dp + 1) _ (Nat.le_refl _) (by omega) (hr1.keep HB.out.size fun x hx hl => ⟨HB.out.block x hl, hx⟩) (hk1.keep HB.out.size (fun x hx hl => ⟨HB.out.block x hl, hx⟩) _) Hs.out.1 Hs.out.2.1 (by have := HDP.out; omega) (by omega)).mono ?_
        rintro e1 w1 ⟨rfl, hb1⟩
        cases hv1 : valid1 rm k1 t1 kids1 with
        | true =>
          have Hv1 := Lib.hid hv1
          clear hv1
          go_wp2_with (fail)
          have hi := Hi.out
          exact ⟨⟨i + 1, r1, zs, rfl, by omega, by have h := Hvr.out; rw [Hv1.out, Bool.true_and] at h; exact h, Hs.out.2.2, by omega, hrest1, rowAt_next hcx, HbelX.out.trans (hb1.mono hbs)⟩, by simp; omega⟩
        | false =>
          have Hv1 := Lib.hid hv1
          clear hv1
          go_wp2_with (fail)
          go_ret
          exact ⟨by have h := Hvr.out; rw [Hv1.out, Bool.false_and] at h; exact congrArg (fun b => Ending.returned (.bool b)) h, HB.out.trans (hb1.mono HB.out.size)⟩

theorem nodeValid_any (k o : Int) (t : List UInt8) (kids : Fo) (A : Option Addr) (c : Nat) (ys : List Value) (S : Nat → Prop) (w : World) (hN : fsize kids ≤ 1073741824) (hr : readsAt w S A kids.len ys) (hx : rowOf w S kids ys) (hs : okS t = true) (ha : allS kids) {b : Bool} (hb : valid1 40 k t kids = b) :
    Calls Tryd.prog 23 #[.agg #[.int .i64 k, .string ⟨t.toArray⟩, .slice A kids.len c, .int .i64 o]] w fun e w' => e = .returned (.bool b) ∧ Below w.heap.size w w' := by
  have hbx := heap_alloc_new w (.cells #[.int .i64 k, .string ⟨t.toArray⟩, .slice A kids.len c, .int .i64 o] 39 (0, 0))
  obtain ⟨b0, b1, b2, b3, z0, z1, z2, z3⟩ := row4 hbx
  have B1 : Below w.heap.size w (w.alloc (.cells #[.int .i64 k, .string ⟨t.toArray⟩, .slice A kids.len c, .int .i64 o] 39 (0, 0))) := (Below.refl _ _).alloc (Nat.le_refl _) _
  have hR := Lib.hid (hr.keep (S' := S) B1.size fun x hx hl => ⟨B1.block x hl, hx⟩)
  have hX := Lib.hid (hx.keep (S' := S) B1.size (fun x hx hl => ⟨B1.block x hl, hx⟩) _)
  have HB := Lib.hid B1
  have HS := Lib.hid hs
  have HA := Lib.hid ha
  have HH := Lib.hid hb
  clear hr hx B1 hbx hs ha hb
  go_enter Tryd.func23, Tryd.ntmps23
  go_wp2_with (fail)
  refine (validNode_any _ k o t kids A c ys S 40 0 _ (Nat.le_refl _) hN hR.out hX.out HS.out HA.out (by decide) (by decide)).mono ?_
  rintro e1 w1 ⟨rfl, hb1⟩
  rw [HH.out]
  go_wp2_with (fail)
  go_ret
  exact ⟨rfl, HB.out.trans (hb1.mono (by simp))⟩
end Go.Proofs.YtpflfbfbjmoggaaDoor
