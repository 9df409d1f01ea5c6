/- telref1's bytes: letters, digits, bytes of words. No condition. telref1.IsIdent at every string. No condition but a bounded length. telref1.TermSize, telref1.TermDepth. No condition but a bounded size. -/
import Derived.Test.YtpkiheenkpcebaaGreatDoorMaa
import Derived.Test.YtpkiheenkpcebaaGreatDoorMad
import Derived.Test.YtpkiheenkpcebaaGreatDoorMab
set_option linter.unusedVariables false
set_option linter.unusedSimpArgs false
namespace Go.Proofs.YtpkiheenkpcebaaGreatDoor
open Go.RowKit Sx

theorem rIsLetter_any (n : Int) (w : World) (h0 : 0 ≤ n) (h1 : n ≤ 255) :
    Calls Tryz.prog 153 #[.int .u8 n] w fun e w' => e = .returned (.bool (letterB n)) ∧ w = w' := by
  go_enter Tryz.func153, Tryz.ntmps153
  go_wp2
  all_goals go_ret
  all_goals exact ⟨ret_bool (by rw [Bool.eq_iff_iff]; simp [letterB] <;> omega), rfl⟩
theorem rIsDigit_any (n : Int) (w : World) (h0 : 0 ≤ n) (h1 : n ≤ 255) :
    Calls Tryz.prog 179 #[.int .u8 n] w fun e w' => e = .returned (.bool (digitB n)) ∧ w = w' := by
  go_enter Tryz.func179, Tryz.ntmps179
  go_wp2
  all_goals go_ret
  all_goals exact ⟨ret_bool (by rw [Bool.eq_iff_iff]; simp [digitB] <;> omega), rfl⟩
theorem rIsWordByte_any (n : Int) (w : World) (h0 : 0 ≤ n) (h1 : n ≤ 255) :
    Calls Tryz.prog 154 #[.int .u8 n] w fun e w' => e = .returned (.bool (wordB n)) ∧ w = w' := by
  go_enter Tryz.func154, Tryz.ntmps154
  go_wp2_with (first | (go_at_call 153; refine (rIsLetter_any _ _ (by assumption) (by assumption)).mono ?_; rintro e w' ⟨rfl, rfl⟩) | (go_at_call 179; refine (rIsDigit_any _ _ (by assumption) (by assumption)).mono ?_; rintro e w' ⟨rfl, rfl⟩))
  all_goals go_ret
  all_goals exact ⟨ret_bool (by rw [Bool.eq_iff_iff]; simp_all [wordB]), rfl⟩
theorem rIsWordByte_yes (n : Int) (w : World) (h0 : 0 ≤ n) (h1 : n ≤ 255) (h : wordB n = true) :
    Calls Tryz.prog 154 #[.int .u8 n] w fun e w' => e = .returned (.bool true) ∧ w = w' :=
  (rIsWordByte_any n w h0 h1).mono fun _ _ ⟨he, hw⟩ => ⟨by rw [he, h], hw⟩
theorem rIsWordByte_no (n : Int) (w : World) (h0 : 0 ≤ n) (h1 : n ≤ 255) (h : wordB n = false) :
    Calls Tryz.prog 154 #[.int .u8 n] w fun e w' => e = .returned (.bool false) ∧ w = w' :=
  (rIsWordByte_any n w h0 h1).mono fun _ _ ⟨he, hw⟩ => ⟨by rw [he, h], hw⟩
end Go.Proofs.YtpkiheenkpcebaaGreatDoor
namespace Go.Proofs.YtpkiheenkpcebaaGreatDoor
open Go.RowKit Sx

theorem lit_rletter {n : Int} {b : Bool} (h0 : 0 ≤ n) (h1 : n ≤ 255) (h : letterB n = b) (W : World) : Calls Tryz.prog 153 #[.int .u8 n] W fun e w' => e = .returned (.bool b) ∧ W = w' :=
  (rIsLetter_any n W h0 h1).mono fun _ _ ⟨he, hw⟩ => ⟨by rw [he, h], hw⟩
theorem lit_rword {n : Int} {b : Bool} (h0 : 0 ≤ n) (h1 : n ≤ 255) (h : wordB n = b) (W : World) : Calls Tryz.prog 154 #[.int .u8 n] W fun e w' => e = .returned (.bool b) ∧ W = w' :=
  (rIsWordByte_any n W h0 h1).mono fun _ _ ⟨he, hw⟩ => ⟨by rw [he, h], hw⟩


theorem id_word (n : Int) : idC n = (wordB n && !decide (n = 45)) := by
  rw [Bool.eq_iff_iff]
  simp [idC, wordB, letterB, digitB]
  omega

set_option maxHeartbeats 2000000 in
theorem rIdentC_any (s : ByteArray) (w : World) (hs : s.size ≤ 281474976710656) :
    Calls Tryz.prog 119 #[.string s] w fun e w' => e = .returned (.bool (identC s.data.toList)) ∧ w = w' := by
  have hl : s.data.toList.length = s.size := by simp
  by_cases h1 : s.size = 0
  · have t1 : decide ((s.size : Int) < 1) = true := by rw [decide_eq_true_eq]; omega
    rw [show s.data.toList = [] from List.eq_nil_of_length_eq_zero (by omega), identC_nil]
    clear h1 hl hs
    go_enter Tryz.func119, Tryz.ntmps119
    go_wp2_with (fail)
    go_ret
    exact ⟨rfl, rfl⟩
  have t1 : decide ((s.size : Int) < 1) = false := by rw [decide_eq_false_iff_not]; omega
  have hp : 0 < s.size := by omega
  by_cases h24 : 24 < s.size
  · have h2 : (24 : Int) < (s.size : Int) := by omega
    rw [identC_long (by omega)]
    clear hl hs
    go_enter Tryz.func119, Tryz.ntmps119
    go_wp2_with (fail)
    go_ret
    exact ⟨rfl, rfl⟩
  have h2 : ¬ (24 : Int) < (s.size : Int) := by omega
  have hp' : (0 : Int) < (s.size : Int) := by omega
  have c0 := byte_lo s[0]
  have c1 := byte_hi s[0]
  rw [identC_head hp (by omega)]
  cases hL : letterB (s[0].toNat : Int) with
  | false =>
    have Hc := Lib.hid (lit_rletter c0 c1 hL)
    rw [Bool.false_and]
    clear hL hl hs h1 h24
    go_enter Tryz.func119, Tryz.ntmps119
    go_wp2_with (go_at_call 153; refine (Hc.out _).mono ?_; rintro e1 w1 ⟨rfl, rfl⟩)
    go_ret
    exact ⟨rfl, rfl⟩
  | true =>
    have Hc := Lib.hid (lit_rletter c0 c1 hL)
    rw [Bool.true_and]
    obtain ⟨V, hV⟩ : ∃ V, (s.data.toList.all fun c => idC (c.toNat : Int)) = V := ⟨_, rfl⟩
    rw [hV]
    have HV := Lib.hid hV
    clear hL hl h1 h24 hV
    go_enter Tryz.func119, Tryz.ntmps119
    go_wp2_with (go_at_call 153; refine (Hc.out _).mono ?_; rintro e1 w1 ⟨rfl, rfl⟩)
    go_loopw [2, 3] (fun _ i wr => ∃ q : Nat, i = .int .i64 (q : Int) ∧ q ≤ s.size ∧ wr = w ∧ (s.data.toList.drop q).all (fun c => idC (c.toNat : Int)) = V) (fun _ i _ => s.size - (match i with | .int _ n => n.toNat | _ => 0))
    case atStart => exact ⟨0, rfl, Nat.zero_le _, rfl, by rw [List.drop_zero]; exact HV.out⟩
    case round =>
      obtain ⟨q, rfl, hq, rfl, hall⟩ := hrel
      by_cases hlt : q < s.size
      · have hti : decide ((q : Int) < (s.size : Int)) = true := by rw [decide_eq_true_eq]; omega
        rw [all_drop2 hlt] at hall
        have Hall := Lib.hid hall
        clear hall Hc c0 c1
        have b0 := byte_lo s[q]
        have b1 := byte_hi s[q]
        have hw := id_word (s[q].toNat : Int)
        cases hL : wordB (s[q].toNat : Int) with
        | true =>
          have H1 := Lib.hid (lit_rword b0 b1 hL)
          rw [hL, Bool.true_and] at hw
          by_cases h45 : (s[q].toNat : Int) = 45
          · have t2 : ((s[q].toNat : Int) == 45) = true := by simp [h45]
            have HE := Lib.hid (show idC (s[q].toNat : Int) = false by rw [hw]; simp [h45])
            clear hL hw h45
            go_wp2_with (go_at_call 154; refine (H1.out _).mono ?_; rintro e1 w1 ⟨rfl, rfl⟩)
            go_ret
            exact ⟨congrArg (fun b => Ending.returned (.bool b)) (by have h := Hall.out; rw [HE.out, Bool.false_and] at h; exact h), rfl⟩
          · have t2 : ((s[q].toNat : Int) == 45) = false := by rw [beq_eq_false_iff_ne]; exact h45
            have HE := Lib.hid (show idC (s[q].toNat : Int) = true by rw [hw]; simp [h45])
            clear hL hw h45
            go_wp2_with (go_at_call 154; refine (H1.out _).mono ?_; rintro e1 w1 ⟨rfl, rfl⟩)
            exact ⟨⟨q + 1, rfl, hlt, trivial, by have h := Hall.out; rw [HE.out, Bool.true_and] at h; exact h⟩, by simp; omega⟩
        | false =>
          have H1 := Lib.hid (lit_rword b0 b1 hL)
          have HE := Lib.hid (show idC (s[q].toNat : Int) = false by rw [hw, hL]; rfl)
          clear hL hw
          go_wp2_with (go_at_call 154; refine (H1.out _).mono ?_; rintro e1 w1 ⟨rfl, rfl⟩)
          go_ret
          exact ⟨congrArg (fun b => Ending.returned (.bool b)) (by have h := Hall.out; rw [HE.out, Bool.false_and] at h; exact h), rfl⟩
      · have hti : decide ((q : Int) < (s.size : Int)) = false := by rw [decide_eq_false_iff_not]; omega
        have hti2 : decide (q < s.size) = false := by rw [decide_eq_false_iff_not]; omega
        rw [List.drop_eq_nil_of_le (by simp; omega)] at hall
        have Hall := Lib.hid hall
        clear hall
        go_wp2_with (fail)
        go_ret
        exact ⟨congrArg (fun b => Ending.returned (.bool b)) Hall.out, rfl⟩
end Go.Proofs.YtpkiheenkpcebaaGreatDoor
namespace Go.Proofs.YtpkiheenkpcebaaGreatDoor
open Go.RowKit Sx

set_option maxHeartbeats 1000000 in
theorem rsize_any (N : Nat) : ∀ (k o : Int) (t : List UInt8) (kids : Fo) (A : Option Addr) (c : Nat) (w : World), fsize kids ≤ N → fsize kids ≤ 1073741824 → KT w kids A c →
    Calls Tryz.prog 181 #[.agg #[.int .i64 k, .string ⟨t.toArray⟩, .int .i64 o, .slice A kids.len c]] w fun e w' => e = .returned (.int .i64 ((fsize kids : Int) + 1)) ∧ Below w.heap.size w w' := by
  induction N using Nat.strongRecOn with
  | ind N ih =>
  intro k o t kids A c w hN hN2 hK
  have IH := Lib.hid ih
  have HK := Lib.hid hK
  clear ih hK
  have hlen := len_le_fsize kids
  obtain ⟨L, hL⟩ : ∃ L, kids.len = L := ⟨_, rfl⟩
  rw [hL] at hlen ⊢
  have HL := Lib.hid hL
  clear hL
  have hbB := heap_alloc_new w (.cells #[.int .i64 k, .string ⟨t.toArray⟩, .int .i64 o, .slice A L c] 34 (0, 0))
  have hB1 : Below w.heap.size w (w.alloc (.cells #[.int .i64 k, .string ⟨t.toArray⟩, .int .i64 o, .slice A L c] 34 (0, 0))) := (Below.refl _ _).alloc (Nat.le_refl _) _
  have hz1 : (w.alloc (.cells #[.int .i64 k, .string ⟨t.toArray⟩, .int .i64 o, .slice A L c] 34 (0, 0))).heap.size = w.heap.size + 1 := by simp
  obtain ⟨w2, hw2⟩ : ∃ w2, w.alloc (.cells #[.int .i64 k, .string ⟨t.toArray⟩, .int .i64 o, .slice A L c] 34 (0, 0)) = w2 := ⟨_, rfl⟩
  rw [hw2] at hbB hB1 hz1
  have HW := Lib.hid hw2
  have HBB := Lib.hid hbB
  have HB1 := Lib.hid hB1
  clear hw2 hbB hB1
  go_enter Tryz.func181, Tryz.ntmps181
  go_wp2_with (fail)
  go_loopw [3, 4] (fun nv iv wr => ∃ (n i : Nat) (r : Fo), nv = .int .i64 (n : Int) ∧ iv = .int .i64 (i : Int) ∧ Suf i r kids ∧ n + fsize r = fsize kids + 1 ∧ Below (w.heap.size + 1) w2 wr) (fun _ iv _ => L - (match iv with | .int _ n => n.toNat | _ => 0))
  case atStart => exact ⟨1, 0, kids, rfl, rfl, Suf.zero _, by omega, by rw [HW.out]; exact Below.refl _ _⟩
  case round =>
    obtain ⟨n, i, r, rfl, rfl, hsuf, hn, hbel⟩ := hrel
    have hlen' := hsuf.len
    rw [HL.out] at hlen'
    have hbs := hbel.size
    obtain ⟨b0, b1, b2, b3, y0, y1, y2, y3⟩ := row4 ((hbel.block _ (by omega)).trans HBB.out)
    have hB : Below w.heap.size w wr := HB1.out.trans (hbel.mono (by omega))
    cases r with
    | nil =>
      simp only [Fo.len, fsize] at hlen' hn
      have hge : decide (i < L) = false := by rw [decide_eq_false_iff_not]; omega
      have hn2 : (n : Int) = (fsize kids : Int) + 1 := by omega
      have HN := Lib.hid hn2
      have HB := Lib.hid hB
      clear hn hn2 hlen' hbel hsuf hB
      go_wp2_with (fail)
      go_ret
      exact ⟨congrArg (fun z : Int => Ending.returned (.int .i64 z)) HN.out, HB.out⟩
    | cons k1 t1 kids1 o1 r1 =>
      obtain ⟨g, off, A1, c1, rfl, hgl, q0, q1, q2, q3, hk1⟩ := HK.out.get hsuf hB
      obtain ⟨hkid, hil⟩ := hsuf.kid
      rw [HL.out] at hil
      simp only [fsize] at hn
      have hge : decide ((i : Int) < (L : Int)) = true := by rw [decide_eq_true_eq]; omega
      have hiL : (i : Int) < (L : Int) := by omega
      have hi0 : (0 : Int) ≤ (i : Int) := by omega
      have HBw := Lib.hid hB
      have HK1 := Lib.hid (hk1.below hB)
      have HS := Lib.hid hsuf
      have Hbel := Lib.hid hbel
      obtain ⟨hw, hw2⟩ := sum_in n (fsize kids1) (by omega)
      have Hn := Lib.hid hn
      clear hk1 hsuf hbel hn hlen' hB
      go_wp2_with (fail)
      refine (IH.out (fsize kids1) (by omega) k1 o1 t1 kids1 A1 c1 _ (Nat.le_refl _) (by omega) HK1.out).mono ?_
      rintro e1 w1 ⟨rfl, hb1⟩
      have HB2 := Lib.hid hb1
      clear hb1
      go_wp2_with (fail)
      have hn := Hn.out
      exact ⟨⟨n + (fsize kids1 + 1), i + 1, r1, rfl, rfl, HS.out.next, by omega, Hbel.out.trans (HB2.out.mono (by omega))⟩, by simp; omega⟩

set_option maxHeartbeats 1000000 in
theorem rdepth_any (N : Nat) : ∀ (k o : Int) (t : List UInt8) (kids : Fo) (A : Option Addr) (c : Nat) (w : World), fsize kids ≤ N → fsize kids ≤ 1073741824 → KT w kids A c →
    Calls Tryz.prog 182 #[.agg #[.int .i64 k, .string ⟨t.toArray⟩, .int .i64 o, .slice A kids.len c]] w fun e w' => e = .returned (.int .i64 ((depT kids : Int) + 1)) ∧ Below w.heap.size w w' := by
  induction N using Nat.strongRecOn with
  | ind N ih =>
  intro k o t kids A c w hN hN2 hK
  have IH := Lib.hid ih
  have HK := Lib.hid hK
  clear ih hK
  have hlen := len_le_fsize kids
  obtain ⟨L, hL⟩ : ∃ L, kids.len = L := ⟨_, rfl⟩
  rw [hL] at hlen ⊢
  have HL := Lib.hid hL
  clear hL
  have hbB := heap_alloc_new w (.cells #[.int .i64 k, .string ⟨t.toArray⟩, .int .i64 o, .slice A L c] 34 (0, 0))
  have hB1 : Below w.heap.size w (w.alloc (.cells #[.int .i64 k, .string ⟨t.toArray⟩, .int .i64 o, .slice A L c] 34 (0, 0))) := (Below.refl _ _).alloc (Nat.le_refl _) _
  have hz1 : (w.alloc (.cells #[.int .i64 k, .string ⟨t.toArray⟩, .int .i64 o, .slice A L c] 34 (0, 0))).heap.size = w.heap.size + 1 := by simp
  obtain ⟨w2, hw2⟩ : ∃ w2, w.alloc (.cells #[.int .i64 k, .string ⟨t.toArray⟩, .int .i64 o, .slice A L c] 34 (0, 0)) = w2 := ⟨_, rfl⟩
  rw [hw2] at hbB hB1 hz1
  have HW := Lib.hid hw2
  have HBB := Lib.hid hbB
  have HB1 := Lib.hid hB1
  clear hw2 hbB hB1
  go_enter Tryz.func182, Tryz.ntmps182
  go_wp2_with (fail)
  go_loopw [3, 4] (fun nv iv wr => ∃ (n i : Nat) (r : Fo), nv = .int .i64 (n : Int) ∧ iv = .int .i64 (i : Int) ∧ Suf i r kids ∧ max n (depT r) = depT kids ∧ Below (w.heap.size + 1) w2 wr) (fun _ iv _ => L - (match iv with | .int _ n => n.toNat | _ => 0))
  case atStart => exact ⟨0, 0, kids, rfl, rfl, Suf.zero _, by omega, by rw [HW.out]; exact Below.refl _ _⟩
  case round =>
    obtain ⟨n, i, r, rfl, rfl, hsuf, hn, hbel⟩ := hrel
    have hlen' := hsuf.len
    rw [HL.out] at hlen'
    have hbs := hbel.size
    obtain ⟨b0, b1, b2, b3, y0, y1, y2, y3⟩ := row4 ((hbel.block _ (by omega)).trans HBB.out)
    have hB : Below w.heap.size w wr := HB1.out.trans (hbel.mono (by omega))
    cases r with
    | nil =>
      simp only [Fo.len, depT] at hlen' hn
      have hge : decide (i < L) = false := by rw [decide_eq_false_iff_not]; omega
      have hn2 : (n : Int) + 1 = (depT kids : Int) + 1 := by omega
      have hnd := depT_le kids
      have hn3 : n ≤ 1073741824 := by omega
      clear hnd
      have HN := Lib.hid hn2
      have HB := Lib.hid hB
      clear hn hn2 hlen' hbel hsuf hB
      go_wp2_with (fail)
      go_ret
      exact ⟨congrArg (fun z : Int => Ending.returned (.int .i64 z)) HN.out, HB.out⟩
    | cons k1 t1 kids1 o1 r1 =>
      obtain ⟨g, off, A1, c1, rfl, hgl, q0, q1, q2, q3, hk1⟩ := HK.out.get hsuf hB
      obtain ⟨hkid, hil⟩ := hsuf.kid
      rw [HL.out] at hil
      simp only [depT] at hn
      have hge : decide ((i : Int) < (L : Int)) = true := by rw [decide_eq_true_eq]; omega
      have hiL : (i : Int) < (L : Int) := by omega
      have hi0 : (0 : Int) ≤ (i : Int) := by omega
      have HBw := Lib.hid hB
      have HK1 := Lib.hid (hk1.below hB)
      have HS := Lib.hid hsuf
      have Hbel := Lib.hid hbel
      have hkd := depT_le kids1
      have hkd3 : (depT kids1 : Int) ≤ 1073741824 := by omega
      clear hkd
      have Hn := Lib.hid hn
      clear hk1 hsuf hbel hn hlen' hB
      go_wp2_with (fail)
      refine (IH.out (fsize kids1) (by omega) k1 o1 t1 kids1 A1 c1 _ (Nat.le_refl _) (by omega) HK1.out).mono ?_
      rintro e1 w1 ⟨rfl, hb1⟩
      have HB2 := Lib.hid hb1
      clear hb1
      go_wp2_with (fail)
      have hn := Hn.out
      exact ⟨⟨max n (depT kids1 + 1), i + 1, r1, by congr 1; omega, rfl, HS.out.next, by rw [Nat.max_assoc]; exact hn, Hbel.out.trans (HB2.out.mono (by omega))⟩, by simp; omega⟩

end Go.Proofs.YtpkiheenkpcebaaGreatDoor
