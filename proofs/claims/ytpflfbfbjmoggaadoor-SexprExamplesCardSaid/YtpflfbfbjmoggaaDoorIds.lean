/- sexpr.IsIdent and telref1.IsIdent at every string. No condition but a bounded length. -/
import Derived.Test.YtpflfbfbjmoggaaDoorRWb
import Derived.Test.YtpflfbfbjmoggaaDoorVal
set_option linter.unusedVariables false
set_option linter.unusedSimpArgs false
namespace Go.Proofs.YtpflfbfbjmoggaaDoor
open Go.RowKit Sx

def idB (n : Int) : Bool := letterB n || digitB n || decide (n = 95)
/-- what an identifier is -/
def identB (l : List UInt8) : Bool := decide (l.length ≤ 24) && (match l with | [] => false | c :: _ => letterB (c.toNat : Int)) && l.all fun c => idB (c.toNat : Int)
theorem identB_nil : identB [] = false := rfl
theorem identB_long {l : List UInt8} (h : 24 < l.length) : identB l = false := by simp [identB, show ¬ l.length ≤ 24 from by omega]
theorem identB_head {s : ByteArray} (h : 0 < s.size) (h24 : s.size ≤ 24) : identB s.data.toList = (letterB (s[0].toNat : Int) && s.data.toList.all fun c => idB (c.toNat : Int)) := by
  have hd := drop_at s 0 h
  rw [List.drop_zero] at hd
  have hl : s.data.toList.length ≤ 24 := by simpa using h24
  unfold identB
  rw [decide_eq_true hl, Bool.true_and, hd]
theorem all_drop' {p : UInt8 → Bool} {s : ByteArray} {q : Nat} (h : q < s.size) : (s.data.toList.drop q).all p = (p s[q] && (s.data.toList.drop (q + 1)).all p) := by rw [drop_at s q h]; rfl

theorem lit_letter {n : Int} {b : Bool} (h0 : 0 ≤ n) (h1 : n ≤ 255) (h : letterB n = b) (W : World) : Calls Tryd.prog 54 #[.int .u8 n] W fun e w' => e = .returned (.bool b) ∧ W = w' :=
  (isLetter_any n W h0 h1).mono fun _ _ ⟨he, hw⟩ => ⟨by rw [he, h], hw⟩
theorem lit_digit {n : Int} {b : Bool} (h0 : 0 ≤ n) (h1 : n ≤ 255) (h : digitB n = b) (W : World) : Calls Tryd.prog 55 #[.int .u8 n] W fun e w' => e = .returned (.bool b) ∧ W = w' :=
  (isDigit_any n W h0 h1).mono fun _ _ ⟨he, hw⟩ => ⟨by rw [he, h], hw⟩
theorem lit_rletter {n : Int} {b : Bool} (h0 : 0 ≤ n) (h1 : n ≤ 255) (h : letterB n = b) (W : World) : Calls Tryd.prog 63 #[.int .u8 n] W fun e w' => e = .returned (.bool b) ∧ W = w' :=
  (rIsLetter_any n W h0 h1).mono fun _ _ ⟨he, hw⟩ => ⟨by rw [he, h], hw⟩
theorem lit_rword {n : Int} {b : Bool} (h0 : 0 ≤ n) (h1 : n ≤ 255) (h : wordB n = b) (W : World) : Calls Tryd.prog 64 #[.int .u8 n] W fun e w' => e = .returned (.bool b) ∧ W = w' :=
  (rIsWordByte_any n W h0 h1).mono fun _ _ ⟨he, hw⟩ => ⟨by rw [he, h], hw⟩

set_option maxHeartbeats 2000000 in
theorem ident_any (s : ByteArray) (w : World) (hs : s.size ≤ 281474976710656) :
    Calls Tryd.prog 15 #[.string s] w fun e w' => e = .returned (.bool (identB s.data.toList)) ∧ w = w' := by
  have hl : s.data.toList.length = s.size := by simp
  by_cases h1 : ¬ 1 ≤ s.size
  · have he : s = ByteArray.mk #[] := by
      apply ByteArray.ext
      apply Array.ext'
      exact List.eq_nil_of_length_eq_zero (by omega)
    subst he
    clear hs hl h1
    go_enter Tryd.func15, Tryd.ntmps15
    go_wp2_with (fail)
    go_ret
    exact ⟨rfl, rfl⟩
  have hp : 0 < s.size := by omega
  have h0 := toList_ne s (by omega)
  have h6 : s.toList.isEmpty = false := by cases h : s.toList with
    | nil => exact absurd h h0
    | cons a b => rfl
  by_cases h24 : 24 < s.size
  · have h2 : (24 : Int) < (s.size : Int) := by omega
    rw [identB_long (by omega)]
    clear hl hs
    go_enter Tryd.func15, Tryd.ntmps15
    go_wp2_with (fail)
    go_ret
    exact ⟨rfl, rfl⟩
  have h2 : ¬ (24 : Int) < (s.size : Int) := by omega
  have hp' : (0 : Int) < (s.size : Int) := by omega
  have c0 := byte_lo s[0]
  have c1 := byte_hi s[0]
  rw [identB_head hp (by omega)]
  cases hL : letterB (s[0].toNat : Int) with
  | false =>
    have Hc := Lib.hid (lit_letter c0 c1 hL)
    rw [Bool.false_and]
    clear hL hl hs h1 h24
    go_enter Tryd.func15, Tryd.ntmps15
    go_wp2_with (go_at_call 54; refine (Hc.out _).mono ?_; rintro e1 w1 ⟨rfl, rfl⟩)
    go_ret
    exact ⟨rfl, rfl⟩
  | true =>
    have Hc := Lib.hid (lit_letter c0 c1 hL)
    rw [Bool.true_and]
    obtain ⟨V, hV⟩ : ∃ V, (s.data.toList.all fun c => idB (c.toNat : Int)) = V := ⟨_, rfl⟩
    rw [hV]
    have HV := Lib.hid hV
    clear hL hl h1 h24 hV
    go_enter Tryd.func15, Tryd.ntmps15
    go_wp2_with (go_at_call 54; refine (Hc.out _).mono ?_; rintro e1 w1 ⟨rfl, rfl⟩)
    go_loopw [2, 3, 19] (fun _ _ i wr => ∃ q : Nat, i = .int .i64 (q : Int) ∧ q ≤ s.size ∧ wr = w ∧ (s.data.toList.drop q).all (fun c => idB (c.toNat : Int)) = V) (fun _ _ i _ => s.size - (match i with | .int _ n => n.toNat | _ => 0))
    case atStart => exact ⟨0, rfl, Nat.zero_le _, rfl, by rw [List.drop_zero]; exact HV.out⟩
    case round =>
      obtain ⟨q, rfl, hq, rfl, hall⟩ := hrel
      by_cases hlt : q < s.size
      · have hti : decide ((q : Int) < (s.size : Int)) = true := by rw [decide_eq_true_eq]; omega
        rw [all_drop' hlt] at hall
        have Hall := Lib.hid hall
        clear hall Hc c0 c1
        have b0 := byte_lo s[q]
        have b1 := byte_hi s[q]
        cases hL : letterB (s[q].toNat : Int) with
        | true =>
          have H1 := Lib.hid (lit_letter b0 b1 hL)
          have e : idB (s[q].toNat : Int) = true := by simp [idB, hL]
          have HE := Lib.hid e
          clear hL e
          go_wp2_with (go_at_call 54; refine (H1.out _).mono ?_; rintro e1 w1 ⟨rfl, rfl⟩)
          exact ⟨⟨q + 1, rfl, hlt, trivial, by have h := Hall.out; rw [HE.out, Bool.true_and] at h; exact h⟩, by simp; omega⟩
        | false =>
          have H1 := Lib.hid (lit_letter b0 b1 hL)
          cases hD : digitB (s[q].toNat : Int) with
          | true =>
            have H2 := Lib.hid (lit_digit b0 b1 hD)
            have e : idB (s[q].toNat : Int) = true := by simp [idB, hD]
            have HE := Lib.hid e
            clear hL hD e
            go_wp2_with (first | (go_at_call 54; refine (H1.out _).mono ?_; rintro e1 w1 ⟨rfl, rfl⟩) | (go_at_call 55; refine (H2.out _).mono ?_; rintro e1 w1 ⟨rfl, rfl⟩))
            exact ⟨⟨q + 1, rfl, hlt, trivial, by have h := Hall.out; rw [HE.out, Bool.true_and] at h; exact h⟩, by simp; omega⟩
          | false =>
            have H2 := Lib.hid (lit_digit b0 b1 hD)
            by_cases h95 : (s[q].toNat : Int) = 95
            · have e : idB (s[q].toNat : Int) = true := by simp [idB, h95]
              have HE := Lib.hid e
              have t1 : ((s[q].toNat : Int) == 95) = true := by simp [h95]
              have t2 : ((s[q].toNat : Int) != 95) = false := by simp [h95]
              clear hL hD e h95
              go_wp2_with (first | (go_at_call 54; refine (H1.out _).mono ?_; rintro e1 w1 ⟨rfl, rfl⟩) | (go_at_call 55; refine (H2.out _).mono ?_; rintro e1 w1 ⟨rfl, rfl⟩))
              exact ⟨⟨q + 1, rfl, hlt, trivial, by have h := Hall.out; rw [HE.out, Bool.true_and] at h; exact h⟩, by simp; omega⟩
            · have e : idB (s[q].toNat : Int) = false := by simp [idB, h95, hL, hD]
              have HE := Lib.hid e
              have t1 : ((s[q].toNat : Int) == 95) = false := by rw [beq_eq_false_iff_ne]; exact h95
              have t2 : ((s[q].toNat : Int) != 95) = true := by rw [bne_iff_ne]; exact h95
              clear hL hD e h95
              go_wp2_with (first | (go_at_call 54; refine (H1.out _).mono ?_; rintro e1 w1 ⟨rfl, rfl⟩) | (go_at_call 55; refine (H2.out _).mono ?_; rintro e1 w1 ⟨rfl, rfl⟩))
              go_ret
              exact ⟨congrArg (fun b => Ending.returned (.bool b)) (by have h := Hall.out; rw [HE.out, Bool.false_and] at h; exact h), rfl⟩
      · have hti : decide ((q : Int) < (s.size : Int)) = false := by rw [decide_eq_false_iff_not]; omega
        have hti2 : decide (q < s.size) = false := by rw [decide_eq_false_iff_not]; omega
        rw [List.drop_eq_nil_of_le (by simp; omega)] at hall
        have Hall := Lib.hid hall
        clear hall
        go_wp2_with (fail)
        go_ret
        exact ⟨congrArg (fun b => Ending.returned (.bool b)) Hall.out, rfl⟩

theorem id_word (n : Int) : idB n = (wordB n && !decide (n = 45)) := by
  rw [Bool.eq_iff_iff]
  simp [idB, wordB, letterB, digitB]
  omega

set_option maxHeartbeats 2000000 in
theorem rIdent_any (s : ByteArray) (w : World) (hs : s.size ≤ 281474976710656) :
    Calls Tryd.prog 31 #[.string s] w fun e w' => e = .returned (.bool (identB s.data.toList)) ∧ w = w' := by
  have hl : s.data.toList.length = s.size := by simp
  by_cases h1 : s.size = 0
  · have t1 : decide ((s.size : Int) < 1) = true := by rw [decide_eq_true_eq]; omega
    rw [show s.data.toList = [] from List.eq_nil_of_length_eq_zero (by omega), identB_nil]
    clear h1 hl hs
    go_enter Tryd.func31, Tryd.ntmps31
    go_wp2_with (fail)
    go_ret
    exact ⟨rfl, rfl⟩
  have t1 : decide ((s.size : Int) < 1) = false := by rw [decide_eq_false_iff_not]; omega
  have hp : 0 < s.size := by omega
  by_cases h24 : 24 < s.size
  · have h2 : (24 : Int) < (s.size : Int) := by omega
    rw [identB_long (by omega)]
    clear hl hs
    go_enter Tryd.func31, Tryd.ntmps31
    go_wp2_with (fail)
    go_ret
    exact ⟨rfl, rfl⟩
  have h2 : ¬ (24 : Int) < (s.size : Int) := by omega
  have hp' : (0 : Int) < (s.size : Int) := by omega
  have c0 := byte_lo s[0]
  have c1 := byte_hi s[0]
  rw [identB_head hp (by omega)]
  cases hL : letterB (s[0].toNat : Int) with
  | false =>
    have Hc := Lib.hid (lit_rletter c0 c1 hL)
    rw [Bool.false_and]
    clear hL hl hs h1 h24
    go_enter Tryd.func31, Tryd.ntmps31
    go_wp2_with (go_at_call 63; refine (Hc.out _).mono ?_; rintro e1 w1 ⟨rfl, rfl⟩)
    go_ret
    exact ⟨rfl, rfl⟩
  | true =>
    have Hc := Lib.hid (lit_rletter c0 c1 hL)
    rw [Bool.true_and]
    obtain ⟨V, hV⟩ : ∃ V, (s.data.toList.all fun c => idB (c.toNat : Int)) = V := ⟨_, rfl⟩
    rw [hV]
    have HV := Lib.hid hV
    clear hL hl h1 h24 hV
    go_enter Tryd.func31, Tryd.ntmps31
    go_wp2_with (go_at_call 63; refine (Hc.out _).mono ?_; rintro e1 w1 ⟨rfl, rfl⟩)
    go_loopw [2, 3] (fun _ i wr => ∃ q : Nat, i = .int .i64 (q : Int) ∧ q ≤ s.size ∧ wr = w ∧ (s.data.toList.drop q).all (fun c => idB (c.toNat : Int)) = V) (fun _ i _ => s.size - (match i with | .int _ n => n.toNat | _ => 0))
    case atStart => exact ⟨0, rfl, Nat.zero_le _, rfl, by rw [List.drop_zero]; exact HV.out⟩
    case round =>
      obtain ⟨q, rfl, hq, rfl, hall⟩ := hrel
      by_cases hlt : q < s.size
      · have hti : decide ((q : Int) < (s.size : Int)) = true := by rw [decide_eq_true_eq]; omega
        rw [all_drop' hlt] at hall
        have Hall := Lib.hid hall
        clear hall Hc c0 c1
        have b0 := byte_lo s[q]
        have b1 := byte_hi s[q]
        have hw := id_word (s[q].toNat : Int)
        cases hL : wordB (s[q].toNat : Int) with
        | true =>
          have H1 := Lib.hid (lit_rword b0 b1 hL)
          rw [hL, Bool.true_and] at hw
          by_cases h45 : (s[q].toNat : Int) = 45
          · have t2 : ((s[q].toNat : Int) == 45) = true := by simp [h45]
            have HE := Lib.hid (show idB (s[q].toNat : Int) = false by rw [hw]; simp [h45])
            clear hL hw h45
            go_wp2_with (go_at_call 64; refine (H1.out _).mono ?_; rintro e1 w1 ⟨rfl, rfl⟩)
            go_ret
            exact ⟨congrArg (fun b => Ending.returned (.bool b)) (by have h := Hall.out; rw [HE.out, Bool.false_and] at h; exact h), rfl⟩
          · have t2 : ((s[q].toNat : Int) == 45) = false := by rw [beq_eq_false_iff_ne]; exact h45
            have HE := Lib.hid (show idB (s[q].toNat : Int) = true by rw [hw]; simp [h45])
            clear hL hw h45
            go_wp2_with (go_at_call 64; refine (H1.out _).mono ?_; rintro e1 w1 ⟨rfl, rfl⟩)
            exact ⟨⟨q + 1, rfl, hlt, trivial, by have h := Hall.out; rw [HE.out, Bool.true_and] at h; exact h⟩, by simp; omega⟩
        | false =>
          have H1 := Lib.hid (lit_rword b0 b1 hL)
          have HE := Lib.hid (show idB (s[q].toNat : Int) = false by rw [hw, hL]; rfl)
          clear hL hw
          go_wp2_with (go_at_call 64; refine (H1.out _).mono ?_; rintro e1 w1 ⟨rfl, rfl⟩)
          go_ret
          exact ⟨congrArg (fun b => Ending.returned (.bool b)) (by have h := Hall.out; rw [HE.out, Bool.false_and] at h; exact h), rfl⟩
      · have hti : decide ((q : Int) < (s.size : Int)) = false := by rw [decide_eq_false_iff_not]; omega
        have hti2 : decide (q < s.size) = false := by rw [decide_eq_false_iff_not]; omega
        rw [List.drop_eq_nil_of_le (by simp; omega)] at hall
        have Hall := Lib.hid hall
        clear hall
        go_wp2_with (fail)
        go_ret
        exact ⟨congrArg (fun b => Ending.returned (.bool b)) Hall.out, rfl⟩
end Go.Proofs.YtpflfbfbjmoggaaDoor
