/- telref1.IsIdent at every string. No condition but a bounded length. -/
import Derived.Test.YtnidngpenhblcaaDoorRWb
import Derived.Test.YtnidngpenhblcaaDoorIdp
set_option linter.unusedVariables false
set_option linter.unusedSimpArgs false
namespace Go.Proofs.YtnidngpenhblcaaDoor
open Go.RowKit Sx

theorem lit_rletter {n : Int} {b : Bool} (h0 : 0 ≤ n) (h1 : n ≤ 255) (h : letterB n = b) (W : World) : Calls Tryd.prog 95 #[.int .u8 n] W fun e w' => e = .returned (.bool b) ∧ W = w' :=
  (rIsLetter_any n W h0 h1).mono fun _ _ ⟨he, hw⟩ => ⟨by rw [he, h], hw⟩
theorem lit_rword {n : Int} {b : Bool} (h0 : 0 ≤ n) (h1 : n ≤ 255) (h : wordB n = b) (W : World) : Calls Tryd.prog 96 #[.int .u8 n] W fun e w' => e = .returned (.bool b) ∧ W = w' :=
  (rIsWordByte_any n W h0 h1).mono fun _ _ ⟨he, hw⟩ => ⟨by rw [he, h], hw⟩


theorem id_word (n : Int) : idC n = (wordB n && !decide (n = 45)) := by
  rw [Bool.eq_iff_iff]
  simp [idC, wordB, letterB, digitB]
  omega

set_option maxHeartbeats 2000000 in
theorem rIdentC_any (s : ByteArray) (w : World) (hs : s.size ≤ 281474976710656) :
    Calls Tryd.prog 81 #[.string s] w fun e w' => e = .returned (.bool (identC s.data.toList)) ∧ w = w' := by
  have hl : s.data.toList.length = s.size := by simp
  by_cases h1 : s.size = 0
  · have t1 : decide ((s.size : Int) < 1) = true := by rw [decide_eq_true_eq]; omega
    rw [show s.data.toList = [] from List.eq_nil_of_length_eq_zero (by omega), identC_nil]
    clear h1 hl hs
    go_enter Tryd.func81, Tryd.ntmps81
    go_wp2_with (fail)
    go_ret
    exact ⟨rfl, rfl⟩
  have t1 : decide ((s.size : Int) < 1) = false := by rw [decide_eq_false_iff_not]; omega
  have hp : 0 < s.size := by omega
  by_cases h24 : 24 < s.size
  · have h2 : (24 : Int) < (s.size : Int) := by omega
    rw [identC_long (by omega)]
    clear hl hs
    go_enter Tryd.func81, Tryd.ntmps81
    go_wp2_with (fail)
    go_ret
    exact ⟨rfl, rfl⟩
  have h2 : ¬ (24 : Int) < (s.size : Int) := by omega
  have hp' : (0 : Int) < (s.size : Int) := by omega
  have c0 := byte_lo s[0]
  have c1 := byte_hi s[0]
  rw [identC_head hp (by omega)]
  cases hL : letterB (s[0].toNat : Int) with
  | false =>
    have Hc := Lib.hid (lit_rletter c0 c1 hL)
    rw [Bool.false_and]
    clear hL hl hs h1 h24
    go_enter Tryd.func81, Tryd.ntmps81
    go_wp2_with (go_at_call 95; refine (Hc.out _).mono ?_; rintro e1 w1 ⟨rfl, rfl⟩)
    go_ret
    exact ⟨rfl, rfl⟩
  | true =>
    have Hc := Lib.hid (lit_rletter c0 c1 hL)
    rw [Bool.true_and]
    obtain ⟨V, hV⟩ : ∃ V, (s.data.toList.all fun c => idC (c.toNat : Int)) = V := ⟨_, rfl⟩
    rw [hV]
    have HV := Lib.hid hV
    clear hL hl h1 h24 hV
    go_enter Tryd.func81, Tryd.ntmps81
    go_wp2_with (go_at_call 95; refine (Hc.out _).mono ?_; rintro e1 w1 ⟨rfl, rfl⟩)
    go_loopw [2, 3] (fun _ i wr => ∃ q : Nat, i = .int .i64 (q : Int) ∧ q ≤ s.size ∧ wr = w ∧ (s.data.toList.drop q).all (fun c => idC (c.toNat : Int)) = V) (fun _ i _ => s.size - (match i with | .int _ n => n.toNat | _ => 0))
    case atStart => exact ⟨0, rfl, Nat.zero_le _, rfl, by rw [List.drop_zero]; exact HV.out⟩
    case round =>
      obtain ⟨q, rfl, hq, rfl, hall⟩ := hrel
      by_cases hlt : q < s.size
      · have hti : decide ((q : Int) < (s.size : Int)) = true := by rw [decide_eq_true_eq]; omega
        rw [all_drop2 hlt] at hall
        have Hall := Lib.hid hall
        clear hall Hc c0 c1
        have b0 := byte_lo s[q]
        have b1 := byte_hi s[q]
        have hw := id_word (s[q].toNat : Int)
        cases hL : wordB (s[q].toNat : Int) with
        | true =>
          have H1 := Lib.hid (lit_rword b0 b1 hL)
          rw [hL, Bool.true_and] at hw
          by_cases h45 : (s[q].toNat : Int) = 45
          · have t2 : ((s[q].toNat : Int) == 45) = true := by simp [h45]
            have HE := Lib.hid (show idC (s[q].toNat : Int) = false by rw [hw]; simp [h45])
            clear hL hw h45
            go_wp2_with (go_at_call 96; refine (H1.out _).mono ?_; rintro e1 w1 ⟨rfl, rfl⟩)
            go_ret
            exact ⟨congrArg (fun b => Ending.returned (.bool b)) (by have h := Hall.out; rw [HE.out, Bool.false_and] at h; exact h), rfl⟩
          · have t2 : ((s[q].toNat : Int) == 45) = false := by rw [beq_eq_false_iff_ne]; exact h45
            have HE := Lib.hid (show idC (s[q].toNat : Int) = true by rw [hw]; simp [h45])
            clear hL hw h45
            go_wp2_with (go_at_call 96; refine (H1.out _).mono ?_; rintro e1 w1 ⟨rfl, rfl⟩)
            exact ⟨⟨q + 1, rfl, hlt, trivial, by have h := Hall.out; rw [HE.out, Bool.true_and] at h; exact h⟩, by simp; omega⟩
        | false =>
          have H1 := Lib.hid (lit_rword b0 b1 hL)
          have HE := Lib.hid (show idC (s[q].toNat : Int) = false by rw [hw, hL]; rfl)
          clear hL hw
          go_wp2_with (go_at_call 96; refine (H1.out _).mono ?_; rintro e1 w1 ⟨rfl, rfl⟩)
          go_ret
          exact ⟨congrArg (fun b => Ending.returned (.bool b)) (by have h := Hall.out; rw [HE.out, Bool.false_and] at h; exact h), rfl⟩
      · have hti : decide ((q : Int) < (s.size : Int)) = false := by rw [decide_eq_false_iff_not]; omega
        have hti2 : decide (q < s.size) = false := by rw [decide_eq_false_iff_not]; omega
        rw [List.drop_eq_nil_of_le (by simp; omega)] at hall
        have Hall := Lib.hid hall
        clear hall
        go_wp2_with (fail)
        go_ret
        exact ⟨congrArg (fun b => Ending.returned (.bool b)) Hall.out, rfl⟩
end Go.Proofs.YtnidngpenhblcaaDoor
