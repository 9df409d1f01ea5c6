/- The program's IsIdent and isTypeName at every string. No condition but a bounded length. -/
import Derived.Test.YtpdigaankmgagaaUtil
import Derived.Test.YtpdigaankmgagaaSx
set_option linter.unusedVariables false
set_option linter.unusedSimpArgs false
namespace Go.Proofs.Ytpdigaankmgagaa
open Go.RowKit Sx

theorem tl_ne (s : ByteArray) (h : 1 ≤ s.size) : ¬ s.toList = [] := by
  rw [ByteArray.toList_eq]
  intro e
  have : s.data.toList.length = s.size := by simp
  rw [e] at this
  simp at this
  omega
theorem str_pos {a : UInt8} {l : List UInt8} : ∃ s : ByteArray, (⟨(a :: l).toArray⟩ : ByteArray) = s ∧ ¬ s.toList = [] ∧ s.toList.isEmpty = false := by
  have h := tl_ne ⟨(a :: l).toArray⟩ (by show 1 ≤ (a :: l).toArray.size; simp)
  refine ⟨_, rfl, h, ?_⟩
  cases e : (⟨(a :: l).toArray⟩ : ByteArray).toList with
  | nil => exact absurd e h
  | cons a b => rfl

theorem iLetter_any (n : Int) (w : World) (h0 : 0 ≤ n) (h1 : n ≤ 255) :
    Calls Try.prog 52 #[.int .u8 n] w fun e w' => e = .returned (.bool (letterB n)) ∧ w = w' := by
  go_enter Try.func52, Try.ntmps52
  go_wp2
  all_goals go_ret
  all_goals exact ⟨ret_bool (by rw [Bool.eq_iff_iff]; simp [letterB] <;> omega), rfl⟩
theorem iDigit_any (n : Int) (w : World) (h0 : 0 ≤ n) (h1 : n ≤ 255) :
    Calls Try.prog 53 #[.int .u8 n] w fun e w' => e = .returned (.bool (digitB n)) ∧ w = w' := by
  go_enter Try.func53, Try.ntmps53
  go_wp2
  all_goals go_ret
  all_goals exact ⟨ret_bool (by rw [Bool.eq_iff_iff]; simp [digitB] <;> omega), rfl⟩

def idC (n : Int) : Bool := letterB n || digitB n || decide (n = 95)
/-- what an identifier is -/
def identC (l : List UInt8) : Bool := decide (l.length ≤ 24) && (match l with | [] => false | c :: _ => letterB (c.toNat : Int)) && l.all fun c => idC (c.toNat : Int)
theorem identC_nil : identC [] = false := rfl
theorem identC_long {l : List UInt8} (h : 24 < l.length) : identC l = false := by simp [identC, show ¬ l.length ≤ 24 from by omega]
theorem identC_head {s : ByteArray} (h : 0 < s.size) (h24 : s.size ≤ 24) : identC s.data.toList = (letterB (s[0].toNat : Int) && s.data.toList.all fun c => idC (c.toNat : Int)) := by
  have hd := drop_at s 0 h
  rw [List.drop_zero] at hd
  have hl : s.data.toList.length ≤ 24 := by simpa using h24
  unfold identC
  rw [decide_eq_true hl, Bool.true_and, hd]
theorem all_drop2 {p : UInt8 → Bool} {s : ByteArray} {q : Nat} (h : q < s.size) : (s.data.toList.drop q).all p = (p s[q] && (s.data.toList.drop (q + 1)).all p) := by rw [drop_at s q h]; rfl

theorem litp_letter {n : Int} {b : Bool} (h0 : 0 ≤ n) (h1 : n ≤ 255) (h : letterB n = b) (W : World) : Calls Try.prog 52 #[.int .u8 n] W fun e w' => e = .returned (.bool b) ∧ W = w' :=
  (iLetter_any n W h0 h1).mono fun _ _ ⟨he, hw⟩ => ⟨by rw [he, h], hw⟩
theorem litp_digit {n : Int} {b : Bool} (h0 : 0 ≤ n) (h1 : n ≤ 255) (h : digitB n = b) (W : World) : Calls Try.prog 53 #[.int .u8 n] W fun e w' => e = .returned (.bool b) ∧ W = w' :=
  (iDigit_any n W h0 h1).mono fun _ _ ⟨he, hw⟩ => ⟨by rw [he, h], hw⟩
set_option maxHeartbeats 2000000 in
theorem identP_any (s : ByteArray) (w : World) (hs : s.size ≤ 281474976710656) :
    Calls Try.prog 41 #[.string s] w fun e w' => e = .returned (.bool (identC s.data.toList)) ∧ w = w' := by
  have hl : s.data.toList.length = s.size := by simp
  by_cases h1 : ¬ 1 ≤ s.size
  · have he : s = ByteArray.mk #[] := by
      apply ByteArray.ext
      apply Array.ext'
      exact List.eq_nil_of_length_eq_zero (by omega)
    subst he
    clear hs hl h1
    go_enter Try.func41, Try.ntmps41
    go_wp2_with (fail)
    go_ret
    exact ⟨rfl, rfl⟩
  have hp : 0 < s.size := by omega
  have h0 := tl_ne s (by omega)
  have h6 : s.toList.isEmpty = false := by cases h : s.toList with
    | nil => exact absurd h h0
    | cons a b => rfl
  by_cases h24 : 24 < s.size
  · have h2 : (24 : Int) < (s.size : Int) := by omega
    rw [identC_long (by omega)]
    clear hl hs
    go_enter Try.func41, Try.ntmps41
    go_wp2_with (fail)
    go_ret
    exact ⟨rfl, rfl⟩
  have h2 : ¬ (24 : Int) < (s.size : Int) := by omega
  have hp' : (0 : Int) < (s.size : Int) := by omega
  have c0 := byte_lo s[0]
  have c1 := byte_hi s[0]
  rw [identC_head hp (by omega)]
  cases hL : letterB (s[0].toNat : Int) with
  | false =>
    have Hc := Lib.hid (litp_letter c0 c1 hL)
    rw [Bool.false_and]
    clear hL hl hs h1 h24
    go_enter Try.func41, Try.ntmps41
    go_wp2_with (go_at_call 52; refine (Hc.out _).mono ?_; rintro e1 w1 ⟨rfl, rfl⟩)
    go_ret
    exact ⟨rfl, rfl⟩
  | true =>
    have Hc := Lib.hid (litp_letter c0 c1 hL)
    rw [Bool.true_and]
    obtain ⟨V, hV⟩ : ∃ V, (s.data.toList.all fun c => idC (c.toNat : Int)) = V := ⟨_, rfl⟩
    rw [hV]
    have HV := Lib.hid hV
    clear hL hl h1 h24 hV
    go_enter Try.func41, Try.ntmps41
    go_wp2_with (go_at_call 52; refine (Hc.out _).mono ?_; rintro e1 w1 ⟨rfl, rfl⟩)
    go_loopw [2, 3, 19] (fun _ _ i wr => ∃ q : Nat, i = .int .i64 (q : Int) ∧ q ≤ s.size ∧ wr = w ∧ (s.data.toList.drop q).all (fun c => idC (c.toNat : Int)) = V) (fun _ _ i _ => s.size - (match i with | .int _ n => n.toNat | _ => 0))
    case atStart => exact ⟨0, rfl, Nat.zero_le _, rfl, by rw [List.drop_zero]; exact HV.out⟩
    case round =>
      obtain ⟨q, rfl, hq, rfl, hall⟩ := hrel
      by_cases hlt : q < s.size
      · have hti : decide ((q : Int) < (s.size : Int)) = true := by rw [decide_eq_true_eq]; omega
        rw [all_drop2 hlt] at hall
        have Hall := Lib.hid hall
        clear hall Hc c0 c1
        have b0 := byte_lo s[q]
        have b1 := byte_hi s[q]
        cases hL : letterB (s[q].toNat : Int) with
        | true =>
          have H1 := Lib.hid (litp_letter b0 b1 hL)
          have e : idC (s[q].toNat : Int) = true := by simp [idC, hL]
          have HE := Lib.hid e
          clear hL e
          go_wp2_with (go_at_call 52; refine (H1.out _).mono ?_; rintro e1 w1 ⟨rfl, rfl⟩)
          exact ⟨⟨q + 1, rfl, hlt, trivial, by have h := Hall.out; rw [HE.out, Bool.true_and] at h; exact h⟩, by simp; omega⟩
        | false =>
          have H1 := Lib.hid (litp_letter b0 b1 hL)
          cases hD : digitB (s[q].toNat : Int) with
          | true =>
            have H2 := Lib.hid (litp_digit b0 b1 hD)
            have e : idC (s[q].toNat : Int) = true := by simp [idC, hD]
            have HE := Lib.hid e
            clear hL hD e
            go_wp2_with (first | (go_at_call 52; refine (H1.out _).mono ?_; rintro e1 w1 ⟨rfl, rfl⟩) | (go_at_call 53; refine (H2.out _).mono ?_; rintro e1 w1 ⟨rfl, rfl⟩))
            exact ⟨⟨q + 1, rfl, hlt, trivial, by have h := Hall.out; rw [HE.out, Bool.true_and] at h; exact h⟩, by simp; omega⟩
          | false =>
            have H2 := Lib.hid (litp_digit b0 b1 hD)
            by_cases h95 : (s[q].toNat : Int) = 95
            · have e : idC (s[q].toNat : Int) = true := by simp [idC, h95]
              have HE := Lib.hid e
              have t1 : ((s[q].toNat : Int) == 95) = true := by simp [h95]
              have t2 : ((s[q].toNat : Int) != 95) = false := by simp [h95]
              clear hL hD e h95
              go_wp2_with (first | (go_at_call 52; refine (H1.out _).mono ?_; rintro e1 w1 ⟨rfl, rfl⟩) | (go_at_call 53; refine (H2.out _).mono ?_; rintro e1 w1 ⟨rfl, rfl⟩))
              exact ⟨⟨q + 1, rfl, hlt, trivial, by have h := Hall.out; rw [HE.out, Bool.true_and] at h; exact h⟩, by simp; omega⟩
            · have e : idC (s[q].toNat : Int) = false := by simp [idC, h95, hL, hD]
              have HE := Lib.hid e
              have t1 : ((s[q].toNat : Int) == 95) = false := by rw [beq_eq_false_iff_ne]; exact h95
              have t2 : ((s[q].toNat : Int) != 95) = true := by rw [bne_iff_ne]; exact h95
              clear hL hD e h95
              go_wp2_with (first | (go_at_call 52; refine (H1.out _).mono ?_; rintro e1 w1 ⟨rfl, rfl⟩) | (go_at_call 53; refine (H2.out _).mono ?_; rintro e1 w1 ⟨rfl, rfl⟩))
              go_ret
              exact ⟨congrArg (fun b => Ending.returned (.bool b)) (by have h := Hall.out; rw [HE.out, Bool.false_and] at h; exact h), rfl⟩
      · have hti : decide ((q : Int) < (s.size : Int)) = false := by rw [decide_eq_false_iff_not]; omega
        have hti2 : decide (q < s.size) = false := by rw [decide_eq_false_iff_not]; omega
        rw [List.drop_eq_nil_of_le (by simp; omega)] at hall
        have Hall := Lib.hid hall
        clear hall
        go_wp2_with (fail)
        go_ret
        exact ⟨congrArg (fun b => Ending.returned (.bool b)) Hall.out, rfl⟩


def kwL : List (List UInt8) := [[65, 110, 121], [78, 101, 118, 101, 114], [116, 117, 112, 108, 101], [117, 110, 105, 111, 110], [101, 120, 105, 115, 116, 115]]
/-- a name that a nominal type may have -/
def tyB (l : List UInt8) : Bool := !kwL.contains l && identC l

set_option maxHeartbeats 1000000 in
theorem isTypeName_any (s : ByteArray) (w : World) (hs : s.size ≤ 281474976710656) {V : Bool} (hV : tyB s.data.toList = V) :
    Calls Try.prog 65 #[.string s] w fun e w' => e = .returned (.bool V) ∧ w = w' := by
  subst hV
  have ext : ∀ l : List UInt8, s.data.toList = l → s = ⟨l.toArray⟩ := fun l h => by
    apply ByteArray.ext
    apply Array.ext'
    rw [h]
  by_cases h1 : s.data.toList = [65, 110, 121]
  · obtain rfl := ext _ h1
    go_enter Try.func65, Try.ntmps65
    go_wp2_with (fail)
    go_ret
    exact ⟨rfl, rfl⟩
  by_cases h2 : s.data.toList = [78, 101, 118, 101, 114]
  · obtain rfl := ext _ h2
    go_enter Try.func65, Try.ntmps65
    go_wp2_with (fail)
    go_ret
    exact ⟨rfl, rfl⟩
  by_cases h3 : s.data.toList = [116, 117, 112, 108, 101]
  · obtain rfl := ext _ h3
    go_enter Try.func65, Try.ntmps65
    go_wp2_with (fail)
    go_ret
    exact ⟨rfl, rfl⟩
  by_cases h4 : s.data.toList = [117, 110, 105, 111, 110]
  · obtain rfl := ext _ h4
    go_enter Try.func65, Try.ntmps65
    go_wp2_with (fail)
    go_ret
    exact ⟨rfl, rfl⟩
  by_cases h5 : s.data.toList = [101, 120, 105, 115, 116, 115]
  · obtain rfl := ext _ h5
    go_enter Try.func65, Try.ntmps65
    go_wp2_with (fail)
    go_ret
    exact ⟨rfl, rfl⟩
  have hr : tyB s.data.toList = identC s.data.toList := by simp [tyB, kwL, h1, h2, h3, h4, h5]
  rw [hr]
  have HI := Lib.hid (fun W => identP_any s W hs)
  rw [← ByteArray.toList_eq] at h1 h2 h3 h4 h5
  have q1 : (s.toList == [65, 110, 121]) = false := by simpa using h1
  have q2 : (s.toList == [78, 101, 118, 101, 114]) = false := by simpa using h2
  have q3 : (s.toList == [116, 117, 112, 108, 101]) = false := by simpa using h3
  have q4 : (s.toList == [117, 110, 105, 111, 110]) = false := by simpa using h4
  have q5 : (s.toList == [101, 120, 105, 115, 116, 115]) = false := by simpa using h5
  clear hr ext
  go_enter Try.func65, Try.ntmps65
  go_wp2_with (fail)
  refine (HI.out _).mono ?_
  rintro e w1 ⟨rfl, rfl⟩
  go_wp2_with (fail)
  go_ret
  exact ⟨rfl, rfl⟩
end Go.Proofs.Ytpdigaankmgagaa
