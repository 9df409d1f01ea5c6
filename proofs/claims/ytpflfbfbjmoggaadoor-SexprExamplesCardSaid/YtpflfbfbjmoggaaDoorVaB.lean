/- sexpr.isWord and isStringValue at any string. No condition but a bounded length. -/
import Derived.Test.YtpflfbfbjmoggaaDoorVal
set_option linter.unusedVariables false
set_option linter.unusedSimpArgs false
namespace Go.Proofs.YtpflfbfbjmoggaaDoor
open Go.RowKit Sx

theorem all_drop {p : UInt8 → Bool} {s : ByteArray} {q : Nat} (h : q < s.size) : (s.data.toList.drop q).all p = (p s[q] && (s.data.toList.drop (q + 1)).all p) := by rw [drop_at s q h]; rfl

set_option maxHeartbeats 1000000 in
theorem isWord_all (s : ByteArray) (w : World) (hm : s.size ≤ 1073741824) :
    Calls Tryd.prog 92 #[.string s] w fun e w' => e = .returned (.bool (okW s.data.toList)) ∧ w = w' := by
  have hl : s.data.toList.length = s.size := by simp
  by_cases h1 : ¬ 1 ≤ s.size
  · have hs : s = ByteArray.mk #[] := by
      apply ByteArray.ext
      apply Array.ext'
      exact List.eq_nil_of_length_eq_zero (by omega)
    subst hs
    go_enter Tryd.func92, Tryd.ntmps92
    go_wp2_with (fail)
    go_ret
    exact ⟨rfl, rfl⟩
  have h1' : 1 ≤ s.size := by omega
  have h0 := toList_ne s h1'
  have h6 : s.toList.isEmpty = false := by cases h : s.toList with
    | nil => exact absurd h h0
    | cons a b => rfl
  have hne : s.data.toList.isEmpty = false := by cases h : s.data.toList with
    | nil => rw [h] at hl; simp at hl; omega
    | cons a b => rfl
  by_cases h24 : 24 < s.size
  · have h2 : (24 : Int) < (s.size : Int) := by omega
    have hf : okW s.data.toList = false := by simp only [okW, hl, show ¬ s.size ≤ 24 from by omega, decide_false, Bool.and_false]
    rw [hf]
    have Hl := Lib.hid hl
    clear hl hf
    go_enter Tryd.func92, Tryd.ntmps92
    go_wp2_with (fail)
    go_ret
    exact ⟨rfl, rfl⟩
  have h2 : ¬ (24 : Int) < (s.size : Int) := by omega
  have hf : okW s.data.toList = s.data.toList.all (fun c => wordB (c.toNat : Int)) := by simp only [okW, hl, hne, show s.size ≤ 24 from by omega, decide_true, Bool.and_true, Bool.not_false, Bool.true_and]
  rw [hf]
  clear hl hf hne h1
  go_enter Tryd.func92, Tryd.ntmps92
  go_wp2_with (fail)
  go_loopw [2, 3, 13] (fun _ _ i wr => ∃ q : Nat, i = .int .i64 (q : Int) ∧ q ≤ s.size ∧ wr = w ∧ (s.data.toList.drop q).all (fun c => wordB (c.toNat : Int)) = s.data.toList.all (fun c => wordB (c.toNat : Int))) (fun _ _ i _ => s.size - (match i with | .int _ n => n.toNat | _ => 0))
  case atStart => exact ⟨0, rfl, Nat.zero_le _, rfl, rfl⟩
  case round =>
    obtain ⟨q, rfl, hq, rfl, hall⟩ := hrel
    have Hall := Lib.hid hall
    clear hall
    by_cases hlt : q < s.size
    · have hti : decide ((q : Int) < (s.size : Int)) = true := by simp; omega
      have b0 := byte_lo s[q]
      have b1 := byte_hi s[q]
      have hd := Lib.hid (all_drop (p := fun c => wordB (c.toNat : Int)) hlt)
      cases hq5 : wordB (s[q].toNat : Int) with
      | true =>
        have Hc := Lib.hid (fun W => isWordByte_yes (s[q].toNat : Int) W b0 b1 hq5)
        have H5 := Lib.hid hq5
        clear hq5
        go_wp2_with (go_at_call 82; refine (Hc.out _).mono ?_; rintro e1 w1 ⟨rfl, rfl⟩)
        exact ⟨⟨q + 1, by simp, hlt, trivial, by have h := hd.out; simp only [H5.out, Bool.true_and] at h; rw [← h]; exact Hall.out⟩, by simp; omega⟩
      | false =>
        have Hc := Lib.hid (fun W => isWordByte_no (s[q].toNat : Int) W b0 b1 hq5)
        have H5 := Lib.hid hq5
        clear hq5
        go_wp2_with (go_at_call 82; refine (Hc.out _).mono ?_; rintro e1 w1 ⟨rfl, rfl⟩)
        go_ret
        exact ⟨ret_bool (by have h := hd.out; simp only [H5.out, Bool.false_and] at h; rw [← Hall.out, h]), rfl⟩
    · have hti : decide ((q : Int) < (s.size : Int)) = false := by simp; omega
      have hend := Lib.hid (drop_end s q (by omega))
      go_wp2_with (fail)
      go_ret
      exact ⟨ret_bool (by rw [← Hall.out, hend.out]; rfl), rfl⟩
end Go.Proofs.YtpflfbfbjmoggaaDoor
