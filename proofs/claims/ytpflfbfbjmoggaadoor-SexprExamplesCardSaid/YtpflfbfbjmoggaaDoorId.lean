/- sexpr.IsIdent at a text of letters alone: true up to the limit, false beyond. -/
import Derived.Test.YtpflfbfbjmoggaaDoorLeaf
set_option linter.unusedVariables false
set_option linter.unusedSimpArgs false
namespace Go.Proofs.YtpflfbfbjmoggaaDoor
open Go.RowKit Sx

theorem toList_ne (s : ByteArray) (h : 1 ≤ s.size) : ¬ s.toList = [] := by
  intro e
  have := congrArg List.length e
  simp [ByteArray.toList_eq] at this
  rw [this] at h
  exact absurd h (by decide)

theorem identBig (s : ByteArray) (w : World) (hs : 24 < s.size) (hm : s.size ≤ 65536) :
    Calls Tryd.prog 15 #[.string s] w fun e w' => e = .returned (.bool false) ∧ w = w' := by
  have h0 := toList_ne s (by omega)
  have h1 : (24 : Int) < (s.size : Int) := by omega
  go_enter Tryd.func15, Tryd.ntmps15
  go_wp2_with (fail)
  go_ret
  exact ⟨rfl, rfl⟩

set_option maxHeartbeats 1000000 in
theorem identLetters (s : ByteArray) (w : World) (h1 : 1 ≤ s.size) (h24 : s.size ≤ 24) (hl : ∀ i (h : i < s.size), s[i] = 119) :
    Calls Tryd.prog 15 #[.string s] w fun e w' => e = .returned (.bool true) ∧ w = w' := by
  have h0 := toList_ne s (by omega)
  have h6 : s.toList.isEmpty = false := by cases h : s.toList with
    | nil => exact absurd h h0
    | cons a b => rfl
  have h2 : ¬ (24 : Int) < (s.size : Int) := by omega
  have h3 : (s.size : Int) ≤ 24 := by omega
  have h4 : 0 < s.size := by omega
  have h5 : s[0] = 119 := hl 0 h4
  have hlet := fun W => isLetter_any 119 W (by decide) (by decide)
  rw [show letterB 119 = true from rfl] at hlet
  have Hlet := Lib.hid hlet
  have Hl := Lib.hid hl
  clear hlet hl
  go_enter Tryd.func15, Tryd.ntmps15
  go_wp2_with (go_at_call 54; refine (Hlet.out _).mono ?_; rintro e1 w1 ⟨rfl, rfl⟩)
  go_loopw [3, 19] (fun _ i wr => ∃ q : Nat, i = .int .i64 (q : Int) ∧ q ≤ s.size ∧ wr = w) (fun _ i _ => s.size - (match i with | .int _ n => n.toNat | _ => 0))
  case atStart => exact ⟨0, rfl, Nat.zero_le _, rfl⟩
  case round =>
    obtain ⟨q, rfl, hq, rfl⟩ := hrel
    by_cases hlt : q < s.size
    · have hti : decide ((q : Int) < (s.size : Int)) = true := by simp; omega
      have hq5 : s[q] = 119 := Hl.out q hlt
      go_wp2_with (go_at_call 54; refine (Hlet.out _).mono ?_; rintro e1 w1 ⟨rfl, rfl⟩)
      refine ⟨⟨q + 1, by simp, hlt, trivial⟩, by simp; omega⟩
    · have hti : decide ((q : Int) < (s.size : Int)) = false := by simp; omega
      go_wp2_with (fail)
      go_ret
      exact ⟨rfl, rfl⟩
end Go.Proofs.YtpflfbfbjmoggaaDoor
