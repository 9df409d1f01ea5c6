/- telref1.Digits: the decimal text of a number. No condition but that it is an int64. -/
import Derived.Test.YtpdigaankmgagaaInt
import Derived.Test.YtpdigaankmgagaaConv
import Derived.Test.YtpdigaankmgagaaUtil2
import Derived.Lib.EndianBits
set_option linter.unusedVariables false
set_option linter.unusedSimpArgs false
namespace Go.Proofs.Ytpdigaankmgagaa
open Go.RowKit Sx Go.Lib

/-- the last digit -/
def dch (u : Nat) : UInt8 := UInt8.ofNat (48 + u % 10)
theorem digit_val (u : Nat) : ((dch u).toNat : Int) = 48 + (u : Int) % 10 := by
  unfold dch
  have : (UInt8.ofNat (48 + u % 10)).toNat = 48 + u % 10 := by simp; omega
  rw [this]; omega
theorem conv_digit (u : Nat) (w : World) :
    (convert 66 9 (.slice (some ⟨w.heap.size, 0, none⟩) 1 1)).run Try.prog (w.alloc (.cells #[.int .u8 (48 + (u : Int) % 10)] 5)) = .ok (.string ⟨[dch u].toArray⟩) (w.alloc (.cells #[.int .u8 (48 + (u : Int) % 10)] 5)) := by
  refine run_convert_bytes_back _ 66 9 5 _ 1 [dch u] Try.underlying66 Try.underlying5 Try.underlying9 fun j hj => ?_
  obtain rfl : j = 0 := by simpa using hj
  have h := (row1 (heap_alloc_new w (.cells #[.int .u8 (48 + (u : Int) % 10)] 5))).1
  rw [List.getElem_cons_zero, digit_val]
  exact h

theorem nD_le (k : Nat) : ∀ u, u < 10 ^ (k + 1) → nDigits u ≤ k + 1 := by
  induction k with
  | zero => intro u h; rw [nDigits_small (by simpa using h)]; exact Nat.le_refl _
  | succ k ih =>
    intro u h
    by_cases h10 : u < 10
    · rw [nDigits_small h10]; omega
    · rw [nDigits_big h10]
      have := ih (u / 10) (by rw [Nat.pow_succ] at h; exact Nat.div_lt_of_lt_mul (by rw [Nat.mul_comm]; exact h))
      omega
theorem dec_len {u : Nat} (h : u < 18446744073709551616) : (decDigits u).length ≤ 20 := by
  rw [decDigits_length]
  have e : (10 : Nat) ^ (19 + 1) = 100000000000000000000 := by decide
  exact nD_le 19 u (by rw [e]; omega)

set_option maxHeartbeats 1000000 in
set_option maxRecDepth 100000 in
theorem udig_any (N : Nat) : ∀ (u : Nat) (w : World), u ≤ N → u < 18446744073709551616 →
    Calls Try.prog 19 #[.int .u64 (u : Int)] w fun e w' => e = .returned (.string ⟨(decDigits u).toArray⟩) ∧ Below w.heap.size w w' := by
  induction N using Nat.strongRecOn with
  | ind N ih =>
  intro u w hN hu
  have IH := Lib.hid ih
  have kc := conv_digit u w
  have h0 : (0 : Int) ≤ (u : Int) := by omega
  have HU := Lib.hid hu
  have B1 : Below w.heap.size w (w.alloc (.cells #[.int .u8 (48 + (u : Int) % 10)] 5)) := (Below.refl _ _).alloc (Nat.le_refl _) _
  have HB := Lib.hid B1
  clear ih hu B1
  by_cases h10 : u < 10
  · have t1 : decide ((u : Int) < 10) = true := by simp; omega
    have e : u % 10 = u := Nat.mod_eq_of_lt h10
    have Hd := Lib.hid (show decDigits u = [dch u] by rw [decDigits_one h10, dch, e])
    clear e
    go_enter Try.func19, Try.ntmps19
    go_wp2_with (fail)
    go_ret
    exact ⟨congrArg (fun l : List UInt8 => Ending.returned (.string ⟨l.toArray⟩)) Hd.out.symm, HB.out⟩
  · have t1 : decide ((u : Int) < 10) = false := by simp; omega
    obtain ⟨s1, hs1, hsl, hss⟩ : ∃ s1 : ByteArray, (⟨(decDigits (u / 10)).toArray⟩ : ByteArray) = s1 ∧ s1.data.toList = decDigits (u / 10) ∧ s1.size = (decDigits (u / 10)).length := ⟨_, rfl, by simp, by show (decDigits (u / 10)).toArray.size = _; simp⟩
    have hdl := dec_len (show u / 10 < 18446744073709551616 by have := HU.out; omega)
    have hs6 : ¬ 9223372036854775807 < s1.size + 1 := by omega
    have Hsl := Lib.hid hsl
    clear hsl hss hdl
    have hc : ∀ W, Calls Try.prog 19 #[.int .u64 (IntKind.u64.wrap ((u : Int) / 10))] W fun e w' => e = .returned (.string s1) ∧ Below W.heap.size W w' := fun W => by
      rw [← hs1]
      have := IH.out (u / 10) (by omega) (u / 10) W (Nat.le_refl _) (by have := HU.out; omega)
      rw [show IntKind.u64.wrap ((u : Int) / 10) = ((u / 10 : Nat) : Int) from by
        have := HU.out
        rw [show ((u : Int) / 10) = ((u / 10 : Nat) : Int) from by omega]
        exact IntWalk.u64_in _ ⟨by omega, by omega⟩]
      exact this
    have HC := Lib.hid hc
    have Hd := Lib.hid (show decDigits u = decDigits (u / 10) ++ [dch u] by rw [decDigits, dif_neg h10, dch])
    clear hc hs1
    go_enter Try.func19, Try.ntmps19
    go_wp2_with (fail)
    refine (HC.out _).mono ?_
    rintro e w1 ⟨rfl, hb⟩
    have HB2 := Lib.hid hb
    clear hb
    go_wp2_with (fail)
    go_ret
    exact ⟨congrArg (fun l : List UInt8 => Ending.returned (.string ⟨l.toArray⟩)) (show s1.data.toList ++ [dch u] = decDigits u by rw [Hsl.out, Hd.out]), HB.out.trans (HB2.out.mono (by simp))⟩

set_option maxHeartbeats 1000000 in
set_option maxRecDepth 100000 in
theorem digits_any (n : Int) (w : World) (h0 : -9223372036854775808 ≤ n) (h1 : n ≤ 9223372036854775807) :
    Calls Try.prog 8 #[.int .i64 n] w fun e w' => e = .returned (.string ⟨(itoa n).toArray⟩) ∧ Below w.heap.size w w' := by
  by_cases hn : n < 0
  · have t1 : decide (n < 0) = true := by simpa using hn
    obtain ⟨u, hu⟩ : ∃ u : Nat, n = -(u : Int) := ⟨n.natAbs, by omega⟩
    have hu1 : 1 ≤ u := by omega
    have hu2 : u ≤ 9223372036854775808 := by omega
    obtain ⟨s1, hs1, hsl, hss⟩ : ∃ s1 : ByteArray, (⟨(decDigits u).toArray⟩ : ByteArray) = s1 ∧ s1.data.toList = decDigits u ∧ s1.size = (decDigits u).length := ⟨_, rfl, by simp, by show (decDigits u).toArray.size = _; simp⟩
    have hdl := dec_len (show u < 18446744073709551616 by omega)
    have hs6 : ¬ 9223372036854775807 < 1 + s1.size := by omega
    have hc : ∀ W, Calls Try.prog 19 #[.int .u64 (IntKind.u64.wrap (-(IntKind.u64.wrap n)))] W fun e w' => e = .returned (.string s1) ∧ Below W.heap.size W w' := fun W => by
      have e1 : IntKind.u64.wrap (-(IntKind.u64.wrap n)) = (u : Int) := by
        rw [Go.IntKind.wrap_u64, Go.IntKind.wrap_u64]; omega
      rw [e1, ← hs1]
      exact udig_any u u W (Nat.le_refl _) (by omega)
    have HC := Lib.hid hc
    have Hi := Lib.hid (show [45] ++ s1.data.toList = itoa n by rw [hu, itoa_neg u hu1, hsl]; rfl)
    clear hc hs1 hsl hss hdl hu2 h0 h1 hu hu1
    go_enter Try.func8, Try.ntmps8
    go_wp2_with (fail)
    refine (HC.out _).mono ?_
    rintro e w1 ⟨rfl, hb⟩
    have HB2 := Lib.hid hb
    clear hb
    go_wp2_with (fail)
    go_ret
    exact ⟨congrArg (fun l : List UInt8 => Ending.returned (.string ⟨l.toArray⟩)) Hi.out, HB2.out⟩
  · have t1 : decide (n < 0) = false := by simpa using hn
    obtain ⟨u, hu⟩ : ∃ u : Nat, n = (u : Int) := ⟨n.toNat, by omega⟩
    have hu2 : u ≤ 9223372036854775808 := by omega
    have hc : ∀ W, Calls Try.prog 19 #[.int .u64 (IntKind.u64.wrap n)] W fun e w' => e = .returned (.string ⟨(itoa n).toArray⟩) ∧ Below W.heap.size W w' := fun W => by
      have e1 : IntKind.u64.wrap n = (u : Int) := by
        rw [Go.IntKind.wrap_u64]; omega
      rw [e1, hu, itoa_nonneg]
      exact udig_any u u W (Nat.le_refl _) (by omega)
    have HC := Lib.hid hc
    clear hc hu2 h0 h1 hu
    go_enter Try.func8, Try.ntmps8
    go_wp2_with (fail)
    refine (HC.out _).mono ?_
    rintro e w1 ⟨rfl, hb⟩
    go_wp2_with (fail)
    go_ret
    exact ⟨rfl, hb⟩
end Go.Proofs.Ytpdigaankmgagaa
