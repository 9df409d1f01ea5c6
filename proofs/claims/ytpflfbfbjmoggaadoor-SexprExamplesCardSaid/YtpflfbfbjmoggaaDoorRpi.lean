/- telref1.ParseInt at every string. No condition but a bounded length. -/
import Derived.Test.YtpflfbfbjmoggaaDoorInt
import Derived.Test.YtpflfbfbjmoggaaDoorRWb
import Derived.Test.YtpflfbfbjmoggaaDoorVal
import Derived.Lib.EndianBits
set_option linter.unusedVariables false
set_option linter.unusedSimpArgs false
namespace Go.Proofs.YtpflfbfbjmoggaaDoor
open Go.RowKit Sx Go.Lib

/-- behind the sign -/
def pJ (neg : Bool) (t : List UInt8) : Option Int :=
  if t = [] ∨ 19 < t.length ∨ (t.head? = some 48 ∧ (1 < t.length ∨ neg = true)) then none
  else if digs t = false then none
  else if neg = true then (if valN 0 t ≤ 9223372036854775808 then some (-(valN 0 t : Int)) else none)
  else if valN 0 t < 9223372036854775808 then some (valN 0 t : Int) else none
theorem pI_neg (r : List UInt8) : pI (45 :: r) = pJ true r := by simp [pI, pJ]
theorem pI_pos {l : List UInt8} (h : ¬ l.head? = some 45) : pI l = pJ false l := by simp [pI, pJ, h]
theorem pJ_head {neg : Bool} {t : List UInt8} (h : t = [] ∨ 19 < t.length ∨ (t.head? = some 48 ∧ (1 < t.length ∨ neg = true))) : pJ neg t = none := by rw [pJ, if_pos h]
theorem pJ_digs {neg : Bool} {t : List UInt8} (h : digs t = false) : pJ neg t = none := by
  rw [pJ]
  split
  · rfl
  · simp [h]
theorem pJ_val {neg : Bool} {t : List UInt8} (h1 : ¬ t = []) (h2 : t.length ≤ 19) (h3 : ¬ (t.head? = some 48 ∧ (1 < t.length ∨ neg = true))) (hd : digs t = true) :
    pJ neg t = if neg = true then (if valN 0 t ≤ 9223372036854775808 then some (-(valN 0 t : Int)) else none) else if valN 0 t < 9223372036854775808 then some (valN 0 t : Int) else none := by
  have hh : ¬ (t = [] ∨ 19 < t.length ∨ (t.head? = some 48 ∧ (1 < t.length ∨ neg = true))) := by
    intro h
    rcases h with h | h | h
    · exact h1 h
    · omega
    · exact h3 h
  rw [pJ, if_neg hh, if_neg (by rw [hd]; decide)]

theorem take_digs {s : ByteArray} {q : Nat} (h : q < s.size) : s.data.toList.take (q + 1) = s.data.toList.take q ++ [s[q]] := by
  rw [List.take_succ_eq_append_getElem (by simpa using h)]; rfl
theorem digs_mem {t : List UInt8} {c : UInt8} (h : c ∈ t) (hc : digitB (c.toNat : Int) = false) : digs t = false := by
  cases hd : digs t with
  | false => rfl
  | true =>
    simp only [digs, List.all_eq_true] at hd
    rw [hd c h] at hc
    cases hc


/-- how the value is handed on -/
def valOf (o : Option Int) : Value := .tuple #[.int .i64 (o.getD 0), .bool o.isSome]

set_option maxHeartbeats 4000000 in
set_option maxRecDepth 100000 in
theorem rpi_neg (s t : ByteArray) (w : World) (hs : s.size ≤ 281474976710656) (h1 : 1 ≤ s.size) (h45 : s[0] = 45) (ht : s.extract 1 s.size = t) (hts : t.size ≤ 281474976710656) :
    Calls Tryd.prog 29 #[.string s] w fun e w' => e = .returned (valOf (pJ true t.data.toList)) ∧ w = w' := by
  have hl : t.data.toList.length = t.size := by simp
  have t0 : decide ((0 : Int) < (s.size : Int)) = true := by rw [decide_eq_true_eq]; omega
  have t0n : decide (0 < s.size) = true := by rw [decide_eq_true_eq]; omega
  have t1 : ((s[0].toNat : Int) == 45) = true := by rw [h45]; rfl
  have s1 : (1 : Int) ≤ (s.size : Int) := by omega
  obtain ⟨R, hR⟩ : ∃ R, pJ true t.data.toList = R := ⟨_, rfl⟩
  rw [hR]
  have HR := Lib.hid hR
  clear hR
  by_cases hz : t.size = 0
  · have hn : R = none := by rw [← HR.out]; exact pJ_head (.inl (List.eq_nil_of_length_eq_zero (by omega)))
    subst hn
    have u1 : decide ((t.size : Int) < 1) = true := by rw [decide_eq_true_eq]; omega
    clear hz hl HR
    go_enter Tryd.func29, Tryd.ntmps29
    go_wp2_with (fail)
    go_ret2
    exact ⟨rfl, rfl⟩
  have hp : 0 < t.size := by omega
  have hhd : t.data.toList.head? = some t[0] := by
    have := drop_at t 0 hp
    rw [List.drop_zero] at this
    rw [this]; rfl
  have u1 : decide ((t.size : Int) < 1) = false := by rw [decide_eq_false_iff_not]; omega
  by_cases h19 : 19 < t.size
  · have hn : R = none := by rw [← HR.out]; exact pJ_head (.inr (.inl (by omega)))
    subst hn
    have u2 : decide ((19 : Int) < (t.size : Int)) = true := by rw [decide_eq_true_eq]; omega
    clear hl HR hhd
    go_enter Tryd.func29, Tryd.ntmps29
    go_wp2_with (fail)
    go_ret2
    exact ⟨rfl, rfl⟩
  have u2 : decide ((19 : Int) < (t.size : Int)) = false := by rw [decide_eq_false_iff_not]; omega
  by_cases h48 : t[0] = 48
  · have hn : R = none := by rw [← HR.out]; exact pJ_head (.inr (.inr ⟨by rw [hhd, h48], .inr rfl⟩))
    subst hn
    have u3 : ((t[0].toNat : Int) == 48) = true := by rw [h48]; rfl
    clear hl HR hhd h48
    have hp' : (0 : Int) < (t.size : Int) := by omega
    by_cases hm : 1 < t.size
    · have u4 : decide ((1 : Int) < (t.size : Int)) = true := by rw [decide_eq_true_eq]; omega
      go_enter Tryd.func29, Tryd.ntmps29
      go_wp2_with (fail)
      go_ret2
      exact ⟨rfl, rfl⟩
    · have u4 : decide ((1 : Int) < (t.size : Int)) = false := by rw [decide_eq_false_iff_not]; omega
      go_enter Tryd.func29, Tryd.ntmps29
      go_wp2_with (fail)
      go_ret2
      exact ⟨rfl, rfl⟩
  have hv := fun hd => pJ_val (neg := true) (t := t.data.toList) (by intro e; rw [e] at hl; simp at hl; omega) (by omega) (by rintro ⟨e, _⟩; rw [hhd] at e; exact h48 (Option.some.inj e)) hd
  have u3 : ((t[0].toNat : Int) == 48) = false := by rw [beq_eq_false_iff_ne]; intro e; exact h48 ((toNat_eq (n := 48) (by decide)).1 (by omega))
  have HV := Lib.hid hv
  have hp' : (0 : Int) < (t.size : Int) := by omega
  clear hv hhd h48
  have HDv := Lib.hid (fun (q : Nat) (hq : q ≤ t.size) (hd : digs (t.data.toList.take q) = true) => valN_lt (t.data.toList.take q) 0 hd)
  have Hl := Lib.hid hl
  have Hw := Lib.hid hts
  clear hl hts
  clear hs
  go_enter Tryd.func29, Tryd.ntmps29
  go_wp2_with (fail)
  go_loopw [2, 3, 6, 7] (fun _ _ nv iv wr => ∃ (q n : Nat), iv = .int .i64 (q : Int) ∧ nv = .int .u64 (n : Int) ∧ q ≤ t.size ∧ n = valN 0 (t.data.toList.take q) ∧ digs (t.data.toList.take q) = true ∧ w = wr) (fun _ _ _ iv _ => t.size - (match iv with | .int _ n => n.toNat | _ => 0))
  case atStart => exact ⟨0, 0, rfl, rfl, Nat.zero_le _, by rw [List.take_zero, valN_nil], rfl, rfl⟩
  case round =>
    obtain ⟨q, n, rfl, rfl, hq, hn, hdg, rfl⟩ := hrel
    by_cases hlt : q < t.size
    · have hti : decide ((q : Int) < (t.size : Int)) = true := by rw [decide_eq_true_eq]; omega
      have b0 := byte_lo t[q]
      have b1 := byte_hi t[q]
      have hn18 : n < 1000000000000000000 := by
        have h1 := HDv.out q (by omega) hdg
        have h2 : (t.data.toList.take q).length ≤ 18 := by rw [List.length_take]; omega
        have h3 : 10 ^ (t.data.toList.take q).length ≤ 10 ^ 18 := Nat.pow_le_pow_right (by decide) h2
        have h4 : (10 : Nat) ^ 18 = 1000000000000000000 := by decide
        rw [Nat.zero_add, Nat.one_mul, ← hn] at h1
        rw [h4] at h3
        exact Nat.lt_of_lt_of_le h1 h3
      have Htk := Lib.hid (take_digs hlt)
      have Hn := Lib.hid hn
      have Hdg := Lib.hid hdg
      clear hn hdg
      cases hq5 : digitB (t[q].toNat : Int) with
      | false =>
        have Hc := Lib.hid (fun W => (rIsDigit_any (t[q].toNat : Int) W b0 b1).mono fun e w' h => (show e = .returned (.bool false) ∧ W = w' from ⟨by rw [h.1, hq5], h.2⟩))
        have hR : R = none := by rw [← HR.out]; exact pJ_digs (digs_mem (at_mem t q hlt) hq5)
        subst hR
        clear hq5 hn18
        go_wp2_with (go_at_call 61; refine (Hc.out _).mono ?_; rintro e1 w1 ⟨rfl, rfl⟩)
        go_ret2
        exact ⟨rfl, rfl⟩
      | true =>
        have Hc := Lib.hid (fun W => (rIsDigit_any (t[q].toNat : Int) W b0 b1).mono fun e w' h => (show e = .returned (.bool true) ∧ W = w' from ⟨by rw [h.1, hq5], h.2⟩))
        have hd5 := (digit_iff t[q]).1 hq5
        have Hq5 := Lib.hid hq5
        have e1 : IntKind.u64.wrap (10 * (n : Int)) = 10 * (n : Int) := IntWalk.u64_in _ ⟨by omega, by omega⟩
        have e2 : IntKind.u8.wrap ((t[q].toNat : Int) - 48) = (t[q].toNat : Int) - 48 := IntWalk.u8_in _ ⟨by omega, by omega⟩
        have e3 : IntKind.u64.wrap ((t[q].toNat : Int) - 48) = (t[q].toNat : Int) - 48 := IntWalk.u64_in _ ⟨by omega, by omega⟩
        have e4 : IntKind.u64.wrap (10 * (n : Int) + ((t[q].toNat : Int) - 48)) = 10 * (n : Int) + ((t[q].toNat : Int) - 48) := IntWalk.u64_in _ ⟨by omega, by omega⟩
        have Hn18 := Lib.hid hn18
        clear hq5 hn18
        go_wp2_with (go_at_call 61; refine (Hc.out _).mono ?_; rintro e1 w1 ⟨rfl, rfl⟩)
        refine ⟨⟨q + 1, n * 10 + (t[q].toNat - 48), rfl, ?_, hlt, by rw [Htk.out, valN_snoc, ← Hn.out], ?_, trivial⟩, by simp; omega⟩
        · congr 1; omega
        · have h1 := Hdg.out
          simp only [digs] at h1 ⊢
          rw [Htk.out, List.all_append, h1, Bool.true_and]
          simpa using Hq5.out
    · have hti : decide (q < t.size) = false := by rw [decide_eq_false_iff_not]; omega
      obtain rfl : q = t.size := by omega
      have htake : t.data.toList.take t.size = t.data.toList := List.take_of_length_le (by rw [Hl.out]; omega)
      rw [htake] at hn hdg
      have hr := HV.out hdg
      rw [HR.out, ← hn] at hr
      have hn19 : n < 10000000000000000000 := by rw [hn]; exact valN_big _ hdg (by rw [Hl.out]; omega)
      clear hn hdg htake
      by_cases hb : n ≤ 9223372036854775808
      · have d1 : decide ((n : Int) ≤ 9223372036854775808) = true := by rw [decide_eq_true_eq]; omega
        have hr' : R = some (-(n : Int)) := by rw [hr]; simp [hb]
        clear hr
        subst hr'
        have e5 : wrap64 (IntKind.u64.wrap (-(n : Int))) = -(n : Int) := by rw [Go.IntKind.wrap_u64]; unfold wrap64; omega
        have HE := Lib.hid e5
        clear hb hn19 e5
        go_wp2_with (fail)
        go_ret2
        exact ⟨congrArg (fun z : Int => Ending.returned (.tuple #[.int .i64 z, .bool true])) HE.out, rfl⟩
      · have d1 : decide ((n : Int) ≤ 9223372036854775808) = false := by rw [decide_eq_false_iff_not]; omega
        have hr' : R = none := by rw [hr]; simp [hb]
        clear hr
        subst hr'
        clear hb hn19
        go_wp2_with (fail)
        go_ret2
        exact ⟨rfl, rfl⟩

set_option maxHeartbeats 4000000 in
set_option maxRecDepth 100000 in
theorem rpi_pos (t : ByteArray) (w : World) (hts : t.size ≤ 281474976710656) (h45 : ∀ h : 0 < t.size, ¬ t[0] = 45) :
    Calls Tryd.prog 29 #[.string t] w fun e w' => e = .returned (valOf (pJ false t.data.toList)) ∧ w = w' := by
  have hl : t.data.toList.length = t.size := by simp
  obtain ⟨R, hR⟩ : ∃ R, pJ false t.data.toList = R := ⟨_, rfl⟩
  rw [hR]
  have HR := Lib.hid hR
  clear hR
  by_cases hz : t.size = 0
  · have hn : R = none := by rw [← HR.out]; exact pJ_head (.inl (List.eq_nil_of_length_eq_zero (by omega)))
    subst hn
    have u1 : decide ((t.size : Int) < 1) = true := by rw [decide_eq_true_eq]; omega
    have t0 : decide ((0 : Int) < (t.size : Int)) = false := by rw [decide_eq_false_iff_not]; omega
    have t0n : decide (0 < t.size) = false := by rw [decide_eq_false_iff_not]; omega
    clear hz hl HR
    go_enter Tryd.func29, Tryd.ntmps29
    go_wp2_with (fail)
    go_ret2
    exact ⟨rfl, rfl⟩
  have hp : 0 < t.size := by omega
  have t0 : decide ((0 : Int) < (t.size : Int)) = true := by rw [decide_eq_true_eq]; omega
  have t0n : decide (0 < t.size) = true := by rw [decide_eq_true_eq]; omega
  have t1 : ((t[0].toNat : Int) == 45) = false := by rw [beq_eq_false_iff_ne]; intro e; exact h45 hp ((toNat_eq (n := 45) (by decide)).1 (by omega))
  have hhd : t.data.toList.head? = some t[0] := by
    have := drop_at t 0 hp
    rw [List.drop_zero] at this
    rw [this]; rfl
  have u1 : decide ((t.size : Int) < 1) = false := by rw [decide_eq_false_iff_not]; omega
  by_cases h19 : 19 < t.size
  · have hn : R = none := by rw [← HR.out]; exact pJ_head (.inr (.inl (by omega)))
    subst hn
    have u2 : decide ((19 : Int) < (t.size : Int)) = true := by rw [decide_eq_true_eq]; omega
    clear hl HR hhd
    go_enter Tryd.func29, Tryd.ntmps29
    go_wp2_with (fail)
    go_ret2
    exact ⟨rfl, rfl⟩
  have u2 : decide ((19 : Int) < (t.size : Int)) = false := by rw [decide_eq_false_iff_not]; omega
  by_cases h48 : t[0] = 48 ∧ 1 < t.size
  · have hn : R = none := by rw [← HR.out]; exact pJ_head (.inr (.inr ⟨by rw [hhd, h48.1], .inl (by omega)⟩))
    subst hn
    have u3 : ((t[0].toNat : Int) == 48) = true := by rw [h48.1]; rfl
    have u4 : decide ((1 : Int) < (t.size : Int)) = true := by rw [decide_eq_true_eq]; omega
    clear hl HR hhd h48
    go_enter Tryd.func29, Tryd.ntmps29
    go_wp2_with (fail)
    go_ret2
    exact ⟨rfl, rfl⟩
  have hv := fun hd => pJ_val (neg := false) (t := t.data.toList) (by intro e; rw [e] at hl; simp at hl; omega) (by omega) (by rintro ⟨e, h⟩; rw [hhd] at e; exact h48 ⟨Option.some.inj e, by rcases h with h | h <;> first | omega | (cases h)⟩) hd
  have u34 : ((t[0].toNat : Int) == 48) = false ∨ (((t[0].toNat : Int) == 48) = true ∧ decide ((1 : Int) < (t.size : Int)) = false) := by
    by_cases e : t[0] = 48
    · exact .inr ⟨by rw [e]; rfl, by rw [decide_eq_false_iff_not]; intro h; exact h48 ⟨e, by omega⟩⟩
    · exact .inl (by rw [beq_eq_false_iff_ne]; intro e'; exact e ((toNat_eq (n := 48) (by decide)).1 (by omega)))
  have HV := Lib.hid hv
  have hp' : (0 : Int) < (t.size : Int) := by omega
  clear hv hhd h48
  have HDv := Lib.hid (fun (q : Nat) (hq : q ≤ t.size) (hd : digs (t.data.toList.take q) = true) => valN_lt (t.data.toList.take q) 0 hd)
  have Hl := Lib.hid hl
  have Hw := Lib.hid hts
  clear hl hts
  rcases u34 with u3 | ⟨u3, u4⟩
  all_goals
    go_enter Tryd.func29, Tryd.ntmps29
    go_wp2_with (fail)
    go_loopw [2, 3, 6, 7] (fun _ _ nv iv wr => ∃ (q n : Nat), iv = .int .i64 (q : Int) ∧ nv = .int .u64 (n : Int) ∧ q ≤ t.size ∧ n = valN 0 (t.data.toList.take q) ∧ digs (t.data.toList.take q) = true ∧ w = wr) (fun _ _ _ iv _ => t.size - (match iv with | .int _ n => n.toNat | _ => 0))
    case atStart => exact ⟨0, 0, rfl, rfl, Nat.zero_le _, by rw [List.take_zero, valN_nil], rfl, rfl⟩
    case round =>
      obtain ⟨q, n, rfl, rfl, hq, hn, hdg, rfl⟩ := hrel
      by_cases hlt : q < t.size
      · have hti : decide ((q : Int) < (t.size : Int)) = true := by rw [decide_eq_true_eq]; omega
        have b0 := byte_lo t[q]
        have b1 := byte_hi t[q]
        have hn18 : n < 1000000000000000000 := by
          have h1 := HDv.out q (by omega) hdg
          have h2 : (t.data.toList.take q).length ≤ 18 := by rw [List.length_take]; omega
          have h3 : 10 ^ (t.data.toList.take q).length ≤ 10 ^ 18 := Nat.pow_le_pow_right (by decide) h2
          have h4 : (10 : Nat) ^ 18 = 1000000000000000000 := by decide
          rw [Nat.zero_add, Nat.one_mul, ← hn] at h1
          rw [h4] at h3
          exact Nat.lt_of_lt_of_le h1 h3
        have Htk := Lib.hid (take_digs hlt)
        have Hn := Lib.hid hn
        have Hdg := Lib.hid hdg
        clear hn hdg
        cases hq5 : digitB (t[q].toNat : Int) with
        | false =>
          have Hc := Lib.hid (fun W => (rIsDigit_any (t[q].toNat : Int) W b0 b1).mono fun e w' h => (show e = .returned (.bool false) ∧ W = w' from ⟨by rw [h.1, hq5], h.2⟩))
          have hR : R = none := by rw [← HR.out]; exact pJ_digs (digs_mem (at_mem t q hlt) hq5)
          subst hR
          clear hq5 hn18
          go_wp2_with (go_at_call 61; refine (Hc.out _).mono ?_; rintro e1 w1 ⟨rfl, rfl⟩)
          go_ret2
          exact ⟨rfl, rfl⟩
        | true =>
          have Hc := Lib.hid (fun W => (rIsDigit_any (t[q].toNat : Int) W b0 b1).mono fun e w' h => (show e = .returned (.bool true) ∧ W = w' from ⟨by rw [h.1, hq5], h.2⟩))
          have hd5 := (digit_iff t[q]).1 hq5
          have Hq5 := Lib.hid hq5
          have e1 : IntKind.u64.wrap (10 * (n : Int)) = 10 * (n : Int) := IntWalk.u64_in _ ⟨by omega, by omega⟩
          have e2 : IntKind.u8.wrap ((t[q].toNat : Int) - 48) = (t[q].toNat : Int) - 48 := IntWalk.u8_in _ ⟨by omega, by omega⟩
          have e3 : IntKind.u64.wrap ((t[q].toNat : Int) - 48) = (t[q].toNat : Int) - 48 := IntWalk.u64_in _ ⟨by omega, by omega⟩
          have e4 : IntKind.u64.wrap (10 * (n : Int) + ((t[q].toNat : Int) - 48)) = 10 * (n : Int) + ((t[q].toNat : Int) - 48) := IntWalk.u64_in _ ⟨by omega, by omega⟩
          have Hn18 := Lib.hid hn18
          clear hq5 hn18
          go_wp2_with (go_at_call 61; refine (Hc.out _).mono ?_; rintro e1 w1 ⟨rfl, rfl⟩)
          refine ⟨⟨q + 1, n * 10 + (t[q].toNat - 48), rfl, ?_, hlt, by rw [Htk.out, valN_snoc, ← Hn.out], ?_, trivial⟩, by simp; omega⟩
          · congr 1; omega
          · have h1 := Hdg.out
            simp only [digs] at h1 ⊢
            rw [Htk.out, List.all_append, h1, Bool.true_and]
            simpa using Hq5.out
      · have hti : decide (q < t.size) = false := by rw [decide_eq_false_iff_not]; omega
        obtain rfl : q = t.size := by omega
        have htake : t.data.toList.take t.size = t.data.toList := List.take_of_length_le (by rw [Hl.out]; omega)
        rw [htake] at hn hdg
        have hr := HV.out hdg
        rw [HR.out, ← hn] at hr
        have hn19 : n < 10000000000000000000 := by rw [hn]; exact valN_big _ hdg (by rw [Hl.out]; omega)
        clear hn hdg htake
        by_cases hb : n < 9223372036854775808
        · have d1 : decide ((n : Int) < 9223372036854775808) = true := by rw [decide_eq_true_eq]; omega
          have hr' : R = some (n : Int) := by rw [hr]; simp [hb]
          clear hr
          subst hr'
          have e5 : wrap64 (n : Int) = (n : Int) := by unfold wrap64; omega
          have HE := Lib.hid e5
          clear hb hn19 e5
          go_wp2_with (fail)
          go_ret2
          exact ⟨congrArg (fun z : Int => Ending.returned (.tuple #[.int .i64 z, .bool true])) HE.out, rfl⟩
        · have d1 : decide ((n : Int) < 9223372036854775808) = false := by rw [decide_eq_false_iff_not]; omega
          have hr' : R = none := by rw [hr]; simp [hb]
          clear hr
          subst hr'
          clear hb hn19
          go_wp2_with (fail)
          go_ret2
          exact ⟨rfl, rfl⟩

end Go.Proofs.YtpflfbfbjmoggaaDoor
