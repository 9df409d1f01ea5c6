/- Decimal numbers: the plain reader of the specification, and that it agrees with the library's reader and writer. No condition. -/
import Derived.Test.YtpdigaankmgagaaSx
import Derived.Lib.ParseIntBCases
import Derived.Lib.ItoaMem
set_option linter.unusedVariables false
set_option linter.unusedSimpArgs false
namespace Go.Proofs.Ytpdigaankmgagaa.Sx
open Go.Lib

/-- what the digits spell behind acc -/
def valN (acc : Nat) (l : List UInt8) : Nat := l.foldl (fun a c => a * 10 + (c.toNat - 48)) acc
theorem valN_nil (acc : Nat) : valN acc [] = acc := List.foldl_nil
theorem valN_cons (acc : Nat) (c : UInt8) (r : List UInt8) : valN acc (c :: r) = valN (acc * 10 + (c.toNat - 48)) r := List.foldl_cons ..
theorem valN_one (acc : Nat) (c : UInt8) : valN acc [c] = acc * 10 + (c.toNat - 48) := by rw [valN_cons, valN_nil]
def digs (l : List UInt8) : Bool := l.all fun c => digitB (c.toNat : Int)
theorem digit_iff (c : UInt8) : digitB (c.toNat : Int) = true ↔ 48 ≤ c.toNat ∧ c.toNat ≤ 57 := by
  rw [digitB, decide_eq_true_eq]; omega
theorem valN_snoc (t : List UInt8) (c : UInt8) : ∀ acc, valN acc (t ++ [c]) = valN acc t * 10 + (c.toNat - 48) := by
  induction t with
  | nil => intro acc; rw [List.nil_append, valN_cons, valN_nil, valN_nil]
  | cons a r ih => intro acc; rw [List.cons_append, valN_cons, valN_cons, ih]
theorem valN_ge (t : List UInt8) : ∀ acc, acc ≤ valN acc t := by
  induction t with
  | nil => intro acc; rw [valN_nil]; exact Nat.le_refl _
  | cons a r ih => intro acc; rw [valN_cons]; have := ih (acc * 10 + (a.toNat - 48)); omega
theorem valN_lt (t : List UInt8) : ∀ acc, digs t = true → valN acc t < (acc + 1) * 10 ^ t.length := by
  induction t with
  | nil => intro acc _; rw [valN_nil]; simp
  | cons a r ih =>
    intro acc h
    simp only [digs, List.all_cons, Bool.and_eq_true] at h
    have hd := (digit_iff a).1 h.1
    have := ih (acc * 10 + (a.toNat - 48)) h.2
    rw [valN_cons, List.length_cons, Nat.pow_succ]
    have h2 : (acc * 10 + (a.toNat - 48) + 1) * 10 ^ r.length ≤ ((acc + 1) * 10) * 10 ^ r.length := Nat.mul_le_mul_right _ (by omega)
    have e : (acc + 1) * (10 ^ r.length * 10) = ((acc + 1) * 10) * 10 ^ r.length := by rw [Nat.mul_assoc, Nat.mul_comm 10]
    rw [e]
    exact Nat.lt_of_lt_of_le this h2
theorem valN_big (t : List UInt8) (h : digs t = true) (h19 : t.length ≤ 19) : valN 0 t < 10000000000000000000 := by
  have h1 := valN_lt t 0 h
  have h2 : 10 ^ t.length ≤ 10 ^ 19 := Nat.pow_le_pow_right (by decide) h19
  have h3 : (10 : Nat) ^ 19 = 10000000000000000000 := by decide
  rw [h3] at h2
  rw [Nat.zero_add, Nat.one_mul] at h1
  exact Nat.lt_of_lt_of_le h1 h2

theorem parse_digs (t : List UInt8) : ∀ acc, digs t = true → valN acc t < 18446744073709551616 → parseUintM (2 ^ 64 - 1) acc t = .ok (valN acc t) := by
  induction t with
  | nil => intro acc _ _; rw [valN_nil]; rfl
  | cons a r ih =>
    intro acc h hv
    simp only [digs, List.all_cons, Bool.and_eq_true] at h
    have hd := (digit_iff a).1 h.1
    rw [valN_cons] at hv ⊢
    have hg := valN_ge r (acc * 10 + (a.toNat - 48))
    have hM : (2 : Nat) ^ 64 - 1 = 18446744073709551615 := by decide
    rw [parseUintM, if_pos hd, if_neg (by omega), if_neg (by rw [hM]; omega)]
    exact ih _ h.2 hv
theorem parse_is (t : List UInt8) : ∀ acc u, parseUintM (2 ^ 64 - 1) acc t = .ok u → digs t = true ∧ u = valN acc t := by
  induction t with
  | nil => intro acc u h; simp only [parseUintM, NumEnd.ok.injEq] at h; exact ⟨rfl, by rw [valN_nil]; exact h.symm⟩
  | cons a r ih =>
    intro acc u h
    rw [parseUintM] at h
    split at h
    · rename_i hd
      split at h
      · cases h
      · split at h
        · cases h
        · obtain ⟨h1, h2⟩ := ih _ _ h
          refine ⟨?_, by rw [valN_cons]; exact h2⟩
          simp only [digs, List.all_cons, Bool.and_eq_true]
          exact ⟨(digit_iff a).2 hd, h1⟩
    · cases h

/-- no leading zero -/
def canon (t : List UInt8) : Prop := t ≠ [] ∧ (t.head? = some 48 → t = [48])
theorem dec_val (n : Nat) : ∀ t : List UInt8, t.length = n → digs t = true → canon t → decDigits (valN 0 t) = t := by
  induction n with
  | zero => intro t hl _ hc; exact absurd (List.eq_nil_of_length_eq_zero hl) hc.1
  | succ n ih =>
    intro t hl hd hc
    have ht : t = t.dropLast ++ [t.getLast hc.1] := (List.dropLast_concat_getLast hc.1).symm
    generalize hp : t.dropLast = p at ht
    generalize hq : t.getLast hc.1 = c at ht
    have hpl : p.length = n := by rw [ht] at hl; simp at hl; exact hl
    rw [ht] at hd
    simp only [digs, List.all_append, List.all_cons, List.all_nil, Bool.and_true, Bool.and_eq_true] at hd
    have hcd := (digit_iff c).1 hd.2
    rw [ht, valN_snoc]
    have hc10 : c.toNat - 48 < 10 := by omega
    have hcc : UInt8.ofNat (48 + (c.toNat - 48)) = c := by
      rw [show 48 + (c.toNat - 48) = c.toNat from by omega]; simp
    rcases Nat.eq_zero_or_pos n with rfl | hn
    · have hp0 : p = [] := List.eq_nil_of_length_eq_zero hpl
      subst hp0
      rw [valN_nil, Nat.zero_mul, Nat.zero_add, List.nil_append]
      rw [decDigits_one hc10, hcc]
    · have hpne : p ≠ [] := fun e => by rw [e] at hpl; simp at hpl; omega
      have hpc : canon p := by
        refine ⟨hpne, fun h => ?_⟩
        have : t.head? = some 48 := by
          rw [ht]
          cases p with
          | nil => exact absurd rfl hpne
          | cons x y => exact h
        have h48 := hc.2 this
        rw [h48] at ht
        have := congrArg List.length ht
        simp at this
        exact absurd this hpne
      have e := ih p hpl hd.1 hpc
      have hpos : 1 ≤ valN 0 p := by
        rcases Nat.eq_zero_or_pos (valN 0 p) with h | h
        · exfalso
          rw [h, decDigits_one (by decide)] at e
          have h48 := hc.2 (by rw [ht, ← e]; rfl)
          rw [h48] at ht
          have := congrArg List.length ht
          simp at this
          exact hpne this
        · exact h
      rw [decDigits, dif_neg (by omega), show (valN 0 p * 10 + (c.toNat - 48)) / 10 = valN 0 p from by omega, show (valN 0 p * 10 + (c.toNat - 48)) % 10 = c.toNat - 48 from by omega, hcc, e]

theorem dec_digs (u : Nat) : digs (decDigits u) = true ∧ valN 0 (decDigits u) = u ∧ canon (decDigits u) ∧ (decDigits u = [48] → u = 0) := by
  induction u using Nat.strongRecOn with
  | ind u ih =>
    by_cases h : u < 10
    · have hn : (UInt8.ofNat (48 + u)).toNat = 48 + u := by simp; omega
      rw [decDigits_one h]
      refine ⟨?_, ?_, ⟨by simp, ?_⟩, ?_⟩
      · simp only [digs, List.all_cons, List.all_nil, Bool.and_true]
        exact (digit_iff _).2 (by omega)
      · rw [valN_one, hn]; omega
      · intro e; simp only [List.head?_cons, Option.some.injEq] at e; rw [e]
      · intro e
        simp only [List.cons.injEq, and_true] at e
        have := congrArg UInt8.toNat e
        rw [hn] at this
        have h48 : (48 : UInt8).toNat = 48 := rfl
        omega
    · obtain ⟨h1, h2, h3, h4⟩ := ih (u / 10) (by omega)
      have hn : (UInt8.ofNat (48 + u % 10)).toNat = 48 + u % 10 := by simp; omega
      rw [decDigits, dif_neg h]
      refine ⟨?_, ?_, ⟨by simp, ?_⟩, ?_⟩
      · simp only [digs, List.all_append, List.all_cons, List.all_nil, Bool.and_true, Bool.and_eq_true]
        exact ⟨h1, (digit_iff _).2 (by omega)⟩
      · rw [valN_snoc, h2, hn]; omega
      · intro e
        have e' : (decDigits (u / 10)).head? = some 48 := by
          cases hq : decDigits (u / 10) with
          | nil => exact absurd hq h3.1
          | cons x y => rw [hq] at e; simpa using e
        have := h4 (h3.2 e')
        omega
      · intro e
        have := congrArg List.length e
        simp at this
        exact absurd this h3.1

/-- what the specification's ParseInt answers -/
def pI (l : List UInt8) : Option Int :=
  let neg := l.head? = some 45
  let t := if neg then l.tail else l
  if t = [] ∨ 19 < t.length ∨ (t.head? = some 48 ∧ (1 < t.length ∨ neg)) then none
  else if digs t = false then none
  else if neg then (if valN 0 t ≤ 9223372036854775808 then some (-(valN 0 t : Int)) else none)
  else if valN 0 t < 9223372036854775808 then some (valN 0 t : Int) else none
/-- what the program's ParseInt answers: the library's reader, if the library's writer gives the text again -/
def sI (l : List UInt8) : Option Int :=
  match parseIntB 64 l with
  | .ok v => if itoa v = l then some v else none
  | _ => none

theorem toNat_eq {c : UInt8} {n : Nat} (hn : n < 256) : c.toNat = n ↔ c = UInt8.ofNat n := by
  constructor
  · intro h; rw [← h]; simp
  · intro h; rw [h]; simp; omega

theorem pI_ok {l : List UInt8} {v : Int} (h : pI l = some v) : parseIntB 64 l = .ok v ∧ itoa v = l ∧ -9223372036854775808 ≤ v ∧ v ≤ 9223372036854775807 := by
  unfold pI at h
  cases l with
  | nil => simp at h
  | cons c r =>
    by_cases h45 : c = 45
    · subst h45
      simp only [List.head?_cons, if_true, List.tail_cons, or_true, and_true] at h
      split at h
      · cases h
      · rename_i hc
        split at h
        · cases h
        · rename_i hd
          split at h
          · rename_i hv
            simp only [Option.some.injEq] at h
            have hdg : digs r = true := by simpa using hd
            have hne : r ≠ [] := fun e => hc (.inl e)
            have hl19 : r.length ≤ 19 := by omega
            have hcan : canon r := ⟨hne, fun e => absurd (.inr (.inr e)) hc⟩
            have hpos : 1 ≤ valN 0 r := by
              rcases Nat.eq_zero_or_pos (valN 0 r) with h0 | h0
              · exfalso
                have e := dec_val _ r rfl hdg hcan
                rw [h0, decDigits_one (by decide)] at e
                exact hc (.inr (.inr (by rw [← e]; rfl)))
              · exact h0
            have hpu : parseUintB 64 r = .ok (valN 0 r) := by rw [parseUintB, if_neg hne]; exact parse_digs r 0 hdg (by have := valN_big r hdg hl19; omega)
            refine ⟨?_, ?_, by omega, by omega⟩
            · rw [parseIntB]
              simp only [show (45 : UInt8).toNat = 45 from rfl, or_true, if_true, hpu, not_true_eq_false, false_and, if_false, true_and]
              rw [if_neg (by omega), h]
            · rw [← h, itoa_neg _ hpos, dec_val _ r rfl hdg hcan]
          · cases h
    · have hn45 : ¬ (c :: r).head? = some 45 := by simpa using h45
      have h45' : c.toNat ≠ 45 := fun e => h45 ((toNat_eq (by decide)).1 e)
      simp only [hn45, if_false, or_false] at h
      split at h
      · cases h
      · rename_i hc
        split at h
        · cases h
        · rename_i hd
          split at h
          · rename_i hv
            simp only [Option.some.injEq] at h
            have hdg : digs (c :: r) = true := by simpa using hd
            have hl19 : (c :: r).length ≤ 19 := by
              rcases Nat.lt_or_ge 19 (c :: r).length with h | h
              · exact absurd (.inr (.inl h)) hc
              · exact h
            have hcan : canon (c :: r) := ⟨by simp, fun e => by
              have : ¬ 1 < (c :: r).length := fun hh => hc (.inr (.inr ⟨e, hh⟩))
              cases r with
              | nil => simp at e; rw [e]
              | cons x y => simp at this⟩
            have hc43 : c.toNat ≠ 43 := by
              simp only [digs, List.all_cons, Bool.and_eq_true] at hdg
              have := (digit_iff c).1 hdg.1
              omega
            have hpu : parseUintB 64 (c :: r) = .ok (valN 0 (c :: r)) := by rw [parseUintB, if_neg (by simp)]; exact parse_digs _ 0 hdg (by have := valN_big _ hdg hl19; omega)
            refine ⟨?_, ?_, by omega, by omega⟩
            · rw [parseIntB]
              simp only [h45', hc43, or_self, if_false, hpu, not_false_eq_true, true_and, false_and]
              rw [if_neg (by omega), h]
            · rw [← h, itoa_nonneg, dec_val _ _ rfl hdg hcan]
          · cases h

theorem pI_itoa (v : Int) (h0 : -9223372036854775808 ≤ v) (h1 : v ≤ 9223372036854775807) : pI (itoa v) = some v := by
  have hlen : ∀ u, u ≤ 9223372036854775808 → (decDigits u).length ≤ 19 := by
    intro u hu
    rw [decDigits_length]
    rcases Nat.lt_or_ge 19 (nDigits u) with h | h
    · exfalso
      have h2 := decDigits_length u
      obtain ⟨d1, d2, d3, d4⟩ := dec_digs u
      -- more than 19 digits spell at least 10 ^ 19
      have key : ∀ t : List UInt8, digs t = true → canon t → t ≠ [48] → 10 ^ (t.length - 1) ≤ valN 0 t := by
        intro t ht hc h48
        cases t with
        | nil => exact absurd rfl hc.1
        | cons a r =>
          simp only [digs, List.all_cons, Bool.and_eq_true] at ht
          have ha := (digit_iff a).1 ht.1
          have ha48 : a.toNat ≠ 48 := fun e => h48 (hc.2 (by simp; exact (toNat_eq (by decide)).1 e))
          have low : ∀ (r : List UInt8) (acc : Nat), acc * 10 ^ r.length ≤ valN acc r := by
            intro r
            induction r with
            | nil => intro acc; rw [valN_nil]; simp
            | cons b r ih =>
              intro acc
              have := ih (acc * 10 + (b.toNat - 48))
              rw [valN_cons, List.length_cons, Nat.pow_succ]
              have e : acc * (10 ^ r.length * 10) = (acc * 10) * 10 ^ r.length := by rw [Nat.mul_assoc, Nat.mul_comm 10]
              have h2 : (acc * 10) * 10 ^ r.length ≤ (acc * 10 + (b.toNat - 48)) * 10 ^ r.length := Nat.mul_le_mul_right _ (by omega)
              rw [e]
              exact Nat.le_trans h2 this
          have := low r (0 * 10 + (a.toNat - 48))
          rw [valN_cons, List.length_cons, Nat.add_sub_cancel]
          have h2 : 1 * 10 ^ r.length ≤ (0 * 10 + (a.toNat - 48)) * 10 ^ r.length := Nat.mul_le_mul_right _ (by omega)
          rw [Nat.one_mul] at h2
          exact Nat.le_trans h2 this
      have k := key (decDigits u) d1 d3 (fun e => by have := d4 e; rw [e] at h2; simp at h2; omega)
      rw [d2] at k
      have h3 : 10 ^ 19 ≤ 10 ^ ((decDigits u).length - 1) := Nat.pow_le_pow_right (by decide) (by omega)
      have h4 : (10 : Nat) ^ 19 = 10000000000000000000 := by decide
      have h5 := Nat.le_trans h3 k
      rw [h4] at h5
      omega
    · exact h
  by_cases hv : v < 0
  · have hu : v = -(v.natAbs : Int) := by omega
    generalize hU : v.natAbs = u at hu
    subst hu
    have hu1 : 1 ≤ u := by omega
    obtain ⟨d1, d2, d3, d4⟩ := dec_digs u
    have hl := hlen u (by omega)
    rw [itoa_neg u hu1, pI]
    simp only [List.head?_cons, if_true, List.tail_cons, or_true, and_true]
    rw [if_neg, if_neg (by simp [d1]), d2, if_pos (by omega)]
    rintro (h | h | h)
    · exact d3.1 h
    · omega
    · have := d4 (d3.2 h); omega
  · obtain ⟨u, rfl⟩ := Int.eq_ofNat_of_zero_le (show 0 ≤ v by omega)
    obtain ⟨d1, d2, d3, d4⟩ := dec_digs u
    have hl := hlen u (by omega)
    rw [show itoa ((u : Nat) : Int) = decDigits u from itoa_nonneg u, pI]
    have hn45 : ¬ (decDigits u).head? = some 45 := by
      cases hq : decDigits u with
      | nil => exact absurd hq d3.1
      | cons a r =>
        rw [hq] at d1
        simp only [digs, List.all_cons, Bool.and_eq_true] at d1
        have := (digit_iff a).1 d1.1
        intro e
        simp at e
        rw [e] at this
        exact absurd this (by decide)
    simp only [hn45, if_false, or_false]
    rw [if_neg, if_neg (by simp [d1]), d2, if_pos (by omega)]
    rintro (h | h | ⟨h, h'⟩)
    · exact d3.1 h
    · omega
    · rw [d3.2 h] at h'; simp at h'

theorem pI_none {l : List UInt8} {v : Int} (h : pI l = none) (hp : parseIntB 64 l = .ok v) (h0 : -9223372036854775808 ≤ v) (h1 : v ≤ 9223372036854775807) : ¬ itoa v = l := by
  intro e
  have := pI_itoa v h0 h1
  rw [e, h] at this
  cases this
end Go.Proofs.Ytpdigaankmgagaa.Sx
