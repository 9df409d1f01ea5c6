/- telpher/telref1.TermCompare: the plain comparison. No condition but a bounded size. -/
import Derived.Test.YtpdigaankmgagaaTo1
set_option linter.unusedVariables false
set_option linter.unusedSimpArgs false
namespace Go.Proofs.Ytpdigaankmgagaa
open Go.RowKit Sx

theorem lx_ne {a b : Int} (h : ¬ a = 0) : lx a b = a := if_neg h
theorem lx_0 (b : Int) : lx 0 b = b := if_pos rfl
theorem cI_self (x : Int) : Lib.compareInt x x = 0 := by
  unfold Lib.compareInt
  repeat' split
  all_goals omega
theorem cI_ne {x y : Int} (h : ¬ x = y) : Lib.compareInt x y = (if decide (x < y) then -1 else 1) ∧ ¬ Lib.compareInt x y = 0 := by
  unfold Lib.compareInt
  by_cases h1 : x < y
  · simp [h1]
  · have h2 : x > y := by omega
    simp [h1, h2]
theorem cB_self (x : List UInt8) : Lib.compareBytes x x = 0 := by
  have := compareBytes_neg x x
  omega
theorem cB_ne (x : List UInt8) : ∀ y, ¬ x = y → Lib.compareBytes x y = (if Op.bytesLess x y then -1 else 1) ∧ ¬ Lib.compareBytes x y = 0 := by
  induction x with
  | nil =>
    intro y h
    cases y with
    | nil => exact absurd rfl h
    | cons b y => simp [Lib.compareBytes, Op.bytesLess]
  | cons a x ih =>
    intro y h
    cases y with
    | nil => simp [Lib.compareBytes, Op.bytesLess]
    | cons b y =>
      simp only [Lib.compareBytes, Op.bytesLess]
      by_cases h1 : a < b
      · simp [h1]
      · by_cases h2 : b < a
        · have h3 : ¬ a = b := fun e => by subst e; exact h1 h2
          simp [h1, h2, h3]
        · have h3 : a = b := by
            rw [UInt8.lt_iff_toNat_lt] at h1 h2
            exact UInt8.toNat_inj.1 (by omega)
          subst h3
          have := ih y (fun e => h (by rw [e]))
          simp only [h1, if_false, decide_false, Bool.false_or, beq_self_eq_true, Bool.true_and]
          exact this
theorem tba_ne {t t' : List UInt8} (h : ¬ t = t') : ¬ (ByteArray.mk t.toArray = ByteArray.mk t'.toArray) := fun e => h (by
  have := congrArg (fun b : ByteArray => b.data.toList) e
  simpa using this)
theorem cmp_k {k k' : Int} {b F : Int} (h : ¬ k = k') (hF : lx (Lib.compareInt k k') b = F) : (if decide (k < k') then (-1 : Int) else 1) = F := by
  rw [← hF, lx_ne (cI_ne h).2, (cI_ne h).1]
theorem cmp_s {k k' : List UInt8} {b F : Int} (h : ¬ k = k') (hF : lx (Lib.compareBytes k k') b = F) : (if Op.bytesLess k k' then (-1 : Int) else 1) = F := by
  rw [← hF, lx_ne (cB_ne _ _ h).2, (cB_ne _ _ h).1]
theorem cmp_k0 {k : Int} {b F : Int} (hF : lx (Lib.compareInt k k) b = F) : b = F := by rw [← hF, cI_self, lx_0]
theorem cmp_s0 {k : List UInt8} {b F : Int} (hF : lx (Lib.compareBytes k k) b = F) : b = F := by rw [← hF, cB_self, lx_0]

end Go.Proofs.Ytpdigaankmgagaa
