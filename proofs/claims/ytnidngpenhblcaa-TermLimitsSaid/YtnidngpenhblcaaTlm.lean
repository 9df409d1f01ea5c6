/- The two terms of TermLimits, said of the plain functions: what is wide, what is deep. No condition. -/
import Derived.Test.YtnidngpenhblcaaTrw
import Derived.Test.YtnidngpenhblcaaTck
import Derived.Test.YtnidngpenhblcaaMod
set_option linter.unusedVariables false
set_option linter.unusedSimpArgs false
namespace Go.Proofs.Ytnidngpenhblcaa.Sx
open Go.RowKit
def intN : List UInt8 := [73, 110, 116]
def boxN : List UInt8 := [66, 111, 120]
/-- n times Int -/
def wideF : Nat → Fo
  | 0 => .nil
  | n + 1 => .cons 2 intN .nil 0 (wideF n)
theorem wideF_snoc (n : Nat) : (wideF n).app (.one 2 intN .nil 0) = wideF (n + 1) := by
  induction n with
  | zero => rfl
  | succ n ih => show Fo.cons 2 intN .nil 0 ((wideF n).app (.one 2 intN .nil 0)) = _; rw [ih]; rfl
theorem wideF_len (n : Nat) : (wideF n).len = n := by
  induction n with
  | zero => rfl
  | succ n ih => show (wideF n).len + 1 = _; rw [ih]
theorem wideF_size (n : Nat) : fsize (wideF n) = n := by
  induction n with
  | zero => rfl
  | succ n ih => simp only [wideF, fsize, ih]; omega
theorem wideF_dep (n : Nat) : depT (wideF n) ≤ 1 := by
  induction n with
  | zero => simp [wideF, depT]
  | succ n ih => simp only [wideF, depT]; omega
theorem wideF_lenT (n : Nat) : lenT (wideF n) := by
  induction n with
  | zero => trivial
  | succ n ih => exact ⟨by decide, trivial, ih⟩
theorem wideF_valid (n : Nat) : validTL (wideF n) = true := by
  induction n with
  | zero => rfl
  | succ n ih => rw [wideF, validTL_cons, ih]; decide
theorem wide_V (n : Nat) (h : 2 ≤ n) : validV 4 [] 0 (wideF n) = if n + 1 ≤ 200 then 0 else 4 := by
  rw [validV_eq, wideF_size]
  have hd := wideF_dep n
  by_cases h1 : n + 1 ≤ 200
  · rw [if_neg (by omega), if_pos h1, validT, wideF_valid, vNode]
    simp [wideF_len, h]
  · rw [if_pos (by omega), if_neg h1]
/-- the term behind j rounds, in a row of its own -/
def deepF : Nat → Fo
  | 0 => .one 0 [] .nil 0
  | j + 1 => .one 2 boxN (deepF j) 0
theorem deepF_len (j : Nat) : (deepF j).len = 1 := by cases j <;> rfl
theorem deepF_size (j : Nat) : fsize (deepF j) = j + 1 := by
  induction j with
  | zero => rfl
  | succ j ih => simp only [deepF, Fo.one, fsize, ih] <;> omega
theorem deepF_dep (j : Nat) : depT (deepF j) = j + 1 := by
  induction j with
  | zero => rfl
  | succ j ih => simp only [deepF, Fo.one, depT, ih] <;> omega
theorem deepF_lenT (j : Nat) : lenT (deepF j) := by
  induction j with
  | zero => exact ⟨by decide, trivial, trivial⟩
  | succ j ih => exact ⟨by decide, ih, trivial⟩
theorem deepF_plain (j : Nat) : plainL (deepF j) = true := by
  induction j with
  | zero => decide
  | succ j ih => rw [deepF, Fo.one, plainL_cons]; simp [plain1, plainL, ih]
theorem deepF_valid (j : Nat) : validTL (deepF j) = true := by
  induction j with
  | zero => decide
  | succ j ih =>
    rw [deepF, Fo.one, validTL_cons, validT, ih, vNode]
    simp [deepF_len, deepF_plain, validTL, show tyB boxN = true from by decide]
theorem deep_V (j : Nat) : validV 2 boxN 0 (deepF j) = if j + 2 ≤ 12 then 0 else 4 := by
  rw [validV_eq, deepF_size, deepF_dep]
  by_cases h1 : j + 2 ≤ 12
  · rw [if_neg (by omega), if_pos h1, validT, deepF_valid, vNode]
    simp [deepF_len, deepF_plain, show tyB boxN = true from by decide]
  · rw [if_pos (by omega), if_neg h1]
end Go.Proofs.Ytnidngpenhblcaa.Sx
