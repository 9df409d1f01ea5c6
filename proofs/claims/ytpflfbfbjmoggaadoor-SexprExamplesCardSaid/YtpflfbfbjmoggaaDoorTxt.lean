/- The text of nodes: words as they are, strings in quotes, lists in parentheses with single spaces. No condition. -/
import Derived.Test.YtpflfbfbjmoggaaDoorSp
set_option linter.unusedVariables false
set_option linter.unusedSimpArgs false
namespace Go.Proofs.YtpflfbfbjmoggaaDoor.Sx

def escT : List UInt8 → List UInt8
  | [] => []
  | c :: r => if escB c.toNat then 92 :: c :: escT r else c :: escT r
def quoteB (t : List UInt8) : List UInt8 := 34 :: (escT t ++ [34])
theorem escT_len (t : List UInt8) : (escT t).length ≤ 2 * t.length := by
  induction t with
  | nil => simp [escT]
  | cons c r ih => simp only [escT]; split <;> simp <;> omega

/-- one node's text, s being the text between the parentheses of a list -/
def fmt1 (k : Int) (t s : List UInt8) : List UInt8 := if k = 1 then t else if k = 2 then quoteB t else 40 :: (s ++ [41])
/-- the texts of nodes one behind the other, a space ahead of each (of the first only if the Bool says so) -/
def fmtF : Bool → Fo → List UInt8
  | _, .nil => []
  | p, .cons k t kids o rest => (if p then [32] else []) ++ fmt1 k t (fmtF false kids) ++ fmtF true rest

theorem escT_yes {c : UInt8} {r : List UInt8} (h : escB c.toNat = true) : escT (c :: r) = 92 :: c :: escT r := by rw [escT, if_pos h]
theorem escT_no {c : UInt8} {r : List UInt8} (h : escB c.toNat = false) : escT (c :: r) = c :: escT r := by rw [escT, if_neg (by simp [h])]
theorem len_escT (t : List UInt8) : t.length ≤ (escT t).length := by
  induction t with
  | nil => simp [escT]
  | cons c r ih => simp only [escT]; split <;> simp <;> omega
theorem len_quoteB (t : List UInt8) : t.length ≤ (quoteB t).length := by
  have := len_escT t
  simp only [quoteB, List.length_cons, List.length_append, List.length_nil]
  omega
theorem fmtF_cons_len (p : Bool) (k : Int) (t : List UInt8) (kids : Fo) (o : Int) (rest : Fo) : (fmt1 k t (fmtF false kids)).length ≤ (fmtF p (.cons k t kids o rest)).length ∧ (fmtF true rest).length ≤ (fmtF p (.cons k t kids o rest)).length := by
  simp only [fmtF, List.length_append]
  omega
theorem ba_eq {s : ByteArray} {l : List UInt8} (h : s.data.toList = l) : s = ⟨l.toArray⟩ := by
  subst h
  apply ByteArray.ext
  simp
end Go.Proofs.YtpflfbfbjmoggaaDoor.Sx
