/- The plain functions of layer 1's specification: bytes, words, strings, lists, over lists of bytes. No condition. -/
set_option linter.unusedVariables false
set_option linter.unusedSimpArgs false
namespace Go.Proofs.Ytpdigaankmgagaa.Sx

def letterB (n : Int) : Bool := decide ((97 ≤ n ∧ n ≤ 122) ∨ (65 ≤ n ∧ n ≤ 90))
def digitB (n : Int) : Bool := decide (48 ≤ n ∧ n ≤ 57)
def wordB (n : Int) : Bool := letterB n || digitB n || decide (n = 95) || decide (n = 45)
def strB (n : Int) : Bool := decide (32 ≤ n ∧ n ≤ 126)
def endB (p n : Nat) : Bool := decide (p = n)
def escB (n : Int) : Bool := decide (n = 34 ∨ n = 92)

/-- how many bytes are skipped: separators and comments (inside a comment if the Bool says so) -/
def skipN : Bool → List UInt8 → Nat
  | _, [] => 0
  | ic, c :: r => if (c.toNat : Int) = 10 then skipN false r + 1 else if ic = true ∨ (c.toNat : Int) = 32 then skipN ic r + 1 else if (c.toNat : Int) = 59 then skipN true r + 1 else 0

theorem skipN_10 {ic : Bool} {c : UInt8} {r : List UInt8} (h : ((c.toNat : Int) == 10) = true) : skipN ic (c :: r) = skipN false r + 1 := by
  rw [skipN, if_pos (by simpa using h)]
theorem skipN_true {c : UInt8} {r : List UInt8} (h : ((c.toNat : Int) == 10) = false) : skipN true (c :: r) = skipN true r + 1 := by
  rw [skipN, if_neg (by simpa using h), if_pos (.inl rfl)]
theorem skipN_32 {c : UInt8} {r : List UInt8} (h : ((c.toNat : Int) == 10) = false) (h' : ((c.toNat : Int) == 32) = true) : skipN false (c :: r) = skipN false r + 1 := by
  rw [skipN, if_neg (by simpa using h), if_pos (.inr (by simpa using h'))]
theorem skipN_59 {c : UInt8} {r : List UInt8} (h : ((c.toNat : Int) == 10) = false) (h' : ((c.toNat : Int) == 32) = false) (h2 : ((c.toNat : Int) == 59) = true) : skipN false (c :: r) = skipN true r + 1 := by
  rw [skipN, if_neg (by simpa using h), if_neg (by simpa using h'), if_pos (by simpa using h2)]
theorem skipN_else {c : UInt8} {r : List UInt8} (h : ((c.toNat : Int) == 10) = false) (h' : ((c.toNat : Int) == 32) = false) (h2 : ((c.toNat : Int) == 59) = false) : skipN false (c :: r) = 0 := by
  rw [skipN, if_neg (by simpa using h), if_neg (by simpa using h'), if_neg (by simpa using h2)]
theorem skipN_le (ic : Bool) (r : List UInt8) : skipN ic r ≤ r.length := by
  induction r generalizing ic with
  | nil => simp [skipN]
  | cons c r ih =>
    rw [skipN]
    have h1 := ih false
    have h2 := ih ic
    have h3 := ih true
    simp only [List.length_cons]
    split
    · omega
    · split
      · omega
      · split <;> omega

def wordN : List UInt8 → Nat
  | [] => 0
  | c :: r => if wordB c.toNat then wordN r + 1 else 0

theorem wordN_yes {c : UInt8} {r : List UInt8} (h : wordB c.toNat = true) : wordN (c :: r) = wordN r + 1 := by rw [wordN, if_pos h]
theorem wordN_no {c : UInt8} {r : List UInt8} (h : wordB c.toNat = false) : wordN (c :: r) = 0 := by rw [wordN, if_neg (by simp [h])]
theorem wordN_le (r : List UInt8) : wordN r ≤ r.length := by
  induction r with
  | nil => simp [wordN]
  | cons c r ih =>
    rw [wordN, List.length_cons]
    split <;> omega

/-- what one step inside a quoted string reads: a byte of the value and how many bytes it takes, or none -/
def strStep : List UInt8 → Option (UInt8 × Nat)
  | [] => none
  | c :: r => if (c.toNat : Int) = 92 then (match r with | [] => none | d :: _ => if escB d.toNat then some (d, 2) else none) else if strB c.toNat then some (c, 1) else none

theorem strStep_plain {c : UInt8} {r : List UInt8} (h : ((c.toNat : Int) == 92) = false) (h' : strB c.toNat = true) : strStep (c :: r) = some (c, 1) := by
  simp only [beq_iff_eq, beq_eq_false_iff_ne, ne_eq] at h
  simp [strStep, h, h']
theorem strStep_bad {c : UInt8} {r : List UInt8} (h : ((c.toNat : Int) == 92) = false) (h' : strB c.toNat = false) : strStep (c :: r) = none := by
  simp only [beq_iff_eq, beq_eq_false_iff_ne, ne_eq] at h
  simp [strStep, h, h']
theorem strStep_esc {c d : UInt8} {r : List UInt8} (h : ((c.toNat : Int) == 92) = true) (h' : escB d.toNat = true) : strStep (c :: d :: r) = some (d, 2) := by
  simp only [beq_iff_eq, beq_eq_false_iff_ne, ne_eq] at h
  simp [strStep, h, h']
theorem strStep_esc_bad {c d : UInt8} {r : List UInt8} (h : ((c.toNat : Int) == 92) = true) (h' : escB d.toNat = false) : strStep (c :: d :: r) = none := by
  simp only [beq_iff_eq, beq_eq_false_iff_ne, ne_eq] at h
  simp [strStep, h, h']
theorem strStep_esc_end {c : UInt8} (h : ((c.toNat : Int) == 92) = true) : strStep [c] = none := by
  simp only [beq_iff_eq, beq_eq_false_iff_ne, ne_eq] at h
  simp [strStep, h]
theorem strB_of_escB {n : Int} (h : escB n = true) : strB n = true := by
  simp [escB, strB] at *
  omega

inductive QRes where
  | bad (at_ : Nat)
  | ok (t : List UInt8) (n : Nat)

/-- the value of a quoted string behind its opening quote, and how many bytes it takes, the closing quote among them; or where it goes wrong -/
def quot : Nat → List UInt8 → QRes
  | 0, _ => .bad 0
  | _ + 1, [] => .bad 0
  | f + 1, c :: r => if (c.toNat : Int) = 34 then .ok [] 1 else match strStep (c :: r) with
    | none => .bad 0
    | some (d, m) => match quot f ((c :: r).drop m) with
      | .bad k => .bad (k + m)
      | .ok t k => .ok (d :: t) (k + m)

def QRes.pre (acc : List UInt8) (n : Nat) : QRes → QRes
  | .bad k => .bad (k + n)
  | .ok t k => .ok (acc ++ t) (k + n)

theorem QRes.pre_nil (q : QRes) : q.pre [] 0 = q := by cases q <;> rfl
theorem quot_end (f : Nat) : quot (f + 1) [] = .bad 0 := rfl
theorem quot_close {f : Nat} {c : UInt8} {r : List UInt8} (h : ((c.toNat : Int) == 34) = true) : quot (f + 1) (c :: r) = .ok [] 1 := by
  rw [quot, if_pos (by simpa using h)]
theorem quot_bad {f : Nat} {c : UInt8} {r : List UInt8} (h : ((c.toNat : Int) == 34) = false) (hs : strStep (c :: r) = none) : quot (f + 1) (c :: r) = .bad 0 := by
  rw [quot, if_neg (by simpa using h), hs]
theorem quot_step {f : Nat} {c d : UInt8} {m : Nat} {r : List UInt8} (h : ((c.toNat : Int) == 34) = false) (hs : strStep (c :: r) = some (d, m)) : quot (f + 1) (c :: r) = (quot f ((c :: r).drop m)).pre [d] m := by
  rw [quot, if_neg (by simpa using h), hs]
  dsimp only
  cases quot f ((c :: r).drop m) <;> rfl
theorem QRes.pre_pre (a b : List UInt8) (n m : Nat) (q : QRes) : (q.pre a n).pre b m = q.pre (b ++ a) (n + m) := by
  cases q <;> simp [QRes.pre, Nat.add_assoc]
theorem strStep_le {r : List UInt8} {d : UInt8} {m : Nat} (h : strStep r = some (d, m)) : 1 ≤ m ∧ m ≤ r.length := by
  cases r with
  | nil => simp [strStep] at h
  | cons c r =>
    simp only [strStep] at h
    split at h
    · cases r with
      | nil => simp at h
      | cons d' r' =>
        simp only at h
        split at h
        · simp at h; simp; omega
        · simp at h
    · split at h
      · simp at h; simp; omega
      · simp at h
theorem quot_len (f : Nat) (r : List UInt8) : ∀ t n, quot f r = .ok t n → n ≤ r.length ∧ t.length < n := by
  induction f generalizing r with
  | zero => intro t n h; simp [quot] at h
  | succ f ih =>
    intro t n h
    cases r with
    | nil => simp [quot] at h
    | cons c r =>
      rw [quot] at h
      split at h
      · simp at h; simp [← h.1, ← h.2]
      · split at h
        · cases h
        · rename_i d m hs
          obtain ⟨h1, h2⟩ := strStep_le hs
          split at h
          · cases h
          · rename_i t' k hq
            have := ih _ _ _ hq
            simp only [QRes.ok.injEq] at h
            rw [← h.1, ← h.2]
            simp only [List.length_drop, List.length_cons] at *
            omega

end Go.Proofs.Ytpdigaankmgagaa.Sx
