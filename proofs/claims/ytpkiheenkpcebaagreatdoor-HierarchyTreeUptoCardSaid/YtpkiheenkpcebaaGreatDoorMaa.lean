/- Small facts on worlds: what turned is one block and new ones. No condition. The plain functions of layer 1's specification: bytes, words, strings, lists, over lists of bytes. No condition. The plain functions of layer 1's specification: lists of nodes, and what a text is read as. No condition. How a list of nodes lies in memory: rows of four cells a node, its children's row in another block. No condition. -/
import Derived.Test.YtpkiheenkpcebaaGreatDoorRows
import Derived.WalkKit
import Derived.WalkSpells
import Derived.WalkLawsBesides
import Derived.Lib.Hide
import Derived.Deep.QuietTactic
import Derived.BigQuiet
import Derived.Deep.AppendLies
import Derived.Deep.OwnRows
import Derived.Maps.AppendAt
set_option linter.unusedVariables false
set_option linter.unusedSimpArgs false
namespace Go.Proofs.YtpkiheenkpcebaaGreatDoor
open Go.RowKit

theorem ret_bool {a b : Bool} (h : a = b) : Ending.returned (.bool a) = .returned (.bool b) := by rw [h]
theorem ret_int {k : IntKind} {a b : Int} (h : a = b) : Ending.returned (.int k a) = .returned (.int k b) := by rw [h]

theorem gb_drewN {a w : World} {row : Option Nat} (h : a.grownBy w row) (n : Nat) : a.grownBy (w.drewN n) row := ⟨h.os, h.tape, h.output, h.size, h.block⟩
theorem gb_drew {a w : World} {row : Option Nat} (h : a.grownBy w row) : a.grownBy w.drew row := ⟨h.os, h.tape, h.output, h.size, h.block⟩
theorem gb_alloc {a w : World} {row : Option Nat} (h : a.grownBy w row) (o : Obj) : a.grownBy (w.alloc o) row :=
  ⟨h.os, h.tape, h.output, Nat.le_trans h.size (by simp), fun i hi hne => (Below.heap_alloc w o i (Nat.lt_of_lt_of_le hi h.size)).trans (h.block i hi hne)⟩
theorem gb_setCell {a w : World} {g : Nat} (h : a.grownBy w (some g)) {p : Addr} (hp : p.block = g ∨ a.heap.size ≤ p.block) (u : Value) : a.grownBy (w.setCell p u) (some g) :=
  ⟨h.os, h.tape, h.output, by simpa [World.setCell] using h.size, fun i hi hne => (Below.heap_setCell w p u i (by
    rintro rfl
    rcases hp with hp | hp
    · exact hne (by rw [hp])
    · omega)).trans (h.block i hi hne)⟩
theorem gb_trans {a b c : World} {row : Option Nat} (h : a.grownBy b row) (k : b.grownBy c row) : a.grownBy c row :=
  ⟨k.os.trans h.os, k.tape.trans h.tape, k.output.trans h.output, Nat.le_trans h.size k.size, fun i hi hne => (k.block i (Nat.lt_of_lt_of_le hi h.size) hne).trans (h.block i hi hne)⟩
/-- what turned a new block alone turned no old one -/
theorem gb_new {a b c : World} {row row' : Option Nat} (h : a.grownBy b row) (k : b.grownBy c row') (hr : ∀ g, row' = some g → a.heap.size ≤ g) : a.grownBy c row :=
  ⟨k.os.trans h.os, k.tape.trans h.tape, k.output.trans h.output, Nat.le_trans h.size k.size, fun i hi hne => (k.block i (Nat.lt_of_lt_of_le hi h.size) (fun e => by have := hr i e.symm; omega)).trans (h.block i hi hne)⟩
theorem gb_below {a w : World} (h : Below a.heap.size a w) (row : Option Nat) : a.grownBy w row := ⟨h.os, h.tape, h.output, h.size, fun i hi _ => h.block i hi⟩
theorem gb_belowB {a w w' : World} {row : Option Nat} {B : Nat} (h : a.grownBy w row) (k : Below B w w') (hB : a.heap.size ≤ B) : a.grownBy w' row :=
  ⟨k.os.trans h.os, k.tape.trans h.tape, k.output.trans h.output, Nat.le_trans h.size k.size, fun i hi hne => (k.block i (by omega)).trans (h.block i hi hne)⟩
theorem below_gb {a w : World} (h : a.grownBy w none) : Below a.heap.size a w := ⟨h.os, h.tape, h.output, h.size, fun i hi => h.block i hi (by simp)⟩
theorem below_gb_of {a b c : World} {g : Nat} (h : Below a.heap.size a b) (k : b.grownBy c (some g)) (hg : a.heap.size ≤ g) : Below a.heap.size a c :=
  ⟨k.os.trans h.os, k.tape.trans h.tape, k.output.trans h.output, Nat.le_trans h.size k.size, fun i hi => (k.block i (Nat.lt_of_lt_of_le hi h.size) (by simp; omega)).trans (h.block i hi)⟩
theorem below_drewN' {B : Nat} {a w : World} (h : Below B a w) (n : Nat) : Below B a (w.drewN n) := ⟨h.os, h.tape, h.output, h.size, h.block⟩

theorem quiet_add {P : Program} {f : FuncId} {args : Array Value} {w : World} {a n : Nat} {v : Value}
    (h : Calls P f args (w.drewN (a + n)) fun e w' => e = .returned v ∧ ∃ m, w' = (w.drewN (a + n)).drewN m) :
    Calls P f args (w.drewN (a + n)) fun e w'' => e = .returned v ∧ ∃ m, w'' = w.drewN (a + m) :=
  h.mono fun _ _ ⟨he, m, hm⟩ => ⟨he, n + m, by rw [hm, World.drewN_drewN, Nat.add_assoc]⟩
theorem quiet_add_left {P : Program} {f : FuncId} {args : Array Value} {w : World} {a n : Nat} {v : Value}
    (h : Calls P f args (w.drewN (a + n)) fun e w' => e = .returned v ∧ w.drewN (a + n) = w') :
    Calls P f args (w.drewN (a + n)) fun e w'' => e = .returned v ∧ ∃ m, w'' = w.drewN (a + m) :=
  h.mono fun _ _ ⟨he, hm⟩ => ⟨he, n, hm.symm⟩
theorem quiet_left {P : Program} {f : FuncId} {args : Array Value} {w : World} {n : Nat} {v : Value}
    (h : Calls P f args (w.drewN n) fun e w' => e = .returned v ∧ w.drewN n = w') : Calls P f args (w.drewN n) fun e w'' => e = .returned v ∧ ∃ m, w'' = w.drewN m :=
  h.mono fun _ _ ⟨he, hm⟩ => ⟨he, n, hm.symm⟩
theorem quiet_0 {P : Program} {f : FuncId} {args : Array Value} {w : World} {v : Value}
    (h : Calls P f args w fun e w' => e = .returned v ∧ w = w') : Calls P f args w fun e w'' => e = .returned v ∧ ∃ m, w'' = w.drewN m :=
  h.mono fun _ _ ⟨he, hm⟩ => ⟨he, 0, hm.symm⟩
theorem row4 {w : World} {g : Nat} {t : TypeId} {x y z u : Value} (h : w.heap[g]? = some (.cells #[x, y, z, u] t (0, 0))) :
    w.cell? ⟨g, 0, none⟩ = some x ∧ w.cell? ⟨g, 1, none⟩ = some y ∧ w.cell? ⟨g, 2, none⟩ = some z ∧ w.cell? ⟨g, 3, none⟩ = some u ∧
    w.frozen? ⟨g, 0, none⟩ = false ∧ w.frozen? ⟨g, 1, none⟩ = false ∧ w.frozen? ⟨g, 2, none⟩ = false ∧ w.frozen? ⟨g, 3, none⟩ = false :=
  ⟨cell_of_row w g 0 _ _ _ h, cell_of_row w g 1 _ _ _ h, cell_of_row w g 2 _ _ _ h, cell_of_row w g 3 _ _ _ h, by simp [World.frozen?, h], by simp [World.frozen?, h], by simp [World.frozen?, h], by simp [World.frozen?, h]⟩
theorem heap_lt {w : World} {g : Nat} {o : Obj} (h : w.heap[g]? = some o) : g < w.heap.size := by
  rcases Nat.lt_or_ge g w.heap.size with hh | hh
  · exact hh
  · rw [Array.getElem?_eq_none hh] at h; cases h
theorem extract_eq (s : ByteArray) (p q : Nat) : s.extract p q = ⟨((s.data.toList.drop p).take (q - p)).toArray⟩ := by
  apply ByteArray.ext
  rw [ByteArray.data_extract]
  apply Array.ext'
  simp [List.take_drop]
theorem size_set (w : World) (p : Addr) (v : Value) : (w.setCell p v).heap.size = w.heap.size := by simp [World.setCell]
theorem drop_at (s : ByteArray) (q : Nat) (h : q < s.size) : s.data.toList.drop q = s[q] :: s.data.toList.drop (q + 1) := by
  rw [List.drop_eq_getElem_cons (by simpa using h)]; rfl
theorem drop_end (s : ByteArray) (q : Nat) (h : s.size ≤ q) : s.data.toList.drop q = [] := by
  rw [List.drop_eq_nil_iff]; simpa using h
theorem meas2 {S a b q q' : Nat} (h1 : a = q) (h2 : b = q') (hl : q < S) (hq : q < q') : S - b < S - a := by omega
theorem drop_len (s : ByteArray) (q : Nat) : (s.data.toList.drop q).length = s.size - q := by simp
theorem meas {S a b q : Nat} (h1 : a = q) (h2 : b = q + 1) (hl : q < S) : S - b < S - a := by omega
theorem byte_lo (c : UInt8) : 0 ≤ (c.toNat : Int) := by omega
theorem byte_hi (c : UInt8) : (c.toNat : Int) ≤ 255 := by have := c.toNat_lt; omega
end Go.Proofs.YtpkiheenkpcebaaGreatDoor
namespace Go.Proofs.YtpkiheenkpcebaaGreatDoor.Sx

def letterB (n : Int) : Bool := decide ((97 ≤ n ∧ n ≤ 122) ∨ (65 ≤ n ∧ n ≤ 90))
def digitB (n : Int) : Bool := decide (48 ≤ n ∧ n ≤ 57)
def wordB (n : Int) : Bool := letterB n || digitB n || decide (n = 95) || decide (n = 45)
def strB (n : Int) : Bool := decide (32 ≤ n ∧ n ≤ 126)
def endB (p n : Nat) : Bool := decide (p = n)
def escB (n : Int) : Bool := decide (n = 34 ∨ n = 92)

/-- how many bytes are skipped: separators and comments (inside a comment if the Bool says so) -/
def skipN : Bool → List UInt8 → Nat
  | _, [] => 0
  | ic, c :: r => if (c.toNat : Int) = 10 then skipN false r + 1 else if ic = true ∨ (c.toNat : Int) = 32 then skipN ic r + 1 else if (c.toNat : Int) = 59 then skipN true r + 1 else 0

theorem skipN_10 {ic : Bool} {c : UInt8} {r : List UInt8} (h : ((c.toNat : Int) == 10) = true) : skipN ic (c :: r) = skipN false r + 1 := by
  rw [skipN, if_pos (by simpa using h)]
theorem skipN_true {c : UInt8} {r : List UInt8} (h : ((c.toNat : Int) == 10) = false) : skipN true (c :: r) = skipN true r + 1 := by
  rw [skipN, if_neg (by simpa using h), if_pos (.inl rfl)]
theorem skipN_32 {c : UInt8} {r : List UInt8} (h : ((c.toNat : Int) == 10) = false) (h' : ((c.toNat : Int) == 32) = true) : skipN false (c :: r) = skipN false r + 1 := by
  rw [skipN, if_neg (by simpa using h), if_pos (.inr (by simpa using h'))]
theorem skipN_59 {c : UInt8} {r : List UInt8} (h : ((c.toNat : Int) == 10) = false) (h' : ((c.toNat : Int) == 32) = false) (h2 : ((c.toNat : Int) == 59) = true) : skipN false (c :: r) = skipN true r + 1 := by
  rw [skipN, if_neg (by simpa using h), if_neg (by simpa using h'), if_pos (by simpa using h2)]
theorem skipN_else {c : UInt8} {r : List UInt8} (h : ((c.toNat : Int) == 10) = false) (h' : ((c.toNat : Int) == 32) = false) (h2 : ((c.toNat : Int) == 59) = false) : skipN false (c :: r) = 0 := by
  rw [skipN, if_neg (by simpa using h), if_neg (by simpa using h'), if_neg (by simpa using h2)]
theorem skipN_le (ic : Bool) (r : List UInt8) : skipN ic r ≤ r.length := by
  induction r generalizing ic with
  | nil => simp [skipN]
  | cons c r ih =>
    rw [skipN]
    have h1 := ih false
    have h2 := ih ic
    have h3 := ih true
    simp only [List.length_cons]
    split
    · omega
    · split
      · omega
      · split <;> omega

def wordN : List UInt8 → Nat
  | [] => 0
  | c :: r => if wordB c.toNat then wordN r + 1 else 0

theorem wordN_yes {c : UInt8} {r : List UInt8} (h : wordB c.toNat = true) : wordN (c :: r) = wordN r + 1 := by rw [wordN, if_pos h]
theorem wordN_no {c : UInt8} {r : List UInt8} (h : wordB c.toNat = false) : wordN (c :: r) = 0 := by rw [wordN, if_neg (by simp [h])]
theorem wordN_le (r : List UInt8) : wordN r ≤ r.length := by
  induction r with
  | nil => simp [wordN]
  | cons c r ih =>
    rw [wordN, List.length_cons]
    split <;> omega

/-- what one step inside a quoted string reads: a byte of the value and how many bytes it takes, or none -/
def strStep : List UInt8 → Option (UInt8 × Nat)
  | [] => none
  | c :: r => if (c.toNat : Int) = 92 then (match r with | [] => none | d :: _ => if escB d.toNat then some (d, 2) else none) else if strB c.toNat then some (c, 1) else none

theorem strStep_plain {c : UInt8} {r : List UInt8} (h : ((c.toNat : Int) == 92) = false) (h' : strB c.toNat = true) : strStep (c :: r) = some (c, 1) := by
  simp only [beq_iff_eq, beq_eq_false_iff_ne, ne_eq] at h
  simp [strStep, h, h']
theorem strStep_bad {c : UInt8} {r : List UInt8} (h : ((c.toNat : Int) == 92) = false) (h' : strB c.toNat = false) : strStep (c :: r) = none := by
  simp only [beq_iff_eq, beq_eq_false_iff_ne, ne_eq] at h
  simp [strStep, h, h']
theorem strStep_esc {c d : UInt8} {r : List UInt8} (h : ((c.toNat : Int) == 92) = true) (h' : escB d.toNat = true) : strStep (c :: d :: r) = some (d, 2) := by
  simp only [beq_iff_eq, beq_eq_false_iff_ne, ne_eq] at h
  simp [strStep, h, h']
theorem strStep_esc_bad {c d : UInt8} {r : List UInt8} (h : ((c.toNat : Int) == 92) = true) (h' : escB d.toNat = false) : strStep (c :: d :: r) = none := by
  simp only [beq_iff_eq, beq_eq_false_iff_ne, ne_eq] at h
  simp [strStep, h, h']
theorem strStep_esc_end {c : UInt8} (h : ((c.toNat : Int) == 92) = true) : strStep [c] = none := by
  simp only [beq_iff_eq, beq_eq_false_iff_ne, ne_eq] at h
  simp [strStep, h]
theorem strB_of_escB {n : Int} (h : escB n = true) : strB n = true := by
  simp [escB, strB] at *
  omega

inductive QRes where
  | bad (at_ : Nat)
  | ok (t : List UInt8) (n : Nat)

/-- the value of a quoted string behind its opening quote, and how many bytes it takes, the closing quote among them; or where it goes wrong -/
def quot : Nat → List UInt8 → QRes
  | 0, _ => .bad 0
  | _ + 1, [] => .bad 0
  | f + 1, c :: r => if (c.toNat : Int) = 34 then .ok [] 1 else match strStep (c :: r) with
    | none => .bad 0
    | some (d, m) => match quot f ((c :: r).drop m) with
      | .bad k => .bad (k + m)
      | .ok t k => .ok (d :: t) (k + m)

def QRes.pre (acc : List UInt8) (n : Nat) : QRes → QRes
  | .bad k => .bad (k + n)
  | .ok t k => .ok (acc ++ t) (k + n)

theorem QRes.pre_nil (q : QRes) : q.pre [] 0 = q := by cases q <;> rfl
theorem quot_end (f : Nat) : quot (f + 1) [] = .bad 0 := rfl
theorem quot_close {f : Nat} {c : UInt8} {r : List UInt8} (h : ((c.toNat : Int) == 34) = true) : quot (f + 1) (c :: r) = .ok [] 1 := by
  rw [quot, if_pos (by simpa using h)]
theorem quot_bad {f : Nat} {c : UInt8} {r : List UInt8} (h : ((c.toNat : Int) == 34) = false) (hs : strStep (c :: r) = none) : quot (f + 1) (c :: r) = .bad 0 := by
  rw [quot, if_neg (by simpa using h), hs]
theorem quot_step {f : Nat} {c d : UInt8} {m : Nat} {r : List UInt8} (h : ((c.toNat : Int) == 34) = false) (hs : strStep (c :: r) = some (d, m)) : quot (f + 1) (c :: r) = (quot f ((c :: r).drop m)).pre [d] m := by
  rw [quot, if_neg (by simpa using h), hs]
  dsimp only
  cases quot f ((c :: r).drop m) <;> rfl
theorem QRes.pre_pre (a b : List UInt8) (n m : Nat) (q : QRes) : (q.pre a n).pre b m = q.pre (b ++ a) (n + m) := by
  cases q <;> simp [QRes.pre, Nat.add_assoc]
theorem strStep_le {r : List UInt8} {d : UInt8} {m : Nat} (h : strStep r = some (d, m)) : 1 ≤ m ∧ m ≤ r.length := by
  cases r with
  | nil => simp [strStep] at h
  | cons c r =>
    simp only [strStep] at h
    split at h
    · cases r with
      | nil => simp at h
      | cons d' r' =>
        simp only at h
        split at h
        · simp at h; simp; omega
        · simp at h
    · split at h
      · simp at h; simp; omega
      · simp at h
theorem quot_len (f : Nat) (r : List UInt8) : ∀ t n, quot f r = .ok t n → n ≤ r.length ∧ t.length < n := by
  induction f generalizing r with
  | zero => intro t n h; simp [quot] at h
  | succ f ih =>
    intro t n h
    cases r with
    | nil => simp [quot] at h
    | cons c r =>
      rw [quot] at h
      split at h
      · simp at h; simp [← h.1, ← h.2]
      · split at h
        · cases h
        · rename_i d m hs
          obtain ⟨h1, h2⟩ := strStep_le hs
          split at h
          · cases h
          · rename_i t' k hq
            have := ih _ _ _ hq
            simp only [QRes.ok.injEq] at h
            rw [← h.1, ← h.2]
            simp only [List.length_drop, List.length_cons] at *
            omega

end Go.Proofs.YtpkiheenkpcebaaGreatDoor.Sx
namespace Go.Proofs.YtpkiheenkpcebaaGreatDoor.Sx

/-- A list of nodes: kind, text, children, offset, the nodes behind it. -/
inductive Fo where
  | nil
  | cons (k : Int) (t : List UInt8) (kids : Fo) (o : Int) (rest : Fo)

def Fo.len : Fo → Nat
  | .nil => 0
  | .cons _ _ _ _ r => r.len + 1
def Fo.app : Fo → Fo → Fo
  | .nil, g => g
  | .cons k t kids o r, g => .cons k t kids o (r.app g)
def Fo.one (k : Int) (t : List UInt8) (kids : Fo) (o : Int) : Fo := .cons k t kids o .nil

theorem Fo.app_nil (f : Fo) : f.app .nil = f := by
  induction f with
  | nil => rfl
  | cons k t kids o r _ ih => simp [Fo.app, ih]
theorem Fo.app_app (f g h : Fo) : (f.app g).app h = f.app (g.app h) := by
  induction f with
  | nil => rfl
  | cons k t kids o r _ ih => simp [Fo.app, ih]
theorem Fo.len_app (f g : Fo) : (f.app g).len = f.len + g.len := by
  induction f with
  | nil => simp [Fo.app, Fo.len]
  | cons k t kids o r _ ih => simp [Fo.app, Fo.len, ih]; omega

inductive Res where
  | bad (kind : Int) (at_ : Nat)
  | ok (ns : Fo) (pos : Nat)

def Res.pre (acc : Fo) : Res → Res
  | .bad k a => .bad k a
  | .ok ns p => .ok (acc.app ns) p

/-- The nodes from position p on (r: what is left of the text there), 'open_' lists being open. -/
def elems : Nat → Nat → Nat → List UInt8 → Res
  | 0, _, _, _ => .bad 2 0
  | f + 1, open_, p0, r0 =>
    match r0.drop (skipN false r0) with
    | [] => if 0 < open_ then .bad 2 (p0 + skipN false r0) else .ok .nil (p0 + skipN false r0)
    | c :: r =>
      if wordB c.toNat then
        (if 24 < wordN (c :: r) then .bad 4 (p0 + skipN false r0)
         else (elems f open_ (p0 + skipN false r0 + wordN (c :: r)) ((c :: r).drop (wordN (c :: r)))).pre (.one 1 ((c :: r).take (wordN (c :: r))) .nil (p0 + skipN false r0 : Nat)))
      else if (c.toNat : Int) = 34 then
        (match quot (r.length + 1) r with
         | .bad k => .bad 2 (p0 + skipN false r0 + 1 + k)
         | .ok t n => if 2000 < t.length then .bad 4 (p0 + skipN false r0)
           else (elems f open_ (p0 + skipN false r0 + 1 + n) (r.drop n)).pre (.one 2 t .nil (p0 + skipN false r0 : Nat)))
      else if (c.toNat : Int) = 40 then
        (if 40 < open_ + 1 then .bad 9 (p0 + skipN false r0)
         else match elems f (open_ + 1) (p0 + skipN false r0 + 1) r with
          | .bad k a => .bad k a
          | .ok kids q => (elems f open_ (q + 1) (r.drop (q - (p0 + skipN false r0)))).pre (.one 3 [] kids (p0 + skipN false r0 : Nat)))
      else if (c.toNat : Int) = 41 ∧ 0 < open_ then .ok .nil (p0 + skipN false r0)
      else .bad 2 (p0 + skipN false r0)

theorem Res.pre_nil (r : Res) : r.pre .nil = r := by cases r <;> rfl
theorem Res.pre_pre (a b : Fo) (r : Res) : (r.pre a).pre b = r.pre (b.app a) := by
  cases r <;> simp [Res.pre, Fo.app_app]

section
variable {f o p0 p1 : Nat} {r0 r : List UInt8} {c : UInt8}
theorem elems_nil (hp : p0 + skipN false r0 = p1) (h : r0.drop (skipN false r0) = []) : elems (f + 1) o p0 r0 = if 0 < o then .bad 2 p1 else .ok .nil p1 := by
  rw [elems, h, hp]
theorem elems_word (hp : p0 + skipN false r0 = p1) (h : r0.drop (skipN false r0) = c :: r) (hw : wordB c.toNat = true) :
    elems (f + 1) o p0 r0 = if 24 < wordN (c :: r) then .bad 4 p1 else (elems f o (p1 + wordN (c :: r)) ((c :: r).drop (wordN (c :: r)))).pre (.one 1 ((c :: r).take (wordN (c :: r))) .nil (p1 : Nat)) := by
  rw [elems, h, hp]
  simp only [hw, if_true]
theorem elems_str (hp : p0 + skipN false r0 = p1) (h : r0.drop (skipN false r0) = c :: r) (hw : wordB c.toNat = false) (h34 : ((c.toNat : Int) == 34) = true) :
    elems (f + 1) o p0 r0 = match quot (r.length + 1) r with
         | .bad k => .bad 2 (p1 + 1 + k)
         | .ok t n => if 2000 < t.length then .bad 4 p1
           else (elems f o (p1 + 1 + n) (r.drop n)).pre (.one 2 t .nil (p1 : Nat)) := by
  rw [elems, h, hp]
  have h34' : (c.toNat : Int) = 34 := by simpa using h34
  dsimp only
  rw [if_neg (by simp [hw]), if_pos h34']
theorem elems_list (hp : p0 + skipN false r0 = p1) (h : r0.drop (skipN false r0) = c :: r) (h40 : ((c.toNat : Int) == 40) = true) :
    elems (f + 1) o p0 r0 = if 40 < o + 1 then .bad 9 p1
         else match elems f (o + 1) (p1 + 1) r with
          | .bad k a => .bad k a
          | .ok kids q => (elems f o (q + 1) (r.drop (q - p1))).pre (.one 3 [] kids (p1 : Nat)) := by
  have h40' : (c.toNat : Int) = 40 := by simpa using h40
  rw [elems, h, hp]
  simp only [h40', if_true, show wordB 40 = false from by decide, Bool.false_eq_true, if_false, show ¬ ((40 : Int) = 34) from by decide]
theorem elems_close (hp : p0 + skipN false r0 = p1) (h : r0.drop (skipN false r0) = c :: r) (h41 : ((c.toNat : Int) == 41) = true) (ho : 0 < o) :
    elems (f + 1) o p0 r0 = .ok .nil p1 := by
  have h41' : (c.toNat : Int) = 41 := by simpa using h41
  rw [elems, h, hp]
  simp [h41', show wordB 41 = false from by decide, ho]
theorem elems_else (hp : p0 + skipN false r0 = p1) (h : r0.drop (skipN false r0) = c :: r) (hw : wordB c.toNat = false) (h34 : ((c.toNat : Int) == 34) = false) (h40 : ((c.toNat : Int) == 40) = false) (h41 : ((c.toNat : Int) == 41) = false ∨ o = 0) :
    elems (f + 1) o p0 r0 = .bad 2 p1 := by
  rw [elems, h, hp]
  have h34' : ¬ (c.toNat : Int) = 34 := by simpa using h34
  have h40' : ¬ (c.toNat : Int) = 40 := by simpa using h40
  have h41' : ¬ ((c.toNat : Int) = 41 ∧ 0 < o) := by
    rcases h41 with h | h
    · have : ¬ (c.toNat : Int) = 41 := by simpa using h
      exact fun e => this e.1
    · omega
  simp only [hw, h34', h40', h41', Bool.false_eq_true, if_false]
end

theorem wordN_pos {c : UInt8} {r : List UInt8} (h : wordB c.toNat = true) : 1 ≤ wordN (c :: r) := by rw [wordN_yes h]; omega

/-- where reading ends: within the text; at a closing parenthesis if a list is open; and no more nodes than bytes -/
theorem elems_pos (f : Nat) : ∀ (o p : Nat) (r : List UInt8) (ns : Fo) (q : Nat), elems f o p r = .ok ns q → p ≤ q ∧ q ≤ p + r.length ∧ (0 < o → q < p + r.length) ∧ ns.len ≤ q - p := by
  induction f with
  | zero => intro o p r ns q h; simp [elems] at h
  | succ f ih =>
    intro o p r ns q h
    have hsk := skipN_le false r
    have hlen : (r.drop (skipN false r)).length = r.length - skipN false r := List.length_drop
    rcases hr : r.drop (skipN false r) with _ | ⟨c, r2⟩
    · rw [elems_nil rfl hr] at h
      rw [hr, List.length_nil] at hlen
      split at h
      · cases h
      · simp only [Res.ok.injEq] at h
        obtain ⟨rfl, rfl⟩ := h
        exact ⟨by omega, by omega, by omega, by simp [Fo.len]⟩
    · rw [hr, List.length_cons] at hlen
      cases hw : wordB c.toNat with
      | true =>
        rw [elems_word rfl hr hw] at h
        have h1 := wordN_pos (r := r2) hw
        have h2 := wordN_le (c :: r2)
        rw [List.length_cons] at h2
        split at h
        · cases h
        · rcases he : elems f o (p + skipN false r + wordN (c :: r2)) ((c :: r2).drop (wordN (c :: r2))) with _ | ⟨ns', q'⟩
          · rw [he] at h; cases h
          · rw [he] at h
            simp only [Res.pre, Res.ok.injEq] at h
            obtain ⟨rfl, rfl⟩ := h
            obtain ⟨a1, a2, a3, a4⟩ := ih _ _ _ _ _ he
            rw [List.length_drop, List.length_cons] at a2 a3
            simp only [Fo.len_app, Fo.one, Fo.len]
            exact ⟨by omega, by omega, fun h => by have := a3 h; omega, by omega⟩
      | false =>
        cases h34 : ((c.toNat : Int) == 34) with
        | true =>
          rw [elems_str rfl hr hw h34] at h
          rcases hq : quot (r2.length + 1) r2 with k | ⟨t, n⟩
          · rw [hq] at h; cases h
          · rw [hq] at h
            have h3 := quot_len _ _ _ _ hq
            dsimp only at h
            split at h
            · cases h
            · rcases he : elems f o (p + skipN false r + 1 + n) (r2.drop n) with _ | ⟨ns', q'⟩
              · rw [he] at h; cases h
              · rw [he] at h
                simp only [Res.pre, Res.ok.injEq] at h
                obtain ⟨rfl, rfl⟩ := h
                obtain ⟨a1, a2, a3, a4⟩ := ih _ _ _ _ _ he
                rw [List.length_drop] at a2 a3
                simp only [Fo.len_app, Fo.one, Fo.len]
                exact ⟨by omega, by omega, fun h => by have := a3 h; omega, by omega⟩
        | false =>
          cases h40 : ((c.toNat : Int) == 40) with
          | true =>
            rw [elems_list rfl hr h40] at h
            split at h
            · cases h
            · rcases hk : elems f (o + 1) (p + skipN false r + 1) r2 with _ | ⟨kids, q1⟩
              · rw [hk] at h; cases h
              · rw [hk] at h
                dsimp only at h
                obtain ⟨k1, k2, k3, k4⟩ := ih _ _ _ _ _ hk
                have k3' := k3 (by omega)
                rcases he : elems f o (q1 + 1) (r2.drop (q1 - (p + skipN false r))) with _ | ⟨ns', q'⟩
                · rw [he] at h; cases h
                · rw [he] at h
                  simp only [Res.pre, Res.ok.injEq] at h
                  obtain ⟨rfl, rfl⟩ := h
                  obtain ⟨a1, a2, a3, a4⟩ := ih _ _ _ _ _ he
                  rw [List.length_drop] at a2 a3
                  simp only [Fo.len_app, Fo.one, Fo.len]
                  exact ⟨by omega, by omega, fun h => by have := a3 h; omega, by omega⟩
          | false =>
            by_cases h41 : ((c.toNat : Int) == 41) = true ∧ 0 < o
            · rw [elems_close rfl hr h41.1 h41.2] at h
              simp only [Res.ok.injEq] at h
              obtain ⟨rfl, rfl⟩ := h
              exact ⟨by omega, by omega, by omega, by simp [Fo.len]⟩
            · rw [elems_else rfl hr hw h34 h40 (by
                cases h5 : ((c.toNat : Int) == 41) with
                | true => exact .inr (by have : ¬ 0 < o := fun h => h41 ⟨h5, h⟩; omega)
                | false => exact .inl rfl)] at h
              cases h

theorem elems_kind (f : Nat) : ∀ (o p : Nat) (r : List UInt8) (k : Int) (a : Nat), elems f o p r = .bad k a → k = 2 ∨ k = 4 ∨ k = 9 := by
  induction f with
  | zero => intro o p r k a h; simp [elems] at h; exact .inl h.1.symm
  | succ f ih =>
    intro o p r k a h
    have hpre : ∀ (acc : Fo) (o p : Nat) (r : List UInt8), (elems f o p r).pre acc = .bad k a → k = 2 ∨ k = 4 ∨ k = 9 := by
      intro acc o p r h
      rcases he : elems f o p r with ⟨k', a'⟩ | ⟨ns, q⟩
      · rw [he] at h
        simp only [Res.pre, Res.bad.injEq] at h
        exact ih _ _ _ _ _ (by rw [he, h.1, h.2])
      · rw [he] at h; cases h
    rcases hr : r.drop (skipN false r) with _ | ⟨c, r2⟩
    · rw [elems_nil rfl hr] at h
      split at h
      · simp only [Res.bad.injEq] at h; exact .inl h.1.symm
      · cases h
    · cases hw : wordB c.toNat with
      | true =>
        rw [elems_word rfl hr hw] at h
        split at h
        · simp only [Res.bad.injEq] at h; exact .inr (.inl h.1.symm)
        · exact hpre _ _ _ _ h
      | false =>
        cases h34 : ((c.toNat : Int) == 34) with
        | true =>
          rw [elems_str rfl hr hw h34] at h
          rcases hq : quot (r2.length + 1) r2 with k' | ⟨t, n⟩
          · rw [hq] at h; simp only [Res.bad.injEq] at h; exact .inl h.1.symm
          · rw [hq] at h
            dsimp only at h
            split at h
            · simp only [Res.bad.injEq] at h; exact .inr (.inl h.1.symm)
            · exact hpre _ _ _ _ h
        | false =>
          cases h40 : ((c.toNat : Int) == 40) with
          | true =>
            rw [elems_list rfl hr h40] at h
            split at h
            · simp only [Res.bad.injEq] at h; exact .inr (.inr h.1.symm)
            · rcases hk : elems f (o + 1) (p + skipN false r + 1) r2 with ⟨k', a'⟩ | ⟨kids, q1⟩
              · rw [hk] at h
                simp only [Res.bad.injEq] at h
                exact ih _ _ _ _ _ (by rw [hk, h.1, h.2])
              · rw [hk] at h
                exact hpre _ _ _ _ h
          | false =>
            by_cases h41 : ((c.toNat : Int) == 41) = true ∧ 0 < o
            · rw [elems_close rfl hr h41.1 h41.2] at h; cases h
            · rw [elems_else rfl hr hw h34 h40 (by
                cases h5 : ((c.toNat : Int) == 41) with
                | true => exact .inr (by have : ¬ 0 < o := fun h => h41 ⟨h5, h⟩; omega)
                | false => exact .inl rfl)] at h
              simp only [Res.bad.injEq] at h
              exact .inl h.1.symm

def parseR (l : List UInt8) : Res := if 65536 < l.length then .bad 4 0 else elems (l.length + 1) 0 0 l

end Go.Proofs.YtpkiheenkpcebaaGreatDoor.Sx
namespace Go.Proofs.YtpkiheenkpcebaaGreatDoor
open Go.RowKit Sx

/-- n rows of cells ys lie at A, in a block of S (if there is one at all). -/
def readsAt (w : World) (S : Nat → Prop) (A : Option Addr) (n : Nat) (ys : List Value) : Prop :=
  0 < n → ∃ g off : Nat, A = some ⟨g, off, none⟩ ∧ S g ∧ g < w.heap.size ∧ ∀ j u, ys[j]? = some u → w.cell? ⟨g, off + j, none⟩ = some u

def rowOf (w : World) (S : Nat → Prop) : Fo → List Value → Prop
  | .nil, xs => xs = []
  | .cons k t kids o rest, xs => ∃ A c ys zs, xs = .int .i64 k :: .string ⟨t.toArray⟩ :: .slice A kids.len c :: .int .i64 o :: zs ∧ kids.len ≤ c ∧ readsAt w S A kids.len ys ∧ rowOf w S kids ys ∧ rowOf w S rest zs

/-- v is a slice that reads as the nodes f. -/
def sliceOf (w : World) (S : Nat → Prop) (f : Fo) (v : Value) : Prop :=
  ∃ A c ys, v = .slice A f.len c ∧ f.len ≤ c ∧ readsAt w S A f.len ys ∧ rowOf w S f ys

theorem blk_add (a : Addr) (n : Nat) : (a.add n).block = a.block := by unfold Addr.add; split <;> rfl

theorem readsAt.keep {w w' : World} {S S' : Nat → Prop} {A : Option Addr} {n : Nat} {ys : List Value} (h : readsAt w S A n ys) (hs : w.heap.size ≤ w'.heap.size)
    (hk : ∀ x, S x → x < w.heap.size → w'.heap[x]? = w.heap[x]? ∧ S' x) : readsAt w' S' A n ys := by
  intro hn
  obtain ⟨g, off, hA, hS, hlt, hc⟩ := h hn
  obtain ⟨h1, h2⟩ := hk _ hS hlt
  exact ⟨g, off, hA, h2, by omega, fun j u hu => (World.cell?_of_block h1).trans (hc j u hu)⟩

theorem rowOf.keep {w w' : World} {S S' : Nat → Prop} (hs : w.heap.size ≤ w'.heap.size) (hk : ∀ x, S x → x < w.heap.size → w'.heap[x]? = w.heap[x]? ∧ S' x) (f : Fo) :
    ∀ xs, rowOf w S f xs → rowOf w' S' f xs := by
  induction f with
  | nil => intro xs h; exact h
  | cons k t kids o rest ih1 ih2 =>
    intro xs h
    obtain ⟨A, c, ys, zs, hx, hc, hr, hk1, hk2⟩ := h
    exact ⟨A, c, ys, zs, hx, hc, hr.keep hs hk, ih1 _ hk1, ih2 _ hk2⟩

theorem sliceOf.keep {w w' : World} {S S' : Nat → Prop} {f : Fo} {v : Value} (h : sliceOf w S f v) (hs : w.heap.size ≤ w'.heap.size) (hk : ∀ x, S x → x < w.heap.size → w'.heap[x]? = w.heap[x]? ∧ S' x) : sliceOf w' S' f v := by
  obtain ⟨A, c, ys, hv, hc, hr, ho⟩ := h
  exact ⟨A, c, ys, hv, hc, hr.keep hs hk, ho.keep hs hk _⟩

theorem sliceOf.drewN {w : World} {S : Nat → Prop} {f : Fo} {v : Value} (h : sliceOf w S f v) (n : Nat) : sliceOf (w.drewN n) S f v := h.keep (Nat.le_refl _) fun _ hx _ => ⟨rfl, hx⟩

theorem rowOf.len {w : World} {S : Nat → Prop} (f : Fo) : ∀ xs, rowOf w S f xs → xs.length = f.len * 4 := by
  induction f with
  | nil => intro xs h; rw [h]; rfl
  | cons k t kids o rest ih1 ih2 =>
    intro xs h
    obtain ⟨A, c, ys, zs, hx, hc, hr, hk1, hk2⟩ := h
    rw [hx]
    simp only [List.length_cons, ih2 _ hk2, Fo.len]
    omega

theorem rowOf.app {w : World} {S : Nat → Prop} (f g : Fo) (ys : List Value) (hg : rowOf w S g ys) : ∀ xs, rowOf w S f xs → rowOf w S (f.app g) (xs ++ ys) := by
  induction f with
  | nil => intro xs h; rw [h]; exact hg
  | cons k t kids o rest ih1 ih2 =>
    intro xs h
    obtain ⟨A, c, ys', zs, hx, hc, hr, hk1, hk2⟩ := h
    exact ⟨A, c, ys', zs ++ ys, by rw [hx]; rfl, hc, hr, hk1, ih2 _ hk2⟩

theorem rowOf.one {w : World} {S : Nat → Prop} {k o : Int} {t : List UInt8} {kids : Fo} {A : Option Addr} {c : Nat} {ys : List Value} (hc : kids.len ≤ c) (hr : readsAt w S A kids.len ys) (hk : rowOf w S kids ys) :
    rowOf w S (.one k t kids o) [.int .i64 k, .string ⟨t.toArray⟩, .slice A kids.len c, .int .i64 o] :=
  ⟨A, c, ys, [], rfl, hc, hr, hk, rfl⟩

theorem readsAt.none_ (w : World) (S : Nat → Prop) : readsAt w S none 0 [] := fun h => absurd h (by omega)

theorem own_shape {w : World} {base : Nat} {e : TypeId} {size : Nat} {v : Value} {n : Nat} {xs : List Value} (h : w.ownsRow base e size v n xs) : ∃ A c, v = .slice A n c ∧ n ≤ c := by
  rcases h.2 with ⟨rfl, rfl⟩ | ⟨g, cap, cur, rfl, _, _, hnc, _⟩
  · exact ⟨none, 0, rfl, Nat.le_refl _⟩
  · exact ⟨_, cap, rfl, hnc⟩

/-- An owned row of nodes is a slice that reads as them. -/
theorem own_slice {w : World} {base : Nat} {e : TypeId} {v : Value} {f : Fo} {xs : List Value} {S : Nat → Prop} (h : w.ownsRow base e 4 v f.len xs) (hr : rowOf w S f xs) (hS : ∀ x, S x → base ≤ x) : sliceOf w (fun x => base ≤ x) f v := by
  obtain ⟨A, c, rfl, hc⟩ := own_shape h
  refine ⟨A, c, xs, rfl, hc, ?_, hr.keep (Nat.le_refl _) (fun x hx _ => ⟨rfl, hS x hx⟩) _⟩
  intro hn
  rcases h.2 with ⟨hv, h0⟩ | ⟨g, cap, cur, hv, hb, hg, _⟩
  · omega
  · simp only [Value.slice.injEq] at hv
    obtain ⟨rfl, _, rfl⟩ := hv
    refine ⟨g, 0, rfl, hb, heap_lt hg, fun j u hu => ?_⟩
    have := h.cells (g := g) rfl j u hu
    rw [← this, Nat.zero_add]
    unfold Addr.add
    split
    · rename_i h; rw [h]
    · simp

theorem cells_new (w : World) (cs : List Value) (t : TypeId) : ∀ j u, cs[j]? = some u → (w.alloc (.cells cs.toArray t)).cell? ((⟨w.heap.size, 0, none⟩ : Addr).add j) = some u := by
  intro j u hu
  have e : ((⟨w.heap.size, 0, none⟩ : Addr).add j) = ⟨w.heap.size, j, none⟩ := by
    unfold Addr.add
    split
    · rename_i h; rw [h]
    · simp
  rw [e, cell_of_row _ _ j _ _ _ (heap_alloc_new w _)]
  simpa using hu

/-- One node more is appended to an owned row. w: the call's world, wr: the round's, w1: behind the callee, w2: behind the append. -/
theorem push_row {w wr w1 w2 : World} {b : Nat} {acc kids : Fo} {xs ys : List Value} {v v' : Value} {k o : Int} {t : List UInt8} {A : Option Addr} {c : Nat} {ob : Obj} {e : TypeId}
    (hown : wr.ownsRow w.heap.size e 4 v acc.len xs) (hrow : rowOf wr (fun x => w.heap.size ≤ x ∧ v.ownBlock ≠ some x) acc xs) (hb : b < w.heap.size) (hw : w.heap.size ≤ wr.heap.size)
    (hg1 : wr.grownBy w1 (some b)) (hc : kids.len ≤ c) (hr : readsAt w1 (fun x => wr.heap.size ≤ x) A kids.len ys) (hk : rowOf w1 (fun x => wr.heap.size ≤ x) kids ys)
    (hg2 : (w1.alloc ob).grownBy w2 v.ownBlock) (hat : v'.ownBlock = v.ownBlock ∨ v'.ownBlock = some (w1.heap.size + 1)) :
    rowOf w2 (fun x => w.heap.size ≤ x ∧ v'.ownBlock ≠ some x) (acc.app (.one k t kids o)) (xs ++ [.int .i64 k, .string ⟨t.toArray⟩, .slice A kids.len c, .int .i64 o]) := by
  have hs1 := hg1.size
  have hs2 := hg2.size
  have hsa : (w1.alloc ob).heap.size = w1.heap.size + 1 := by simp
  have hlt : ∀ x, v.ownBlock = some x → x < wr.heap.size := fun x hx => (hown.lt x hx).2
  have hne' : ∀ x, x < w1.heap.size → v.ownBlock ≠ some x → v'.ownBlock ≠ some x := by
    intro x hx hne he
    rcases hat with h | h
    · exact hne (h.symm.trans he)
    · rw [h] at he
      simp only [Option.some.injEq] at he
      omega
  have hto : ∀ x, x < w1.heap.size → v.ownBlock ≠ some x → w2.heap[x]? = w1.heap[x]? := fun x hx hne =>
    (hg2.block x (by omega) (fun e => hne e.symm)).trans (Below.heap_alloc w1 ob x hx)
  refine rowOf.app _ _ _ (rowOf.one hc (hr.keep (by omega) ?_) (hk.keep (by omega) ?_ _)) _ (hrow.keep (by omega) ?_ _)
  · intro x hx hl
    have hne : v.ownBlock ≠ some x := fun e => by have := hlt x e; omega
    exact ⟨hto x hl hne, by omega, hne' x hl hne⟩
  · intro x hx hl
    have hne : v.ownBlock ≠ some x := fun e => by have := hlt x e; omega
    exact ⟨hto x hl hne, by omega, hne' x hl hne⟩
  · rintro x ⟨hx, hne⟩ hl
    exact ⟨(hto x (by omega) hne).trans (hg1.block x hl (by simp; omega)), hx, hne' x (by omega) hne⟩

end Go.Proofs.YtpkiheenkpcebaaGreatDoor
