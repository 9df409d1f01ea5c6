/- The plain comparison of terms: by kind, name, index, number of arguments, arguments; a total order. No condition. -/
import Derived.Test.YtpdigaankmgagaaSp
import Derived.Lib.Bytealg
import Derived.Lib.Small
set_option linter.unusedVariables false
set_option linter.unusedSimpArgs false
namespace Go.Proofs.Ytpdigaankmgagaa.Sx
open Go.Lib

def lx (a b : Int) : Int := if a = 0 then b else a
def cmpF : Fo → Fo → Int
  | .cons k t kids o rest, .cons k' t' kids' o' rest' =>
    lx (lx (compareInt k k') (lx (compareBytes t t') (lx (compareInt o o') (lx (compareInt (kids.len : Nat) (kids'.len : Nat)) (cmpF kids kids'))))) (cmpF rest rest')
  | _, _ => 0
def cmp1 (k : Int) (t : List UInt8) (o : Int) (kids : Fo) (k' : Int) (t' : List UInt8) (o' : Int) (kids' : Fo) : Int :=
  lx (compareInt k k') (lx (compareBytes t t') (lx (compareInt o o') (lx (compareInt (kids.len : Nat) (kids'.len : Nat)) (cmpF kids kids'))))
theorem cmpF_cons (k : Int) (t : List UInt8) (kids : Fo) (o : Int) (rest : Fo) (k' : Int) (t' : List UInt8) (kids' : Fo) (o' : Int) (rest' : Fo) :
    cmpF (.cons k t kids o rest) (.cons k' t' kids' o' rest') = lx (cmp1 k t o kids k' t' o' kids') (cmpF rest rest') := rfl

theorem lx_neg (a b : Int) : lx (-a) (-b) = - lx a b := by
  unfold lx
  split <;> split <;> omega
theorem compareInt_neg (x y : Int) : compareInt y x = - compareInt x y := by
  unfold compareInt
  repeat' split
  all_goals first | rfl | (exfalso; omega)
theorem lt_irr {a b : UInt8} (h : a < b) (h' : b < a) : False := by
  rw [UInt8.lt_iff_toNat_lt] at h h'
  omega
theorem compareBytes_neg (x : List UInt8) : ∀ y, compareBytes y x = - compareBytes x y := by
  induction x with
  | nil => intro y; cases y <;> rfl
  | cons a x ih =>
    intro y
    cases y with
    | nil => rfl
    | cons b y =>
      simp only [compareBytes]
      by_cases h1 : a < b
      · have h2 : ¬ b < a := fun h => lt_irr h1 h
        simp [h1, h2]
      · by_cases h2 : b < a
        · simp [h1, h2]
        · simp [h1, h2, ih]
theorem cmpF_neg (f : Fo) : ∀ g, cmpF g f = - cmpF f g := by
  induction f with
  | nil => intro g; cases g <;> rfl
  | cons k t kids o rest ihk ihr =>
    intro g
    cases g with
    | nil => rfl
    | cons k' t' kids' o' rest' =>
      rw [cmpF_cons, cmpF_cons, cmp1, cmp1, compareInt_neg k, compareBytes_neg t, compareInt_neg o, compareInt_neg (kids.len : Nat), ihk, ihr]
      simp only [lx_neg]
theorem cmp1_neg (k : Int) (t : List UInt8) (o : Int) (kids : Fo) (k' : Int) (t' : List UInt8) (o' : Int) (kids' : Fo) : cmp1 k' t' o' kids' k t o kids = - cmp1 k t o kids k' t' o' kids' := by
  rw [cmp1, cmp1, compareInt_neg k, compareBytes_neg t, compareInt_neg o, compareInt_neg (kids.len : Nat), cmpF_neg]
  simp only [lx_neg]

/-- the signs of three comparisons fit together -/
def T3 (x y z : Int) : Prop := (x ≤ 0 → y ≤ 0 → z ≤ 0) ∧ (x ≤ 0 → y < 0 → z < 0) ∧ (x < 0 → y ≤ 0 → z < 0) ∧ (x = 0 → y = 0 → z = 0)
theorem T3.lx {x y z x' y' z' : Int} (h : T3 x y z) (h' : x = 0 → y = 0 → T3 x' y' z') : T3 (lx x x') (lx y y') (lx z z') := by
  obtain ⟨h1, h2, h3, h4⟩ := h
  by_cases hx : x = 0
  · by_cases hy : y = 0
    · have hz := h4 hx hy
      obtain ⟨k1, k2, k3, k4⟩ := h' hx hy
      simp only [Sx.lx, hx, hy, hz, if_true]
      exact ⟨k1, k2, k3, k4⟩
    · simp only [Sx.lx, hx, hy, if_true, if_false]
      refine ⟨fun a b => ?_, fun a b => ?_, fun a b => ?_, fun a b => absurd b hy⟩
      all_goals
        have := h2 (by omega) (by omega)
        rw [if_neg (by omega)]
        omega
  · simp only [Sx.lx, hx, if_false]
    refine ⟨fun a b => ?_, fun a b => ?_, fun a b => ?_, fun a b => absurd a hx⟩
    all_goals
      by_cases hy : y = 0
      · have := h3 (by omega) (by omega)
        rw [if_neg (by omega)]
        omega
      · rw [if_neg hy] at b
        have := h3 (by omega) (by omega)
        rw [if_neg (by omega)]
        omega
theorem T3.int (a b c : Int) : T3 (compareInt a b) (compareInt b c) (compareInt a c) := by
  unfold compareInt
  refine ⟨?_, ?_, ?_, ?_⟩
  all_goals
    repeat' split
    all_goals omega
theorem T3.bytes (a : List UInt8) : ∀ b c, T3 (compareBytes a b) (compareBytes b c) (compareBytes a c) := by
  induction a with
  | nil =>
    intro b c
    cases b <;> cases c <;> simp [compareBytes, T3]
    all_goals (try split) <;> (try split) <;> (try omega)
  | cons x a ih =>
    intro b c
    cases b with
    | nil => cases c <;> simp [compareBytes, T3] <;> (try split) <;> (try split) <;> (try omega)
    | cons y b =>
      cases c with
      | nil => simp [compareBytes, T3] <;> (try split) <;> (try split) <;> (try omega)
      | cons z c =>
        have e : ∀ (p q : UInt8) (u v : List UInt8), compareBytes (p :: u) (q :: v) = Sx.lx (compareInt (p.toNat : Nat) (q.toNat : Nat)) (compareBytes u v) := by
          intro p q u v
          simp only [compareBytes, Sx.lx, compareInt, UInt8.lt_iff_toNat_lt]
          by_cases h1 : p.toNat < q.toNat
          · simp [h1]
          · by_cases h2 : q.toNat < p.toNat
            · have : ¬ p.toNat = q.toNat := by omega
              simp [h1, h2]
            · simp [h1, h2]
        rw [e, e, e]
        exact (T3.int _ _ _).lx fun _ _ => ih b c
theorem compareInt_zero {x y : Int} (h : compareInt x y = 0) : x = y := by
  unfold compareInt at h
  repeat' split at h
  all_goals omega
theorem T3.fo (f : Fo) : ∀ g h, f.len = g.len → g.len = h.len → T3 (cmpF f g) (cmpF g h) (cmpF f h) := by
  induction f with
  | nil =>
    intro g h h1 h2
    cases g with
    | cons => simp [Fo.len] at h1
    | nil => cases h with
      | cons => simp [Fo.len] at h2
      | nil => simp [cmpF, T3]
  | cons k t kids o rest ihk ihr =>
    intro g h h1 h2
    cases g with
    | nil => simp [Fo.len] at h1
    | cons k1 t1 kids1 o1 rest1 => cases h with
      | nil => simp [Fo.len] at h2
      | cons k2 t2 kids2 o2 rest2 =>
        simp only [Fo.len] at h1 h2
        rw [cmpF_cons, cmpF_cons, cmpF_cons, cmp1, cmp1, cmp1]
        refine T3.lx ?_ fun _ _ => ihr _ _ (by omega) (by omega)
        refine (T3.int _ _ _).lx fun _ _ => (T3.bytes _ _ _).lx fun _ _ => (T3.int _ _ _).lx fun _ _ => (T3.int _ _ _).lx fun e1 e2 => ihk _ _ ?_ ?_
        · have := compareInt_zero e1; omega
        · have := compareInt_zero e2; omega
theorem T3.one (k : Int) (t : List UInt8) (o : Int) (kids : Fo) (k1 : Int) (t1 : List UInt8) (o1 : Int) (kids1 : Fo) (k2 : Int) (t2 : List UInt8) (o2 : Int) (kids2 : Fo) :
    T3 (cmp1 k t o kids k1 t1 o1 kids1) (cmp1 k1 t1 o1 kids1 k2 t2 o2 kids2) (cmp1 k t o kids k2 t2 o2 kids2) := by
  rw [cmp1, cmp1, cmp1]
  refine (T3.int _ _ _).lx fun _ _ => (T3.bytes _ _ _).lx fun _ _ => (T3.int _ _ _).lx fun _ _ => (T3.int _ _ _).lx fun e1 e2 => T3.fo _ _ _ ?_ ?_
  · have := compareInt_zero e1; omega
  · have := compareInt_zero e2; omega
theorem cmp1_self (k : Int) (t : List UInt8) (o : Int) (kids : Fo) : cmp1 k t o kids k t o kids = 0 := by
  have := cmp1_neg k t o kids k t o kids
  omega
end Go.Proofs.Ytpdigaankmgagaa.Sx
