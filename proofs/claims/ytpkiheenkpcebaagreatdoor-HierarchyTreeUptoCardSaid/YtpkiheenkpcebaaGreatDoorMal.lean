/- What Substitute and Instantiate have in common. No condition. -/
import Derived.Test.YtpkiheenkpcebaaGreatDoorMak
set_option linter.unusedVariables false
set_option linter.unusedSimpArgs false
namespace Go.Proofs.YtpkiheenkpcebaaGreatDoor
open Go.RowKit Sx

/-- no block -/
def NS : Nat → Prop := fun _ => False
/-- what the closure 'choose' (function F, what it captured in block p) answers for the free variable f -/
def ChT (F : Nat) (p : Nat) (J : World → Prop) (G : Int → Option Tm) (sh : Int → Int) : Prop :=
  ∀ (X : World) (k o f : Int) (t : List UInt8) (n : Nat) (A : Option Addr) (c : Nat), J X → 0 ≤ f → f ≤ o → o ≤ 2305843009213693952 →
    (∀ x, G f = some x → Calls Tryz.prog F #[.agg #[.int .i64 k, .string ⟨t.toArray⟩, .int .i64 o, .slice A n c], .int .i64 f, .pointer (some ⟨p, 0, none⟩)] X fun e u =>
      ∃ A' c', e = .returned (.tuple #[.agg #[.int .i64 x.k, .string ⟨x.t.toArray⟩, .int .i64 x.o, .slice A' x.kids.len c'], .bool true]) ∧ KT u x.kids A' c' ∧ BH X u) ∧
    (G f = none → Calls Tryz.prog F #[.agg #[.int .i64 k, .string ⟨t.toArray⟩, .int .i64 o, .slice A n c], .int .i64 f, .pointer (some ⟨p, 0, none⟩)] X fun e u =>
      e = .returned (.tuple #[.agg #[.int .i64 k, .string ⟨t.toArray⟩, .int .i64 (sh o), .slice A n c], .bool false]) ∧ BH X u)
theorem s4_keep10 {w : World} {N a b1 b2 b3 : Nat} {v0 v1 v2 v3 v4 v5 v6 v7 v8 v9 : Value} (p q r s : Value) (ha : a ≠ N) (h1 : ¬ b1 = N) (h2 : ¬ b2 = N) (h3 : ¬ b3 = N)
    (h : w.cell? ⟨a, 0, none⟩ = some v0 ∧ w.cell? ⟨a, 1, none⟩ = some v1 ∧ w.cell? ⟨a, 2, none⟩ = some v2 ∧ w.cell? ⟨a, 3, none⟩ = some v3 ∧ w.cell? ⟨b1, 0, none⟩ = some v4 ∧ w.cell? ⟨b1, 1, none⟩ = some v5 ∧ w.cell? ⟨b1, 2, none⟩ = some v6 ∧ w.cell? ⟨b1, 3, none⟩ = some v7 ∧ w.cell? ⟨b2, 0, none⟩ = some v8 ∧ w.cell? ⟨b3, 0, none⟩ = some v9) :
    ((((w.setCell ⟨N, 0, none⟩ p).setCell ⟨N, 1, none⟩ q).setCell ⟨N, 2, none⟩ r).setCell ⟨N, 3, none⟩ s).cell? ⟨a, 0, none⟩ = some v0 ∧ ((((w.setCell ⟨N, 0, none⟩ p).setCell ⟨N, 1, none⟩ q).setCell ⟨N, 2, none⟩ r).setCell ⟨N, 3, none⟩ s).cell? ⟨a, 1, none⟩ = some v1 ∧
    ((((w.setCell ⟨N, 0, none⟩ p).setCell ⟨N, 1, none⟩ q).setCell ⟨N, 2, none⟩ r).setCell ⟨N, 3, none⟩ s).cell? ⟨a, 2, none⟩ = some v2 ∧ ((((w.setCell ⟨N, 0, none⟩ p).setCell ⟨N, 1, none⟩ q).setCell ⟨N, 2, none⟩ r).setCell ⟨N, 3, none⟩ s).cell? ⟨a, 3, none⟩ = some v3 ∧
    ((((w.setCell ⟨N, 0, none⟩ p).setCell ⟨N, 1, none⟩ q).setCell ⟨N, 2, none⟩ r).setCell ⟨N, 3, none⟩ s).cell? ⟨b1, 0, none⟩ = some v4 ∧ ((((w.setCell ⟨N, 0, none⟩ p).setCell ⟨N, 1, none⟩ q).setCell ⟨N, 2, none⟩ r).setCell ⟨N, 3, none⟩ s).cell? ⟨b1, 1, none⟩ = some v5 ∧
    ((((w.setCell ⟨N, 0, none⟩ p).setCell ⟨N, 1, none⟩ q).setCell ⟨N, 2, none⟩ r).setCell ⟨N, 3, none⟩ s).cell? ⟨b1, 2, none⟩ = some v6 ∧ ((((w.setCell ⟨N, 0, none⟩ p).setCell ⟨N, 1, none⟩ q).setCell ⟨N, 2, none⟩ r).setCell ⟨N, 3, none⟩ s).cell? ⟨b1, 3, none⟩ = some v7 ∧
    ((((w.setCell ⟨N, 0, none⟩ p).setCell ⟨N, 1, none⟩ q).setCell ⟨N, 2, none⟩ r).setCell ⟨N, 3, none⟩ s).cell? ⟨b2, 0, none⟩ = some v8 ∧ ((((w.setCell ⟨N, 0, none⟩ p).setCell ⟨N, 1, none⟩ q).setCell ⟨N, 2, none⟩ r).setCell ⟨N, 3, none⟩ s).cell? ⟨b3, 0, none⟩ = some v9 := by
  obtain ⟨c0, c1, c2, c3, c4, c5, c6, c7, c8, c9⟩ := h
  have f : ∀ x j, x ≠ N → ((((w.setCell ⟨N, 0, none⟩ p).setCell ⟨N, 1, none⟩ q).setCell ⟨N, 2, none⟩ r).setCell ⟨N, 3, none⟩ s).cell? ⟨x, j, none⟩ = w.cell? ⟨x, j, none⟩ := fun x j hx => World.cell?_of_block (a := ⟨x, j, none⟩) (s4_far hx p q r s)
  exact ⟨(f _ _ ha).trans c0, (f _ _ ha).trans c1, (f _ _ ha).trans c2, (f _ _ ha).trans c3, (f _ _ h1).trans c4, (f _ _ h1).trans c5, (f _ _ h1).trans c6, (f _ _ h1).trans c7, (f _ _ h2).trans c8, (f _ _ h3).trans c9⟩

end Go.Proofs.YtpkiheenkpcebaaGreatDoor
namespace Go.Proofs.YtpkiheenkpcebaaGreatDoor
open Go.RowKit Sx

end Go.Proofs.YtpkiheenkpcebaaGreatDoor
namespace Go.Proofs.YtpkiheenkpcebaaGreatDoor.Sx
/-- term number i -/
def nthF : Fo → Nat → Option Tm
  | .nil, _ => none
  | .cons k t kids o _, 0 => some ⟨k, t, kids, o⟩
  | .cons _ _ _ _ r, i + 1 => nthF r i
theorem nthF_app (pre : Fo) (k o : Int) (t : List UInt8) (kids r : Fo) : nthF (pre.app (.cons k t kids o r)) pre.len = some ⟨k, t, kids, o⟩ := by
  induction pre with
  | nil => rfl
  | cons _ _ _ _ r' _ ih => exact ih
theorem nthF_none (f : Fo) : ∀ i, nthF f i = none → f.len ≤ i := by
  induction f with
  | nil => intro i _; exact Nat.zero_le _
  | cons k t kids o r _ ih =>
    intro i h
    cases i with
    | zero => cases h
    | succ i => have := ih i h; simp only [Fo.len]; omega
theorem nthF_lt (f : Fo) : ∀ i x, nthF f i = some x → i < f.len := by
  induction f with
  | nil => intro i x h; cases h
  | cons k t kids o r _ ih =>
    intro i x h
    cases i with
    | zero => simp [Fo.len]
    | succ i => have := ih i x h; simp only [Fo.len]; omega
theorem nthF_size (f : Fo) : ∀ i x, nthF f i = some x → fsize x.kids ≤ fsize f := by
  induction f with
  | nil => intro i x h; cases h
  | cons k t kids o r _ ih =>
    intro i x h
    cases i with
    | zero => cases h; simp only [fsize]; omega
    | succ i => have := ih i x h; simp only [fsize]; omega
def Gs (x : Tm) (f : Int) : Option Tm := if f = 0 then some x else none
theorem Gs_size {x y : Tm} {f : Int} {n : Nat} (hx : fsize x.kids ≤ n) (h : Gs x f = some y) : fsize y.kids ≤ n := by
  unfold Gs at h
  split at h
  · cases h; exact hx
  · cases h
def shs (o : Int) : Int := o - 1
def Gi (L : Fo) (f : Int) : Option Tm := nthF L f.toNat
def shi (o : Int) : Int := o
end Go.Proofs.YtpkiheenkpcebaaGreatDoor.Sx
namespace Go.Proofs.YtpkiheenkpcebaaGreatDoor
open Go.RowKit Sx
theorem nthF_suf (f : Fo) : ∀ i x, nthF f i = some x → ∃ r, Suf i (.cons x.k x.t x.kids x.o r) f := by
  induction f with
  | nil => intro i x h; cases h
  | cons k t kids o r _ ih =>
    intro i x h
    cases i with
    | zero => cases h; exact ⟨r, .nil, rfl, rfl⟩
    | succ i =>
      obtain ⟨r', pre, e, hl⟩ := ih i x h
      exact ⟨r', .cons k t kids o pre, by rw [e]; rfl, by simp only [Fo.len, hl]⟩

/-- block p holds the term x -/
def JS (p : Nat) (x : Tm) (A : Option Addr) (c : Nat) (X : World) : Prop := X.heap[p]? = some (.cells #[.int .i64 x.k, .string ⟨x.t.toArray⟩, .int .i64 x.o, .slice A x.kids.len c] 34 (0, 0)) ∧ KT X x.kids A c
theorem JS.bh {p : Nat} {x : Tm} {A : Option Addr} {c : Nat} (X Y : World) (h : JS p x A c X) (hb : BH X Y) : JS p x A c Y := ⟨(Below.block hb _ (heap_lt h.1)).trans h.1, h.2.below hb⟩
/-- block p holds a slice that reads as the terms L -/
def JI (p : Nat) (L : Fo) (A : Option Addr) (c : Nat) (X : World) : Prop := X.heap[p]? = some (.cells #[.slice A L.len c] 32 (0, 0)) ∧ KT X L A c
theorem JI.bh {p : Nat} {L : Fo} {A : Option Addr} {c : Nat} (X Y : World) (h : JI p L A c X) (hb : BH X Y) : JI p L A c Y := ⟨(Below.block hb _ (heap_lt h.1)).trans h.1, h.2.below hb⟩

end Go.Proofs.YtpkiheenkpcebaaGreatDoor
