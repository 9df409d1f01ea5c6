/- telmake.Mod: a residue. No condition but that the modulus is small and positive. What the operations of spoil's append leave (draft's helper). No condition. -/
import Derived.Test.YtpkiheenkpcebaaGreatDoorMaa
import Derived.Test.YtpkiheenkpcebaaGreatDoorMbg
set_option linter.unusedVariables false
set_option linter.unusedSimpArgs false
namespace Go.Proofs.YtpkiheenkpcebaaGreatDoor
open Go.RowKit

/-- A drawn region is stood at: the walk goes no further. -/
theorem stop_region {P : Program} (id : Nat) {ops : Array Oper} {b : Bool} {Q : Exit → Act → World → Prop} {a : Act} {w : World} (h : Hid ((Code.region id ops b).wp P Q a w)) : (Code.region id ops b).wp P Q a w := h

theorem tmod_bounds (n m : Int) (hm : 0 < m) : -m < n.tmod m ∧ n.tmod m < m := by
  have h1 := Int.tmod_lt_of_pos n hm
  have h2 := Int.lt_tmod_of_pos n hm
  exact ⟨h2, h1⟩

def modI (n m : Int) : Int := if n.tmod m < 0 then n.tmod m + m else n.tmod m

theorem modI_bounds (n m : Int) (hm : 0 < m) : 0 ≤ modI n m ∧ modI n m < m := by
  obtain ⟨h1, h2⟩ := tmod_bounds n m hm
  unfold modI
  split <;> omega

theorem mod_any (n m : Int) (w : World) (hm : 0 < m) (hm2 : m ≤ 65536) :
    Calls Tryz.prog 22 #[.int .i64 n, .int .i64 m] w fun e w' => e = .returned (.int .i64 (modI n m)) ∧ w = w' := by
  obtain ⟨h1, h2⟩ := tmod_bounds n m hm
  have hne : ¬ m = 0 := by omega
  unfold modI
  generalize hk : n.tmod m = k at *
  by_cases h0 : k < 0
  · rw [if_pos h0]
    go_enter Tryz.func22, Tryz.ntmps22
    go_wp2
    go_ret
    exact ⟨rfl, rfl⟩
  · rw [if_neg h0]
    go_enter Tryz.func22, Tryz.ntmps22
    go_wp2
    go_ret
    exact ⟨rfl, rfl⟩
end Go.Proofs.YtpkiheenkpcebaaGreatDoor
namespace Go.Proofs.YtpkiheenkpcebaaGreatDoor
open Go.RowKit Sx

structure SqG where
  n : Nat
  r : Option Nat
def sqI (X : World) (m : SqG) (W : World) : Prop := BH X W ∧ m.n ≤ 2 ∧ ∀ g, m.r = some g → g < W.heap.size
def sqT (X : World) (m : SqG) (W : World) (m' : SqG) (W' : World) : Prop :=
  sqI X m' W' ∧ W.heap.size ≤ W'.heap.size ∧ m.n ≤ m'.n ∧ (∀ y, y < W.heap.size → m.r ≠ some y → W'.heap[y]? = W.heap[y]?) ∧ (m'.n = m.n → BH W W') ∧ (m'.r = m.r ∨ ∃ g, W.heap.size ≤ g ∧ m'.r = some g) ∧ (m.r ≠ none → m'.n = m.n → m'.r = m.r)
def sqZ (j : Nat) (m : SqG) : Prop := (j = 0 → m.r = none) ∧ (j = 3 → m.n = 0) ∧ (j = 8 → m.n ≤ 1)
def sqV (X : World) (N : Nat) (S : Nat → Prop) (nm : List UInt8) (k2 o2 : Int) (t2 : List UInt8) (kids2 : Fo) (A2 : Option Addr) (c2 : Nat) (fs : List (List UInt8 × Tm)) (L : Nat) (F : Option Addr) (x : Nat) (m : SqG) (j : Nat) (v : Value) (w : World) : Prop :=
  match j with
  | 0 => ∃ g, v = .slice (some ⟨g, 0, none⟩) 0 0 ∧ X.heap.size ≤ g ∧ m.r ≠ none ∧ (m.n = 0 → m.r = some g ∧ w.heap[g]? = some (.cells #[] 40 (0, 0)))
  | 1 => v = .pointer (some ⟨N, 7, none⟩)
  | 2 => v = .slice F L x
  | 3 => 1 ≤ m.n ∧ ∃ A c ys, v = .slice A L c ∧ m.r ≠ none ∧ (m.n = 1 → m.r = (Value.slice A L c).ownBlock ∧ w.ownsRow X.heap.size 40 5 (.slice A L c) L ys ∧ FX w (fun y => S y ∧ y < X.heap.size) fs ys)
  | 4 => v = .string ⟨nm.toArray⟩
  | 5 => v = .agg #[.int .i64 k2, .string ⟨t2.toArray⟩, .int .i64 o2, .slice A2 kids2.len c2]
  | 6 => v = .agg #[.string ⟨nm.toArray⟩, .int .i64 k2, .string ⟨t2.toArray⟩, .int .i64 o2, .slice A2 kids2.len c2]
  | 7 => ∃ g, v = .slice (some ⟨g, 0, none⟩) 1 1 ∧ m.r ≠ some g ∧ w.heap[g]? = some (.cells #[.string ⟨nm.toArray⟩, .int .i64 k2, .string ⟨t2.toArray⟩, .int .i64 o2, .slice A2 kids2.len c2] 40 (0, 0))
  | 8 => m.n = 2 ∧ ∃ A c ys, v = .slice A (L + 1) c ∧ w.ownsRow X.heap.size 40 5 (.slice A (L + 1) c) (L + 1) ys ∧ FX w (fun y => S y ∧ y < X.heap.size) (fs ++ [(nm, ⟨k2, t2, kids2, o2⟩)]) ys
  | _ => v = .pointer (some ⟨N, 7, none⟩)
theorem sqV_T {X : World} {N : Nat} {S : Nat → Prop} {nm : List UInt8} {k2 o2 : Int} {t2 : List UInt8} {kids2 : Fo} {A2 : Option Addr} {c2 : Nat} {fs : List (List UInt8 × Tm)} {L : Nat} {F : Option Addr} {x : Nat} (m m' : SqG) (j : Nat) (v : Value) (w w' : World) (h : sqV X N S nm k2 o2 t2 kids2 A2 c2 fs L F x m j v w) (hT : sqT X m w m' w') : sqV X N S nm k2 o2 t2 kids2 A2 c2 fs L F x m' j v w' := by
  obtain ⟨hI, hsz, hn, hkeep, hbh, hr, hrr⟩ := hT
  have hn2 := hI.2.1
  unfold sqV at *
  split at h
  · obtain ⟨g, e, h1, h2, h3⟩ := h
    refine ⟨g, e, h1, ?_, fun h0 => ?_⟩
    · rcases hr with hr | ⟨q, _, hr⟩
      · rw [hr]; exact h2
      · rw [hr]; simp
    · obtain ⟨h4, h5⟩ := h3 (by omega)
      exact ⟨(hrr h2 (by omega)).trans h4, (Below.block (hbh (by omega)) _ (heap_lt h5)).trans h5⟩
  · exact h
  · exact h
  · obtain ⟨h0, A, c, ys, e, h1, h2⟩ := h
    refine ⟨by omega, A, c, ys, e, ?_, fun h3 => ?_⟩
    · rcases hr with hr | ⟨q, _, hr⟩
      · rw [hr]; exact h1
      · rw [hr]; simp
    · obtain ⟨h4, h5, h6⟩ := h2 (by omega)
      have hb := hbh (by omega)
      exact ⟨(hrr h1 (by omega)).trans h4, own_bh h5 hb, FX.keep (Below.size hb) (fun y hy hl => ⟨Below.block hb y hl, hy⟩) _ _ h6⟩
  · exact h
  · exact h
  · exact h
  · obtain ⟨g, e, h1, h2⟩ := h
    have hl := heap_lt h2
    refine ⟨g, e, ?_, (hkeep g hl h1).trans h2⟩
    rcases hr with hr | ⟨q, hq, hr⟩
    · rw [hr]; exact h1
    · rw [hr]; intro e'; cases e'; omega
  · obtain ⟨h0, A, c, ys, e, h1, h2⟩ := h
    have hb := hbh (by omega)
    exact ⟨by omega, A, c, ys, e, own_bh h1 hb, FX.keep (Below.size hb) (fun y hy hl => ⟨Below.block hb y hl, hy⟩) _ _ h2⟩
  · exact h
def sqY (j : Nat) (m : SqG) : Prop := (j = 0 → m.r = none) ∧ (j = 3 → m.n = 0) ∧ (j = 6 → m.n ≤ 1)
def sqW (X : World) (N : Nat) (S : Nat → Prop) (fs : List (List UInt8 × Tm)) (L : Nat) (F : Option Addr) (x : Nat) (m : SqG) (j : Nat) (v : Value) (w : World) : Prop :=
  match j with
  | 0 => ∃ g, v = .slice (some ⟨g, 0, none⟩) 0 0 ∧ X.heap.size ≤ g ∧ m.r ≠ none ∧ (m.n = 0 → m.r = some g ∧ w.heap[g]? = some (.cells #[] 40 (0, 0)))
  | 1 => v = .pointer (some ⟨N, 7, none⟩)
  | 2 => v = .slice F L x
  | 3 => 1 ≤ m.n ∧ ∃ A c ys, v = .slice A L c ∧ m.r ≠ none ∧ (m.n = 1 → m.r = (Value.slice A L c).ownBlock ∧ w.ownsRow X.heap.size 40 5 (.slice A L c) L ys ∧ FX w (fun y => S y ∧ y < X.heap.size) fs ys)
  | 4 => v = .pointer (some ⟨N, 7, none⟩)
  | 5 => v = .slice F L x
  | 6 => m.n = 2 ∧ ∃ A c ys, v = .slice A (L + L) c ∧ w.ownsRow X.heap.size 40 5 (.slice A (L + L) c) (L + L) ys ∧ FX w (fun y => S y ∧ y < X.heap.size) (fs ++ fs) ys
  | _ => v = .pointer (some ⟨N, 7, none⟩)
theorem sqW_T {X : World} {N : Nat} {S : Nat → Prop} {fs : List (List UInt8 × Tm)} {L : Nat} {F : Option Addr} {x : Nat} (m m' : SqG) (j : Nat) (v : Value) (w w' : World) (h : sqW X N S fs L F x m j v w) (hT : sqT X m w m' w') : sqW X N S fs L F x m' j v w' := by
  obtain ⟨hI, hsz, hn, hkeep, hbh, hr, hrr⟩ := hT
  have hn2 := hI.2.1
  unfold sqW at *
  split at h
  · obtain ⟨g, e, h1, h2, h3⟩ := h
    refine ⟨g, e, h1, ?_, fun h0 => ?_⟩
    · rcases hr with hr | ⟨q, _, hr⟩
      · rw [hr]; exact h2
      · rw [hr]; simp
    · obtain ⟨h4, h5⟩ := h3 (by omega)
      exact ⟨(hrr h2 (by omega)).trans h4, (Below.block (hbh (by omega)) _ (heap_lt h5)).trans h5⟩
  · exact h
  · exact h
  · obtain ⟨h0, A, c, ys, e, h1, h2⟩ := h
    refine ⟨by omega, A, c, ys, e, ?_, fun h3 => ?_⟩
    · rcases hr with hr | ⟨q, _, hr⟩
      · rw [hr]; exact h1
      · rw [hr]; simp
    · obtain ⟨h4, h5, h6⟩ := h2 (by omega)
      have hb := hbh (by omega)
      exact ⟨(hrr h1 (by omega)).trans h4, own_bh h5 hb, FX.keep (Below.size hb) (fun y hy hl => ⟨Below.block hb y hl, hy⟩) _ _ h6⟩
  · exact h
  · exact h
  · obtain ⟨h0, A, c, ys, e, h1, h2⟩ := h
    have hb := hbh (by omega)
    exact ⟨by omega, A, c, ys, e, own_bh h1 hb, FX.keep (Below.size hb) (fun y hy hl => ⟨Below.block hb y hl, hy⟩) _ _ h2⟩
  · exact h
theorem sq_same {X W : World} {m : SqG} (h : sqI X m W) : sqT X m W m W := ⟨h, Nat.le_refl _, Nat.le_refl _, fun _ _ _ => rfl, fun _ => BH.refl _, .inl rfl, fun _ _ => rfl⟩
theorem sq_bh {X W W' : World} {m : SqG} (h : sqI X m W) (hb : BH W W') : sqT X m W m W' := ⟨⟨BH.trans h.1 hb, h.2.1, fun g e => Nat.lt_of_lt_of_le (h.2.2 g e) (Below.size hb)⟩, Below.size hb, Nat.le_refl _, fun y hy _ => Below.block hb y hy, fun _ => hb, .inl rfl, fun _ _ => rfl⟩
theorem rea5 {X : World} {g : Nat} {e : TypeId} {n : List UInt8} {x : Tm} {A : Option Addr} {c : Nat} (h : X.heap[g]? = some (.cells #[.string ⟨n.toArray⟩, .int .i64 x.k, .string ⟨x.t.toArray⟩, .int .i64 x.o, .slice A x.kids.len c] e (0, 0))) : Rea X 5 (some ⟨g, 0, none⟩) 1 (five n x A c) := by
  refine ⟨rfl, fun u hu => ?_, fun _ => ⟨g, 0, rfl, fun j u hu => ?_⟩⟩
  · simp only [five, List.mem_cons, List.not_mem_nil, or_false] at hu
    rcases hu with rfl | rfl | rfl | rfl | rfl <;> rfl
  · rw [Nat.zero_add, cell_of_row _ _ j _ _ _ h]
    simpa [five] using hu
/-- an append of an owned row, in short -/
theorem sq_push {X W w5 : World} {m : SqG} {v v' : Value} {L : Nat} {xs : List Value} (hI : sqI X m W) (hn : m.n < 2) (hr : m.r = v.ownBlock) (ho : W.ownsRow X.heap.size 40 5 v L xs) (hg : W.grownBy w5 v.ownBlock) (ha : v'.ownBlock = v.ownBlock ∨ v'.ownBlock = some W.heap.size) (hl : ∀ g, v'.ownBlock = some g → g < w5.heap.size) : sqT X m W ⟨m.n + 1, v'.ownBlock⟩ w5 := by
  refine ⟨⟨bh_own hI.1 hg (fun q hq => (ho.lt q hq).1), by show m.n + 1 ≤ 2; omega, hl⟩, hg.size, Nat.le_succ _, fun y hy hne => hg.block y hy (fun e => hne (hr.trans e.symm)), fun h => absurd h (by show ¬ m.n + 1 = m.n; omega), ?_, fun _ h => absurd h (by show ¬ m.n + 1 = m.n; omega)⟩
  rcases ha with h | h
  · exact .inl (h.trans hr.symm)
  · exact .inr ⟨_, Nat.le_refl _, h⟩
end Go.Proofs.YtpkiheenkpcebaaGreatDoor
