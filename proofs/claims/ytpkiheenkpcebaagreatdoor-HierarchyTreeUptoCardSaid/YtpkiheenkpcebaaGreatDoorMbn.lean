/- telmake.Base: the declarations that are always there. No condition. A package variable that is a slice of strings, read off the row's list. No condition. What the laws over terms have in common: integers that came in, a table of strings. No condition. -/
import Derived.Test.YtpkiheenkpcebaaGreatDoorMae
import Derived.Test.YtpkiheenkpcebaaGreatDoorMbd
import Derived.Test.YtpkiheenkpcebaaGreatDoorMaf
import Derived.Test.YtpkiheenkpcebaaGreatDoorMbj
import Derived.Lib.LaidPrint
set_option linter.unusedVariables false
set_option linter.unusedSimpArgs false
namespace Go.Proofs.YtpkiheenkpcebaaGreatDoor.Sx
def nBox : List UInt8 := [66, 111, 120]
def nCell : List UInt8 := [67, 101, 108, 108]
def nInt : List UInt8 := [73, 110, 116]
def nItem : List UInt8 := [105, 116, 101, 109]
def nIntBox : List UInt8 := [73, 110, 116, 66, 111, 120]
def nShape : List UInt8 := [83, 104, 97, 112, 101]
def nDot : List UInt8 := [68, 111, 116]
def nDisk : List UInt8 := [68, 105, 115, 107]
def nRadius : List UInt8 := [114, 97, 100, 105, 117, 115]
def nPair : List UInt8 := [80, 97, 105, 114]
def nFirst : List UInt8 := [102, 105, 114, 115, 116]
def nSecond : List UInt8 := [115, 101, 99, 111, 110, 100]
def nNest : List UInt8 := [78, 101, 115, 116]
def nInner : List UInt8 := [105, 110, 110, 101, 114]
def tAny : Tm := ⟨0, [], .nil, 0⟩
def tV (i : Int) : Tm := ⟨5, [], .nil, i⟩
def tN (n : List UInt8) (f : Fo) : Tm := ⟨2, n, f, 0⟩
def dBox : De := ⟨nBox, 1, tAny, false, []⟩
def dCell : De := ⟨nCell, 1, tN nBox (tV 0).fo, true, [(nItem, tV 0)]⟩
def dIntBox : De := ⟨nIntBox, 0, tN nBox (tN nInt .nil).fo, true, [(nItem, tN nInt .nil)]⟩
def dShape : De := ⟨nShape, 0, tAny, false, []⟩
def dDot : De := ⟨nDot, 0, tN nShape .nil, true, []⟩
def dDisk : De := ⟨nDisk, 0, tN nShape .nil, true, [(nRadius, tN nInt .nil)]⟩
def dPair : De := ⟨nPair, 2, tAny, true, [(nFirst, tV 0), (nSecond, tV 1)]⟩
def dNest : De := ⟨nNest, 1, tN nBox (tN nBox (tV 0).fo).fo, true, [(nInner, tN nBox (tV 0).fo)]⟩
def baseD : List De := [dBox, dCell, dIntBox, dShape, dDot, dDisk, dPair, dNest]
end Go.Proofs.YtpkiheenkpcebaaGreatDoor.Sx
namespace Go.Proofs.YtpkiheenkpcebaaGreatDoor
open Go.RowKit Sx

def baseV (i : Nat) (v : Value) (w : World) : Prop :=
  match i with
  | 0 => DeclV w v dBox
  | 1 => TmV w v (tV 0)
  | 2 => SlV w v (tV 0).fo
  | 3 => TmV w v (tN nBox (tV 0).fo)
  | 4 => TmV w v (tV 0)
  | 5 => FieldV w v nItem (tV 0)
  | 6 => ∃ A c, v = .slice A 1 c ∧ FldsV w A c [(nItem, tV 0)]
  | 7 => DeclV w v dCell
  | 8 => TmV w v (tN nInt .nil)
  | 9 => SlV w v (tN nInt .nil).fo
  | 10 => TmV w v (tN nBox (tN nInt .nil).fo)
  | 11 => TmV w v (tN nInt .nil)
  | 12 => FieldV w v nItem (tN nInt .nil)
  | 13 => ∃ A c, v = .slice A 1 c ∧ FldsV w A c [(nItem, tN nInt .nil)]
  | 14 => DeclV w v dIntBox
  | 15 => DeclV w v dShape
  | 16 => TmV w v (tN nShape .nil)
  | 17 => DeclV w v dDot
  | 18 => TmV w v (tN nShape .nil)
  | 19 => TmV w v (tN nInt .nil)
  | 20 => FieldV w v nRadius (tN nInt .nil)
  | 21 => ∃ A c, v = .slice A 1 c ∧ FldsV w A c [(nRadius, tN nInt .nil)]
  | 22 => DeclV w v dDisk
  | 23 => TmV w v (tV 0)
  | 24 => FieldV w v nFirst (tV 0)
  | 25 => TmV w v (tV 1)
  | 26 => FieldV w v nSecond (tV 1)
  | 27 => ∃ A c, v = .slice A 2 c ∧ FldsV w A c [(nFirst, tV 0), (nSecond, tV 1)]
  | 28 => DeclV w v dPair
  | 29 => TmV w v (tV 0)
  | 30 => SlV w v (tV 0).fo
  | 31 => TmV w v (tN nBox (tV 0).fo)
  | 32 => SlV w v (tN nBox (tV 0).fo).fo
  | 33 => TmV w v (tN nBox (tN nBox (tV 0).fo).fo)
  | 34 => TmV w v (tV 0)
  | 35 => SlV w v (tV 0).fo
  | 36 => TmV w v (tN nBox (tV 0).fo)
  | 37 => FieldV w v nInner (tN nBox (tV 0).fo)
  | 38 => ∃ A c, v = .slice A 1 c ∧ FldsV w A c [(nInner, tN nBox (tV 0).fo)]
  | 39 => DeclV w v dNest
  | _ => ∃ A c, v = .slice A 8 c ∧ DclsV w A c baseD

theorem cell_new (W : World) (cs : Array Value) (T : TypeId) (j : Nat) (u : Value) (h : cs[j]? = some u) : (W.alloc (.cells cs T)).cell? ⟨W.heap.size, j, none⟩ = some u := by
  rw [cell_of_row _ _ j _ _ _ (heap_alloc_new W (.cells cs T))]
  exact h
theorem sl_new {W : World} {x : Tm} {A : Option Addr} {c : Nat} {T : TypeId} (hk : KT W x.kids A c) : SlV (W.alloc (.cells #[.int .i64 x.k, .string ⟨x.t.toArray⟩, .int .i64 x.o, .slice A x.kids.len c] T)) (.slice (some ⟨W.heap.size, 0, none⟩) 1 1) x.fo := by
  have hb := bh_alloc (BH.refl W) (.cells #[.int .i64 x.k, .string ⟨x.t.toArray⟩, .int .i64 x.o, .slice A x.kids.len c] T)
  obtain ⟨hc, ys, q1, q2⟩ := hk.below hb
  refine ⟨some ⟨W.heap.size, 0, none⟩, 1, rfl, Nat.le_refl _, [.int .i64 x.k, .string ⟨x.t.toArray⟩, .int .i64 x.o, .slice A x.kids.len c], fun _ => ⟨W.heap.size, 0, rfl, trivial, by simp, fun j u hu => ?_⟩, A, c, ys, [], rfl, hc, q1, q2, rfl⟩
  rw [Nat.zero_add]
  exact cell_new _ _ _ _ _ (by simpa using hu)
theorem fl1_new {W : World} {n : List UInt8} {x : Tm} {A : Option Addr} {c : Nat} {T : TypeId} (hk : KT W x.kids A c) : FldsV (W.alloc (.cells #[.string ⟨n.toArray⟩, .int .i64 x.k, .string ⟨x.t.toArray⟩, .int .i64 x.o, .slice A x.kids.len c] T)) (some ⟨W.heap.size, 0, none⟩) 1 [(n, x)] := by
  have hb := bh_alloc (BH.refl W) (.cells #[.string ⟨n.toArray⟩, .int .i64 x.k, .string ⟨x.t.toArray⟩, .int .i64 x.o, .slice A x.kids.len c] T)
  refine ⟨Nat.le_refl _, fun _ => ⟨W.heap.size, 0, rfl, by simp, fun j m y hj => ?_⟩⟩
  cases j with
  | zero =>
    simp at hj
    obtain ⟨rfl, rfl⟩ := hj
    exact ⟨A, c, cell_new _ _ _ 0 _ rfl, cell_new _ _ _ 1 _ rfl, cell_new _ _ _ 2 _ rfl, cell_new _ _ _ 3 _ rfl, cell_new _ _ _ 4 _ rfl, hk.below hb⟩
  | succ j => simp at hj
theorem fl2_new {W : World} {n n' : List UInt8} {x y : Tm} {A A' : Option Addr} {c c' : Nat} {T : TypeId} (hk : KT W x.kids A c) (hk' : KT W y.kids A' c') :
    FldsV (W.alloc (.cells #[.string ⟨n.toArray⟩, .int .i64 x.k, .string ⟨x.t.toArray⟩, .int .i64 x.o, .slice A x.kids.len c, .string ⟨n'.toArray⟩, .int .i64 y.k, .string ⟨y.t.toArray⟩, .int .i64 y.o, .slice A' y.kids.len c'] T)) (some ⟨W.heap.size, 0, none⟩) 2 [(n, x), (n', y)] := by
  have hb := bh_alloc (BH.refl W) (.cells #[.string ⟨n.toArray⟩, .int .i64 x.k, .string ⟨x.t.toArray⟩, .int .i64 x.o, .slice A x.kids.len c, .string ⟨n'.toArray⟩, .int .i64 y.k, .string ⟨y.t.toArray⟩, .int .i64 y.o, .slice A' y.kids.len c'] T)
  refine ⟨Nat.le_refl _, fun _ => ⟨W.heap.size, 0, rfl, by simp, fun j m z hj => ?_⟩⟩
  match j, hj with
  | 0, hj =>
    simp at hj
    obtain ⟨rfl, rfl⟩ := hj
    exact ⟨A, c, cell_new _ _ _ 0 _ rfl, cell_new _ _ _ 1 _ rfl, cell_new _ _ _ 2 _ rfl, cell_new _ _ _ 3 _ rfl, cell_new _ _ _ 4 _ rfl, hk.below hb⟩
  | 1, hj =>
    simp at hj
    obtain ⟨rfl, rfl⟩ := hj
    exact ⟨A', c', cell_new _ _ _ 5 _ rfl, cell_new _ _ _ 6 _ rfl, cell_new _ _ _ 7 _ rfl, cell_new _ _ _ 8 _ rfl, cell_new _ _ _ 9 _ rfl, hk'.below hb⟩
  | j + 2, hj => simp at hj

theorem baseV_bh (i : Nat) (v : Value) (w w' : World) (h : baseV i v w) (hb : BH w w') : baseV i v w' := by
  unfold baseV at *
  split at h
  all_goals first
    | exact DeclV.bh hb h
    | exact TmV.bh hb h
    | exact SlV.bh hb h
    | exact FieldV.bh hb h
    | (obtain ⟨A, c, e, hf⟩ := h; exact ⟨A, c, e, FldsV.bh hb hf⟩)
    | (obtain ⟨A, c, e, hf⟩ := h; exact ⟨A, c, e, DclsV.bh hb hf⟩)

set_option maxRecDepth 100000 in
set_option maxHeartbeats 16000000 in
theorem base_any (w : World) : Calls Tryz.prog 43 #[] w fun e w' => ∃ A c, e = .returned (.slice A 8 c) ∧ DclsV w' A c baseD ∧ BH w w' := by
  go_enter Tryz.func43, Tryz.ntmps43
  go_wp2_with (fail)
  refine (varC _ _).mono ?_
  rintro e1 w1 ⟨rfl, h1⟩
  have HX := Lib.hid (heap_alloc_new w1 (.cells #[.int .i64 5, .string ⟨#[]⟩, .int .i64 0, .slice none 0 0] 34 (0, 0)))
  have HB := Lib.hid (bh_alloc h1 (.cells #[.int .i64 5, .string ⟨#[]⟩, .int .i64 0, .slice none 0 0] 34))
  clear h1
  go_upto_region 2 with (fail)
  refine wp_region_facts (by kernel_rfl) baseV baseV_bh (by kernel_rfl) ?_ ?_
  · refine ⟨?_, ?_, ?_, ?_, ?_, ?_, ?_, ?_, ?_, ?_, ?_, ?_, ?_, ?_, ?_, ?_, ?_, ?_, ?_, ?_, ?_, ?_, ?_, ?_, ?_, ?_, ?_, ?_, ?_, ?_, ?_, ?_, ?_, ?_, ?_, ?_, ?_, ?_, ?_, ?_, ?_, ?_, trivial⟩
    · intro a W hB hF hD
      go_simp
      exact ⟨_, rfl, ⟨none, 0, none, 0, rfl, KT.nil _ _ _, ⟨Nat.le_refl _, fun h => absurd h (by decide)⟩⟩, BH.refl _⟩
    · intro a W hB hF hD
      have h1 := same_of hF 1 (by kernel_rfl)
      obtain ⟨p0, p1, p2, p3, _⟩ := row4 ((Below.block hB _ (heap_lt HX.out)).trans HX.out)
      go_simp
      exact ⟨_, rfl, ⟨none, 0, rfl, KT.nil _ _ _⟩, BH.refl _⟩
    · intro a W hB hF hD
      obtain ⟨A, c, h, hk⟩ := (dep_of hD 1 4 (by kernel_rfl) rfl rfl : baseV 1 _ W)
      go_simp
      exact ⟨_, rfl, sl_new hk, bh_alloc (BH.refl _) _⟩
    · intro a W hB hF hD
      obtain ⟨A, c, h, hk⟩ := (dep_of hD 2 5 (by kernel_rfl) rfl rfl : baseV 2 _ W)
      go_simp
      refine (namedC _ _ _ _ _).mono ?_
      rintro e u ⟨rfl, hb⟩
      exact ⟨_, rfl, ⟨A, c, rfl, hk.below hb⟩, hb⟩
    · intro a W hB hF hD
      have h1 := same_of hF 1 (by kernel_rfl)
      obtain ⟨p0, p1, p2, p3, _⟩ := row4 ((Below.block hB _ (heap_lt HX.out)).trans HX.out)
      go_simp
      exact ⟨_, rfl, ⟨none, 0, rfl, KT.nil _ _ _⟩, BH.refl _⟩
    · intro a W hB hF hD
      obtain ⟨A, c, h, hk⟩ := (dep_of hD 4 7 (by kernel_rfl) rfl rfl : baseV 4 _ W)
      go_simp
      exact ⟨_, rfl, ⟨A, c, rfl, hk⟩, BH.refl _⟩
    · intro a W hB hF hD
      obtain ⟨A, c, h, hk⟩ := (dep_of hD 5 8 (by kernel_rfl) rfl rfl : baseV 5 _ W)
      go_simp
      exact ⟨_, rfl, ⟨_, _, rfl, fl1_new hk⟩, bh_alloc (BH.refl _) _⟩
    · intro a W hB hF hD
      obtain ⟨A, c, h, hk⟩ := (dep_of hD 3 6 (by kernel_rfl) rfl rfl : baseV 3 _ W)
      obtain ⟨A', c', h', hf⟩ := (dep_of hD 6 9 (by kernel_rfl) rfl rfl : baseV 6 _ W)
      go_simp
      exact ⟨_, rfl, ⟨A, c, A', c', rfl, hk, hf⟩, BH.refl _⟩
    · intro a W hB hF hD
      go_simp
      refine (namedC _ _ _ _ _).mono ?_
      rintro e u ⟨rfl, hb⟩
      exact ⟨_, rfl, ⟨none, 0, rfl, KT.nil _ _ _⟩, hb⟩
    · intro a W hB hF hD
      obtain ⟨A, c, h, hk⟩ := (dep_of hD 8 11 (by kernel_rfl) rfl rfl : baseV 8 _ W)
      go_simp
      exact ⟨_, rfl, sl_new hk, bh_alloc (BH.refl _) _⟩
    · intro a W hB hF hD
      obtain ⟨A, c, h, hk⟩ := (dep_of hD 9 12 (by kernel_rfl) rfl rfl : baseV 9 _ W)
      go_simp
      refine (namedC _ _ _ _ _).mono ?_
      rintro e u ⟨rfl, hb⟩
      exact ⟨_, rfl, ⟨A, c, rfl, hk.below hb⟩, hb⟩
    · intro a W hB hF hD
      go_simp
      refine (namedC _ _ _ _ _).mono ?_
      rintro e u ⟨rfl, hb⟩
      exact ⟨_, rfl, ⟨none, 0, rfl, KT.nil _ _ _⟩, hb⟩
    · intro a W hB hF hD
      obtain ⟨A, c, h, hk⟩ := (dep_of hD 11 14 (by kernel_rfl) rfl rfl : baseV 11 _ W)
      go_simp
      exact ⟨_, rfl, ⟨A, c, rfl, hk⟩, BH.refl _⟩
    · intro a W hB hF hD
      obtain ⟨A, c, h, hk⟩ := (dep_of hD 12 15 (by kernel_rfl) rfl rfl : baseV 12 _ W)
      go_simp
      exact ⟨_, rfl, ⟨_, _, rfl, fl1_new hk⟩, bh_alloc (BH.refl _) _⟩
    · intro a W hB hF hD
      obtain ⟨A, c, h, hk⟩ := (dep_of hD 10 13 (by kernel_rfl) rfl rfl : baseV 10 _ W)
      obtain ⟨A', c', h', hf⟩ := (dep_of hD 13 16 (by kernel_rfl) rfl rfl : baseV 13 _ W)
      go_simp
      exact ⟨_, rfl, ⟨A, c, A', c', rfl, hk, hf⟩, BH.refl _⟩
    · intro a W hB hF hD
      go_simp
      exact ⟨_, rfl, ⟨none, 0, none, 0, rfl, KT.nil _ _ _, ⟨Nat.le_refl _, fun h => absurd h (by decide)⟩⟩, BH.refl _⟩
    · intro a W hB hF hD
      go_simp
      refine (namedC _ _ _ _ _).mono ?_
      rintro e u ⟨rfl, hb⟩
      exact ⟨_, rfl, ⟨none, 0, rfl, KT.nil _ _ _⟩, hb⟩
    · intro a W hB hF hD
      obtain ⟨A, c, h, hk⟩ := (dep_of hD 16 19 (by kernel_rfl) rfl rfl : baseV 16 _ W)
      go_simp
      exact ⟨_, rfl, ⟨A, c, none, 0, rfl, hk, ⟨Nat.le_refl _, fun h => absurd h (by decide)⟩⟩, BH.refl _⟩
    · intro a W hB hF hD
      go_simp
      refine (namedC _ _ _ _ _).mono ?_
      rintro e u ⟨rfl, hb⟩
      exact ⟨_, rfl, ⟨none, 0, rfl, KT.nil _ _ _⟩, hb⟩
    · intro a W hB hF hD
      go_simp
      refine (namedC _ _ _ _ _).mono ?_
      rintro e u ⟨rfl, hb⟩
      exact ⟨_, rfl, ⟨none, 0, rfl, KT.nil _ _ _⟩, hb⟩
    · intro a W hB hF hD
      obtain ⟨A, c, h, hk⟩ := (dep_of hD 19 22 (by kernel_rfl) rfl rfl : baseV 19 _ W)
      go_simp
      exact ⟨_, rfl, ⟨A, c, rfl, hk⟩, BH.refl _⟩
    · intro a W hB hF hD
      obtain ⟨A, c, h, hk⟩ := (dep_of hD 20 23 (by kernel_rfl) rfl rfl : baseV 20 _ W)
      go_simp
      exact ⟨_, rfl, ⟨_, _, rfl, fl1_new hk⟩, bh_alloc (BH.refl _) _⟩
    · intro a W hB hF hD
      obtain ⟨A, c, h, hk⟩ := (dep_of hD 18 21 (by kernel_rfl) rfl rfl : baseV 18 _ W)
      obtain ⟨A', c', h', hf⟩ := (dep_of hD 21 24 (by kernel_rfl) rfl rfl : baseV 21 _ W)
      go_simp
      exact ⟨_, rfl, ⟨A, c, A', c', rfl, hk, hf⟩, BH.refl _⟩
    · intro a W hB hF hD
      have h1 := same_of hF 1 (by kernel_rfl)
      obtain ⟨p0, p1, p2, p3, _⟩ := row4 ((Below.block hB _ (heap_lt HX.out)).trans HX.out)
      go_simp
      exact ⟨_, rfl, ⟨none, 0, rfl, KT.nil _ _ _⟩, BH.refl _⟩
    · intro a W hB hF hD
      obtain ⟨A, c, h, hk⟩ := (dep_of hD 23 26 (by kernel_rfl) rfl rfl : baseV 23 _ W)
      go_simp
      exact ⟨_, rfl, ⟨A, c, rfl, hk⟩, BH.refl _⟩
    · intro a W hB hF hD
      go_simp
      refine (varC _ _).mono ?_
      rintro e u ⟨rfl, hb⟩
      exact ⟨_, rfl, ⟨none, 0, rfl, KT.nil _ _ _⟩, hb⟩
    · intro a W hB hF hD
      obtain ⟨A, c, h, hk⟩ := (dep_of hD 25 28 (by kernel_rfl) rfl rfl : baseV 25 _ W)
      go_simp
      exact ⟨_, rfl, ⟨A, c, rfl, hk⟩, BH.refl _⟩
    · intro a W hB hF hD
      obtain ⟨A, c, h, hk⟩ := (dep_of hD 24 27 (by kernel_rfl) rfl rfl : baseV 24 _ W)
      obtain ⟨A', c', h', hk'⟩ := (dep_of hD 26 29 (by kernel_rfl) rfl rfl : baseV 26 _ W)
      go_simp
      exact ⟨_, rfl, ⟨_, _, rfl, fl2_new hk hk'⟩, bh_alloc (BH.refl _) _⟩
    · intro a W hB hF hD
      obtain ⟨A', c', h', hf⟩ := (dep_of hD 27 30 (by kernel_rfl) rfl rfl : baseV 27 _ W)
      go_simp
      exact ⟨_, rfl, ⟨none, 0, A', c', rfl, KT.nil _ _ _, hf⟩, BH.refl _⟩
    · intro a W hB hF hD
      have h1 := same_of hF 1 (by kernel_rfl)
      obtain ⟨p0, p1, p2, p3, _⟩ := row4 ((Below.block hB _ (heap_lt HX.out)).trans HX.out)
      go_simp
      exact ⟨_, rfl, ⟨none, 0, rfl, KT.nil _ _ _⟩, BH.refl _⟩
    · intro a W hB hF hD
      obtain ⟨A, c, h, hk⟩ := (dep_of hD 29 32 (by kernel_rfl) rfl rfl : baseV 29 _ W)
      go_simp
      exact ⟨_, rfl, sl_new hk, bh_alloc (BH.refl _) _⟩
    · intro a W hB hF hD
      obtain ⟨A, c, h, hk⟩ := (dep_of hD 30 33 (by kernel_rfl) rfl rfl : baseV 30 _ W)
      go_simp
      refine (namedC _ _ _ _ _).mono ?_
      rintro e u ⟨rfl, hb⟩
      exact ⟨_, rfl, ⟨A, c, rfl, hk.below hb⟩, hb⟩
    · intro a W hB hF hD
      obtain ⟨A, c, h, hk⟩ := (dep_of hD 31 34 (by kernel_rfl) rfl rfl : baseV 31 _ W)
      go_simp
      exact ⟨_, rfl, sl_new hk, bh_alloc (BH.refl _) _⟩
    · intro a W hB hF hD
      obtain ⟨A, c, h, hk⟩ := (dep_of hD 32 35 (by kernel_rfl) rfl rfl : baseV 32 _ W)
      go_simp
      refine (namedC _ _ _ _ _).mono ?_
      rintro e u ⟨rfl, hb⟩
      exact ⟨_, rfl, ⟨A, c, rfl, hk.below hb⟩, hb⟩
    · intro a W hB hF hD
      have h1 := same_of hF 1 (by kernel_rfl)
      obtain ⟨p0, p1, p2, p3, _⟩ := row4 ((Below.block hB _ (heap_lt HX.out)).trans HX.out)
      go_simp
      exact ⟨_, rfl, ⟨none, 0, rfl, KT.nil _ _ _⟩, BH.refl _⟩
    · intro a W hB hF hD
      obtain ⟨A, c, h, hk⟩ := (dep_of hD 34 37 (by kernel_rfl) rfl rfl : baseV 34 _ W)
      go_simp
      exact ⟨_, rfl, sl_new hk, bh_alloc (BH.refl _) _⟩
    · intro a W hB hF hD
      obtain ⟨A, c, h, hk⟩ := (dep_of hD 35 38 (by kernel_rfl) rfl rfl : baseV 35 _ W)
      go_simp
      refine (namedC _ _ _ _ _).mono ?_
      rintro e u ⟨rfl, hb⟩
      exact ⟨_, rfl, ⟨A, c, rfl, hk.below hb⟩, hb⟩
    · intro a W hB hF hD
      obtain ⟨A, c, h, hk⟩ := (dep_of hD 36 39 (by kernel_rfl) rfl rfl : baseV 36 _ W)
      go_simp
      exact ⟨_, rfl, ⟨A, c, rfl, hk⟩, BH.refl _⟩
    · intro a W hB hF hD
      obtain ⟨A, c, h, hk⟩ := (dep_of hD 37 40 (by kernel_rfl) rfl rfl : baseV 37 _ W)
      go_simp
      exact ⟨_, rfl, ⟨_, _, rfl, fl1_new hk⟩, bh_alloc (BH.refl _) _⟩
    · intro a W hB hF hD
      obtain ⟨A, c, h, hk⟩ := (dep_of hD 33 36 (by kernel_rfl) rfl rfl : baseV 33 _ W)
      obtain ⟨A', c', h', hf⟩ := (dep_of hD 38 41 (by kernel_rfl) rfl rfl : baseV 38 _ W)
      go_simp
      exact ⟨_, rfl, ⟨A, c, A', c', rfl, hk, hf⟩, BH.refl _⟩
    · intro a W hB hF hD
      obtain ⟨A0, c0, B0, b0, h0, hk0, hf0⟩ := (dep_of hD 0 3 (by kernel_rfl) rfl rfl : baseV 0 _ W)
      obtain ⟨A1, c1, B1, b1, h1, hk1, hf1⟩ := (dep_of hD 7 10 (by kernel_rfl) rfl rfl : baseV 7 _ W)
      obtain ⟨A2, c2, B2, b2, h2, hk2, hf2⟩ := (dep_of hD 14 17 (by kernel_rfl) rfl rfl : baseV 14 _ W)
      obtain ⟨A3, c3, B3, b3, h3, hk3, hf3⟩ := (dep_of hD 15 18 (by kernel_rfl) rfl rfl : baseV 15 _ W)
      obtain ⟨A4, c4, B4, b4, h4, hk4, hf4⟩ := (dep_of hD 17 20 (by kernel_rfl) rfl rfl : baseV 17 _ W)
      obtain ⟨A5, c5, B5, b5, h5, hk5, hf5⟩ := (dep_of hD 22 25 (by kernel_rfl) rfl rfl : baseV 22 _ W)
      obtain ⟨A6, c6, B6, b6, h6, hk6, hf6⟩ := (dep_of hD 28 31 (by kernel_rfl) rfl rfl : baseV 28 _ W)
      obtain ⟨A7, c7, B7, b7, h7, hk7, hf7⟩ := (dep_of hD 39 42 (by kernel_rfl) rfl rfl : baseV 39 _ W)
      go_simp
      refine ⟨_, rfl, ⟨_, _, rfl, Nat.le_refl _, fun _ => ⟨W.heap.size, 0, rfl, by simp, fun j d hj => ?_⟩⟩, bh_alloc (BH.refl _) _⟩
      have hb := bh_alloc (BH.refl W) (Obj.cells #[.string ⟨dBox.name.toArray⟩, .int .i64 dBox.arity, .int .i64 dBox.super.k, .string ⟨dBox.super.t.toArray⟩, .int .i64 dBox.super.o, .slice A0 dBox.super.kids.len c0, .bool dBox.conc, .slice B0 dBox.fields.length b0, .string ⟨dCell.name.toArray⟩, .int .i64 dCell.arity, .int .i64 dCell.super.k, .string ⟨dCell.super.t.toArray⟩, .int .i64 dCell.super.o, .slice A1 dCell.super.kids.len c1, .bool dCell.conc, .slice B1 dCell.fields.length b1, .string ⟨dIntBox.name.toArray⟩, .int .i64 dIntBox.arity, .int .i64 dIntBox.super.k, .string ⟨dIntBox.super.t.toArray⟩, .int .i64 dIntBox.super.o, .slice A2 dIntBox.super.kids.len c2, .bool dIntBox.conc, .slice B2 dIntBox.fields.length b2, .string ⟨dShape.name.toArray⟩, .int .i64 dShape.arity, .int .i64 dShape.super.k, .string ⟨dShape.super.t.toArray⟩, .int .i64 dShape.super.o, .slice A3 dShape.super.kids.len c3, .bool dShape.conc, .slice B3 dShape.fields.length b3, .string ⟨dDot.name.toArray⟩, .int .i64 dDot.arity, .int .i64 dDot.super.k, .string ⟨dDot.super.t.toArray⟩, .int .i64 dDot.super.o, .slice A4 dDot.super.kids.len c4, .bool dDot.conc, .slice B4 dDot.fields.length b4, .string ⟨dDisk.name.toArray⟩, .int .i64 dDisk.arity, .int .i64 dDisk.super.k, .string ⟨dDisk.super.t.toArray⟩, .int .i64 dDisk.super.o, .slice A5 dDisk.super.kids.len c5, .bool dDisk.conc, .slice B5 dDisk.fields.length b5, .string ⟨dPair.name.toArray⟩, .int .i64 dPair.arity, .int .i64 dPair.super.k, .string ⟨dPair.super.t.toArray⟩, .int .i64 dPair.super.o, .slice A6 dPair.super.kids.len c6, .bool dPair.conc, .slice B6 dPair.fields.length b6, .string ⟨dNest.name.toArray⟩, .int .i64 dNest.arity, .int .i64 dNest.super.k, .string ⟨dNest.super.t.toArray⟩, .int .i64 dNest.super.o, .slice A7 dNest.super.kids.len c7, .bool dNest.conc, .slice B7 dNest.fields.length b7] 37)
      match j, hj with
      | 0, hj =>
        simp [baseD] at hj
        subst hj
        exact ⟨A0, c0, B0, b0, cell_new _ _ _ 0 _ rfl, cell_new _ _ _ 1 _ rfl, cell_new _ _ _ 2 _ rfl, cell_new _ _ _ 3 _ rfl, cell_new _ _ _ 4 _ rfl, cell_new _ _ _ 5 _ rfl, hk0.below hb, cell_new _ _ _ 6 _ rfl, cell_new _ _ _ 7 _ rfl, FldsV.bh hb hf0⟩
      | 1, hj =>
        simp [baseD] at hj
        subst hj
        exact ⟨A1, c1, B1, b1, cell_new _ _ _ 8 _ rfl, cell_new _ _ _ 9 _ rfl, cell_new _ _ _ 10 _ rfl, cell_new _ _ _ 11 _ rfl, cell_new _ _ _ 12 _ rfl, cell_new _ _ _ 13 _ rfl, hk1.below hb, cell_new _ _ _ 14 _ rfl, cell_new _ _ _ 15 _ rfl, FldsV.bh hb hf1⟩
      | 2, hj =>
        simp [baseD] at hj
        subst hj
        exact ⟨A2, c2, B2, b2, cell_new _ _ _ 16 _ rfl, cell_new _ _ _ 17 _ rfl, cell_new _ _ _ 18 _ rfl, cell_new _ _ _ 19 _ rfl, cell_new _ _ _ 20 _ rfl, cell_new _ _ _ 21 _ rfl, hk2.below hb, cell_new _ _ _ 22 _ rfl, cell_new _ _ _ 23 _ rfl, FldsV.bh hb hf2⟩
      | 3, hj =>
        simp [baseD] at hj
        subst hj
        exact ⟨A3, c3, B3, b3, cell_new _ _ _ 24 _ rfl, cell_new _ _ _ 25 _ rfl, cell_new _ _ _ 26 _ rfl, cell_new _ _ _ 27 _ rfl, cell_new _ _ _ 28 _ rfl, cell_new _ _ _ 29 _ rfl, hk3.below hb, cell_new _ _ _ 30 _ rfl, cell_new _ _ _ 31 _ rfl, FldsV.bh hb hf3⟩
      | 4, hj =>
        simp [baseD] at hj
        subst hj
        exact ⟨A4, c4, B4, b4, cell_new _ _ _ 32 _ rfl, cell_new _ _ _ 33 _ rfl, cell_new _ _ _ 34 _ rfl, cell_new _ _ _ 35 _ rfl, cell_new _ _ _ 36 _ rfl, cell_new _ _ _ 37 _ rfl, hk4.below hb, cell_new _ _ _ 38 _ rfl, cell_new _ _ _ 39 _ rfl, FldsV.bh hb hf4⟩
      | 5, hj =>
        simp [baseD] at hj
        subst hj
        exact ⟨A5, c5, B5, b5, cell_new _ _ _ 40 _ rfl, cell_new _ _ _ 41 _ rfl, cell_new _ _ _ 42 _ rfl, cell_new _ _ _ 43 _ rfl, cell_new _ _ _ 44 _ rfl, cell_new _ _ _ 45 _ rfl, hk5.below hb, cell_new _ _ _ 46 _ rfl, cell_new _ _ _ 47 _ rfl, FldsV.bh hb hf5⟩
      | 6, hj =>
        simp [baseD] at hj
        subst hj
        exact ⟨A6, c6, B6, b6, cell_new _ _ _ 48 _ rfl, cell_new _ _ _ 49 _ rfl, cell_new _ _ _ 50 _ rfl, cell_new _ _ _ 51 _ rfl, cell_new _ _ _ 52 _ rfl, cell_new _ _ _ 53 _ rfl, hk6.below hb, cell_new _ _ _ 54 _ rfl, cell_new _ _ _ 55 _ rfl, FldsV.bh hb hf6⟩
      | 7, hj =>
        simp [baseD] at hj
        subst hj
        exact ⟨A7, c7, B7, b7, cell_new _ _ _ 56 _ rfl, cell_new _ _ _ 57 _ rfl, cell_new _ _ _ 58 _ rfl, cell_new _ _ _ 59 _ rfl, cell_new _ _ _ 60 _ rfl, cell_new _ _ _ 61 _ rfl, hk7.below hb, cell_new _ _ _ 62 _ rfl, cell_new _ _ _ 63 _ rfl, FldsV.bh hb hf7⟩
      | j + 8, hj => simp [baseD] at hj
    · intro a W hB hF hD
      obtain ⟨A, c, h, hd⟩ := (dep_of hD 40 43 (by kernel_rfl) rfl rfl : baseV 40 _ W)
      go_simp
      exact ⟨_, rfl, ⟨A, c, rfl, hd⟩, BH.refl _⟩
  · intro a W hB hF hD
    obtain ⟨A, c, h, hd⟩ : baseV 41 (a.tmps.getD 0 undef) W := hD 41 _ 0 rfl rfl
    rw [Array.getD_eq_getD_getElem?] at h
    simp only [Exit.then]
    apply_assumption
    refine wp_ret (bodyPost_ret (v := .slice A 8 c) (by simp [results, Tryz.results43, go_sem, h]) (by rw [hF.defers]) ⟨A, c, rfl, hd, BH.trans HB.out hB⟩)
end Go.Proofs.YtpkiheenkpcebaaGreatDoor
namespace Go.Proofs.YtpkiheenkpcebaaGreatDoor
open Go.RowKit Go.Lib

def strsData (l : List (List UInt8)) : DataW Unit := .slice (l.map fun s => .lit (.string s)) []

theorem strTab_of_reads {P : Program} {w : World} {name : String} {g : Nat} {t e : TypeId} {l : List (List UInt8)} (hn : P.globalNamed name = some g) (hy : (P.globals[g]?).map (·.type) = some t)
    (ht : P.underlying t = some (.slice e)) (he : P.underlying e = some .string) (hc : P.cellsOf e = 1) (hl : 0 < l.length) (h : VarReads P w name (strsData l)) :
    ∃ R o c : Nat, w.cell? ⟨g, 0, none⟩ = some (.slice (some ⟨R, o, none⟩) l.length c) ∧ ∀ j, j < l.length → ∃ s, s ∈ l ∧ w.cell? ⟨R, o + j, none⟩ = some (.string ⟨s.toArray⟩) := by
  obtain ⟨g', t', cs, fuel, p, hg, hty, hvar, hd⟩ := h
  obtain rfl := Option.some.inj (hn.symm.trans hg)
  obtain rfl := Option.some.inj (hy.symm.trans hty)
  rcases DataW.trod_slice ht hd with ⟨_, hx⟩ | ⟨a, len, cap, el, rs, m, rfl, hcs, hx, _, hlc, _, hel, helem, hsp, _⟩
  · cases hx
  have e0 := congrArg Prod.fst hx
  simp only [strsData, DataW.slice.injEq] at e0
  obtain ⟨eE, eR⟩ := e0
  have hlen : len = l.length := by
    have := congrArg List.length eE
    simp at this
    omega
  have hcell : ∀ i, i < l.length → ∃ s, s ∈ l ∧ w.cell? (a.add i) = some (.string ⟨s.toArray⟩) := by
    intro i hi
    have h1 := helem i (by omega)
    rw [hc] at h1
    obtain ⟨b, hb⟩ : ∃ b, el[i]? = some b := ⟨el[i]'(by omega), List.getElem?_eq_getElem (by omega)⟩
    rw [hb] at h1
    obtain ⟨ce, hce, hte⟩ := Option.bind_eq_some_iff.1 h1
    obtain ⟨s, hs, hbz, _⟩ := DataW.trod_string he hte
    have hb1 : b.1 = .lit (.string l[i]) := by
      have := congrArg (·[i]?) eE
      simp [hb, hi] at this
      exact this.symm
    rw [hbz] at hb1
    simp only [DataW.lit.injEq, Lit.string.injEq] at hb1
    obtain ⟨_, _, hcc⟩ := World.cells?_some hce
    have := hcc 0 (by omega)
    rw [hs] at this
    simp only [Nat.mul_one] at this
    have e1 : (a.add i).add 0 = a.add i := by simp [Addr.add]
    rw [e1] at this
    refine ⟨l[i], List.getElem_mem hi, ?_⟩
    rw [this, ← hb1]
    rfl
  obtain ⟨R, o, sR⟩ := a
  obtain rfl : sR = none := by
    obtain ⟨s, _, h00⟩ := hcell 0 hl
    have : (Addr.add ⟨R, o, sR⟩ 0) = ⟨R, o, sR⟩ := by simp [Addr.add]
    rw [this] at h00
    exact Go.Proofs.cell_spot h00
  refine ⟨R, o, cap, ?_, fun j hj => ?_⟩
  · rw [World.var?_cell hg hvar 0, ← Array.getElem?_toList, hcs, hlen]
    rfl
  · obtain ⟨s, hs, this⟩ := hcell j hj
    exact ⟨s, hs, by rwa [Addr.add_lit] at this⟩
end Go.Proofs.YtpkiheenkpcebaaGreatDoor
namespace Go.Proofs.YtpkiheenkpcebaaGreatDoor.TL
open Go.RowKit Sx

/-- what is told of a slice of integers that came in -/
def IsRow (k : IntKind) (w : World) (a : Option Addr) (len cap : Nat) (zs : List Int) : Prop :=
  (a = none ∧ len = 0 ∧ cap = 0 ∧ zs = []) ∨
  ∃ x, a = some x ∧ len ≤ cap ∧ cap ≤ maxLen ∧ zs.length = cap ∧ (∀ i, i < zs.length → w.cell? (x.add i) = some (.int k (zs.getD i 0))) ∧ ∀ n ∈ zs, (Lit.int k n).wf = true

theorem lt_of_cell {w : World} {p : Addr} {v : Value} (h : w.cell? p = some v) : p.block < w.heap.size := by
  rcases Nat.lt_or_ge p.block w.heap.size with hh | hh
  · exact hh
  · unfold World.cell? at h
    rw [Array.getElem?_eq_none hh] at h
    split at h
    · rename_i heq; cases heq
    · cases h

theorem IsRow.ints {w : World} {a : Option Addr} {len cap : Nat} {zs : List Int} (h : IsRow .i64 w a len cap zs) : len ≤ maxLen ∧ Ints w a len zs := by
  rcases h with ⟨rfl, rfl, rfl, rfl⟩ | ⟨x, rfl, hl, hm, hz, hcell, hwz⟩
  · exact ⟨Nat.zero_le _, fun h => absurd h (by omega)⟩
  · refine ⟨by omega, fun hp => ?_⟩
    obtain ⟨b, off, spot⟩ := x
    have hc := hcell 0 (by omega)
    have hspot : spot = none := by simpa [Addr.add] using World.cell?_spot hc
    subst hspot
    have e : ∀ i, (⟨b, off, none⟩ : Addr).add i = ⟨b, off + i, none⟩ := by
      intro i
      unfold Addr.add
      split
      · rename_i h; rw [h]; rfl
      · rfl
    refine ⟨b, off, rfl, ?_, fun i hi => ?_⟩
    · have := lt_of_cell hc
      rwa [blk_add] at this
    · rw [← e]
      exact hcell i (by omega)

/-- a table, whatever the stream's block -/
structure TabW (w : World) (v n : Nat) (S : List (List UInt8)) (g o c : Nat) : Prop where
  head : w.cell? ⟨v, 0, none⟩ = some (.slice (some ⟨g, o, none⟩) n c)
  row : ∀ i : Nat, i < n → ∃ s : List UInt8, s ∈ S ∧ w.cell? ⟨g, o + i, none⟩ = some (.string ⟨s.toArray⟩)
  pos : 0 < n ∧ n ≤ 65536
theorem TabW.lt {w : World} {v n : Nat} {S : List (List UInt8)} {g o c : Nat} (h : TabW w v n S g o c) : v < w.heap.size ∧ g < w.heap.size := by
  obtain ⟨s, _, hc⟩ := h.row 0 h.pos.1
  exact ⟨lt_of_cell h.head, lt_of_cell hc⟩
theorem TabW.tab {w0 w : World} {b v n : Nat} {S : List (List UInt8)} {g o c : Nat} (h : TabW w0 v n S g o c) (hB : Below w0.heap.size w0 w) (hb : w0.heap.size ≤ b) : Tab w b v n S g o c := by
  obtain ⟨h1, h2⟩ := h.lt
  have hs := hB.size
  exact ⟨(World.cell?_of_block (hB.block v h1)).trans h.head, fun i hi => by
    obtain ⟨s, hs, hc⟩ := h.row i hi
    exact ⟨s, hs, (World.cell?_of_block (hB.block g h2)).trans hc⟩, by omega, by omega, by omega, by omega, h.pos⟩
end Go.Proofs.YtpkiheenkpcebaaGreatDoor.TL
