/- telmake.Base: its row as its own. No condition. telmake.Term, OpenTerm over a stream of New and the declarations of Base. No condition but the leaves' names. telmake.Decls. No condition but what it reads. Bounded sizes; the declarations that are always there; a slice of declarations as the generator reads it. No condition. -/
import Derived.Test.YtpkiheenkpcebaaGreatDoorQad
import Derived.Test.YtpkiheenkpcebaaGreatDoorQac
import Derived.Test.YtpkiheenkpcebaaGreatDoorMbn
import Derived.Test.YtpkiheenkpcebaaGreatDoorQae
import Derived.Test.YtpkiheenkpcebaaGreatDoorMbj
set_option linter.unusedVariables false
set_option linter.unusedSimpArgs false
namespace Go.Proofs.YtpkiheenkpcebaaGreatDoor
open Go.RowKit Sx

theorem fx_of {w : World} {g : Nat} : ∀ (fs : List (List UInt8 × Tm)) (off : Nat), (∀ j n x, fs[j]? = some (n, x) → FieldC w g (off + j * 5) n x) → ∃ ys : List Value, FX w (fun x => x < w.heap.size) fs ys ∧ ∀ j u, ys[j]? = some u → w.cell? ⟨g, off + j, none⟩ = some u := by
  intro fs
  induction fs with
  | nil => intro off _; exact ⟨[], rfl, fun j u h => by simp at h⟩
  | cons f fs ih =>
    intro off h
    obtain ⟨A, c, p0, p1, p2, p3, p4, hk⟩ := h 0 f.1 f.2 rfl
    obtain ⟨ys, h1, h2⟩ := ih (off + 5) (fun j n x hj => by have := h (j + 1) n x hj; rw [show off + 5 + j * 5 = off + (j + 1) * 5 by omega]; exact this)
    rw [Nat.zero_mul, Nat.add_zero] at p0 p1 p2 p3 p4
    refine ⟨five f.1 f.2 A c ++ ys, ⟨A, c, ys, rfl, KS.of hk, h1⟩, fun j u hu => ?_⟩
    match j, hu with
    | 0, hu => simp [five] at hu; subst hu; exact p0
    | 1, hu => simp [five] at hu; subst hu; exact p1
    | 2, hu => simp [five] at hu; subst hu; exact p2
    | 3, hu => simp [five] at hu; subst hu; exact p3
    | 4, hu => simp [five] at hu; subst hu; exact p4
    | j + 5, hu =>
      have hu' : ys[j]? = some u := by simpa [five] using hu
      have := h2 j u hu'
      rw [show off + (j + 5) = off + 5 + j by omega]
      exact this
theorem FldsV.fl {w : World} {A : Option Addr} {c : Nat} {fs : List (List UInt8 × Tm)} (h : FldsV w A c fs) : FlS w (fun x => x < w.heap.size) fs A c := by
  obtain ⟨h1, h2⟩ := h
  rcases Nat.eq_zero_or_pos fs.length with h0 | h0
  · obtain rfl : fs = [] := List.eq_nil_of_length_eq_zero h0
    exact ⟨h1, [], fun hp => absurd hp (by simp), rfl⟩
  · obtain ⟨g, off, rfl, hg, hrow⟩ := h2 h0
    obtain ⟨ys, h3, h4⟩ := fx_of fs off hrow
    exact ⟨h1, ys, fun _ => ⟨g, off, rfl, hg, hg, h4⟩, h3⟩

def bas2V (wz : World) (i : Nat) (v : Value) (w : World) : Prop :=
  match i with
  | 0 => DeclV w v dBox
  | 1 => TmV w v (tV 0)
  | 2 => SlV w v (tV 0).fo
  | 3 => TmV w v (tN nBox (tV 0).fo)
  | 4 => TmV w v (tV 0)
  | 5 => FieldV w v nItem (tV 0)
  | 6 => ∃ A c, v = .slice A 1 c ∧ FldsV w A c [(nItem, tV 0)]
  | 7 => DeclV w v dCell
  | 8 => TmV w v (tN nInt .nil)
  | 9 => SlV w v (tN nInt .nil).fo
  | 10 => TmV w v (tN nBox (tN nInt .nil).fo)
  | 11 => TmV w v (tN nInt .nil)
  | 12 => FieldV w v nItem (tN nInt .nil)
  | 13 => ∃ A c, v = .slice A 1 c ∧ FldsV w A c [(nItem, tN nInt .nil)]
  | 14 => DeclV w v dIntBox
  | 15 => DeclV w v dShape
  | 16 => TmV w v (tN nShape .nil)
  | 17 => DeclV w v dDot
  | 18 => TmV w v (tN nShape .nil)
  | 19 => TmV w v (tN nInt .nil)
  | 20 => FieldV w v nRadius (tN nInt .nil)
  | 21 => ∃ A c, v = .slice A 1 c ∧ FldsV w A c [(nRadius, tN nInt .nil)]
  | 22 => DeclV w v dDisk
  | 23 => TmV w v (tV 0)
  | 24 => FieldV w v nFirst (tV 0)
  | 25 => TmV w v (tV 1)
  | 26 => FieldV w v nSecond (tV 1)
  | 27 => ∃ A c, v = .slice A 2 c ∧ FldsV w A c [(nFirst, tV 0), (nSecond, tV 1)]
  | 28 => DeclV w v dPair
  | 29 => TmV w v (tV 0)
  | 30 => SlV w v (tV 0).fo
  | 31 => TmV w v (tN nBox (tV 0).fo)
  | 32 => SlV w v (tN nBox (tV 0).fo).fo
  | 33 => TmV w v (tN nBox (tN nBox (tV 0).fo).fo)
  | 34 => TmV w v (tV 0)
  | 35 => SlV w v (tV 0).fo
  | 36 => TmV w v (tN nBox (tV 0).fo)
  | 37 => FieldV w v nInner (tN nBox (tV 0).fo)
  | 38 => ∃ A c, v = .slice A 1 c ∧ FldsV w A c [(nInner, tN nBox (tV 0).fo)]
  | 39 => DeclV w v dNest
  | _ => ∃ (g : Nat) (xs : List Value), v = .slice (some ⟨g, 0, none⟩) 8 8 ∧ wz.heap.size ≤ g ∧ w.heap[g]? = some (.cells xs.toArray 37 (0, 0)) ∧ DX w (fun x => x < g) baseD xs

theorem bas2V_bh (wz : World) (i : Nat) (v : Value) (w w' : World) (h : bas2V wz i v w) (hb : BH w w') : bas2V wz i v w' := by
  unfold bas2V at *
  split at h
  all_goals first
    | exact DeclV.bh hb h
    | exact TmV.bh hb h
    | exact SlV.bh hb h
    | exact FieldV.bh hb h
    | (obtain ⟨A, c, e, hf⟩ := h; exact ⟨A, c, e, FldsV.bh hb hf⟩)
    | (obtain ⟨g, xs, e, h1, h2, h3⟩ := h; exact ⟨g, xs, e, h1, (Below.block hb g (heap_lt h2)).trans h2, h3.bh hb⟩)

set_option maxRecDepth 100000 in
set_option maxHeartbeats 16000000 in
theorem base_own (w : World) : Calls Tryz.prog 43 #[] w fun e w' => ∃ (g : Nat) (xs : List Value), e = .returned (.slice (some ⟨g, 0, none⟩) 8 8) ∧ w.heap.size ≤ g ∧ w'.heap[g]? = some (.cells xs.toArray 37 (0, 0)) ∧ DX w' (fun x => x < g) baseD xs ∧ BH w w' := by
  go_enter Tryz.func43, Tryz.ntmps43
  go_wp2_with (fail)
  refine (varC _ _).mono ?_
  rintro e1 w1 ⟨rfl, h1⟩
  have HX := Lib.hid (heap_alloc_new w1 (.cells #[.int .i64 5, .string ⟨#[]⟩, .int .i64 0, .slice none 0 0] 34 (0, 0)))
  have HB := Lib.hid (bh_alloc h1 (.cells #[.int .i64 5, .string ⟨#[]⟩, .int .i64 0, .slice none 0 0] 34))
  clear h1
  go_upto_region 2 with (fail)
  refine wp_region_facts (by kernel_rfl) (bas2V w) (bas2V_bh w) (by kernel_rfl) ?_ ?_
  · refine ⟨?_, ?_, ?_, ?_, ?_, ?_, ?_, ?_, ?_, ?_, ?_, ?_, ?_, ?_, ?_, ?_, ?_, ?_, ?_, ?_, ?_, ?_, ?_, ?_, ?_, ?_, ?_, ?_, ?_, ?_, ?_, ?_, ?_, ?_, ?_, ?_, ?_, ?_, ?_, ?_, ?_, ?_, trivial⟩
    · intro a W hB hF hD
      go_simp
      exact ⟨_, rfl, ⟨none, 0, none, 0, rfl, KT.nil _ _ _, ⟨Nat.le_refl _, fun h => absurd h (by decide)⟩⟩, BH.refl _⟩
    · intro a W hB hF hD
      have h1 := same_of hF 1 (by kernel_rfl)
      obtain ⟨p0, p1, p2, p3, _⟩ := row4 ((Below.block hB _ (heap_lt HX.out)).trans HX.out)
      go_simp
      exact ⟨_, rfl, ⟨none, 0, rfl, KT.nil _ _ _⟩, BH.refl _⟩
    · intro a W hB hF hD
      obtain ⟨A, c, h, hk⟩ := (dep_of hD 1 4 (by kernel_rfl) rfl rfl : bas2V w 1 _ W)
      go_simp
      exact ⟨_, rfl, sl_new hk, bh_alloc (BH.refl _) _⟩
    · intro a W hB hF hD
      obtain ⟨A, c, h, hk⟩ := (dep_of hD 2 5 (by kernel_rfl) rfl rfl : bas2V w 2 _ W)
      go_simp
      refine (namedC _ _ _ _ _).mono ?_
      rintro e u ⟨rfl, hb⟩
      exact ⟨_, rfl, ⟨A, c, rfl, hk.below hb⟩, hb⟩
    · intro a W hB hF hD
      have h1 := same_of hF 1 (by kernel_rfl)
      obtain ⟨p0, p1, p2, p3, _⟩ := row4 ((Below.block hB _ (heap_lt HX.out)).trans HX.out)
      go_simp
      exact ⟨_, rfl, ⟨none, 0, rfl, KT.nil _ _ _⟩, BH.refl _⟩
    · intro a W hB hF hD
      obtain ⟨A, c, h, hk⟩ := (dep_of hD 4 7 (by kernel_rfl) rfl rfl : bas2V w 4 _ W)
      go_simp
      exact ⟨_, rfl, ⟨A, c, rfl, hk⟩, BH.refl _⟩
    · intro a W hB hF hD
      obtain ⟨A, c, h, hk⟩ := (dep_of hD 5 8 (by kernel_rfl) rfl rfl : bas2V w 5 _ W)
      go_simp
      exact ⟨_, rfl, ⟨_, _, rfl, fl1_new hk⟩, bh_alloc (BH.refl _) _⟩
    · intro a W hB hF hD
      obtain ⟨A, c, h, hk⟩ := (dep_of hD 3 6 (by kernel_rfl) rfl rfl : bas2V w 3 _ W)
      obtain ⟨A', c', h', hf⟩ := (dep_of hD 6 9 (by kernel_rfl) rfl rfl : bas2V w 6 _ W)
      go_simp
      exact ⟨_, rfl, ⟨A, c, A', c', rfl, hk, hf⟩, BH.refl _⟩
    · intro a W hB hF hD
      go_simp
      refine (namedC _ _ _ _ _).mono ?_
      rintro e u ⟨rfl, hb⟩
      exact ⟨_, rfl, ⟨none, 0, rfl, KT.nil _ _ _⟩, hb⟩
    · intro a W hB hF hD
      obtain ⟨A, c, h, hk⟩ := (dep_of hD 8 11 (by kernel_rfl) rfl rfl : bas2V w 8 _ W)
      go_simp
      exact ⟨_, rfl, sl_new hk, bh_alloc (BH.refl _) _⟩
    · intro a W hB hF hD
      obtain ⟨A, c, h, hk⟩ := (dep_of hD 9 12 (by kernel_rfl) rfl rfl : bas2V w 9 _ W)
      go_simp
      refine (namedC _ _ _ _ _).mono ?_
      rintro e u ⟨rfl, hb⟩
      exact ⟨_, rfl, ⟨A, c, rfl, hk.below hb⟩, hb⟩
    · intro a W hB hF hD
      go_simp
      refine (namedC _ _ _ _ _).mono ?_
      rintro e u ⟨rfl, hb⟩
      exact ⟨_, rfl, ⟨none, 0, rfl, KT.nil _ _ _⟩, hb⟩
    · intro a W hB hF hD
      obtain ⟨A, c, h, hk⟩ := (dep_of hD 11 14 (by kernel_rfl) rfl rfl : bas2V w 11 _ W)
      go_simp
      exact ⟨_, rfl, ⟨A, c, rfl, hk⟩, BH.refl _⟩
    · intro a W hB hF hD
      obtain ⟨A, c, h, hk⟩ := (dep_of hD 12 15 (by kernel_rfl) rfl rfl : bas2V w 12 _ W)
      go_simp
      exact ⟨_, rfl, ⟨_, _, rfl, fl1_new hk⟩, bh_alloc (BH.refl _) _⟩
    · intro a W hB hF hD
      obtain ⟨A, c, h, hk⟩ := (dep_of hD 10 13 (by kernel_rfl) rfl rfl : bas2V w 10 _ W)
      obtain ⟨A', c', h', hf⟩ := (dep_of hD 13 16 (by kernel_rfl) rfl rfl : bas2V w 13 _ W)
      go_simp
      exact ⟨_, rfl, ⟨A, c, A', c', rfl, hk, hf⟩, BH.refl _⟩
    · intro a W hB hF hD
      go_simp
      exact ⟨_, rfl, ⟨none, 0, none, 0, rfl, KT.nil _ _ _, ⟨Nat.le_refl _, fun h => absurd h (by decide)⟩⟩, BH.refl _⟩
    · intro a W hB hF hD
      go_simp
      refine (namedC _ _ _ _ _).mono ?_
      rintro e u ⟨rfl, hb⟩
      exact ⟨_, rfl, ⟨none, 0, rfl, KT.nil _ _ _⟩, hb⟩
    · intro a W hB hF hD
      obtain ⟨A, c, h, hk⟩ := (dep_of hD 16 19 (by kernel_rfl) rfl rfl : bas2V w 16 _ W)
      go_simp
      exact ⟨_, rfl, ⟨A, c, none, 0, rfl, hk, ⟨Nat.le_refl _, fun h => absurd h (by decide)⟩⟩, BH.refl _⟩
    · intro a W hB hF hD
      go_simp
      refine (namedC _ _ _ _ _).mono ?_
      rintro e u ⟨rfl, hb⟩
      exact ⟨_, rfl, ⟨none, 0, rfl, KT.nil _ _ _⟩, hb⟩
    · intro a W hB hF hD
      go_simp
      refine (namedC _ _ _ _ _).mono ?_
      rintro e u ⟨rfl, hb⟩
      exact ⟨_, rfl, ⟨none, 0, rfl, KT.nil _ _ _⟩, hb⟩
    · intro a W hB hF hD
      obtain ⟨A, c, h, hk⟩ := (dep_of hD 19 22 (by kernel_rfl) rfl rfl : bas2V w 19 _ W)
      go_simp
      exact ⟨_, rfl, ⟨A, c, rfl, hk⟩, BH.refl _⟩
    · intro a W hB hF hD
      obtain ⟨A, c, h, hk⟩ := (dep_of hD 20 23 (by kernel_rfl) rfl rfl : bas2V w 20 _ W)
      go_simp
      exact ⟨_, rfl, ⟨_, _, rfl, fl1_new hk⟩, bh_alloc (BH.refl _) _⟩
    · intro a W hB hF hD
      obtain ⟨A, c, h, hk⟩ := (dep_of hD 18 21 (by kernel_rfl) rfl rfl : bas2V w 18 _ W)
      obtain ⟨A', c', h', hf⟩ := (dep_of hD 21 24 (by kernel_rfl) rfl rfl : bas2V w 21 _ W)
      go_simp
      exact ⟨_, rfl, ⟨A, c, A', c', rfl, hk, hf⟩, BH.refl _⟩
    · intro a W hB hF hD
      have h1 := same_of hF 1 (by kernel_rfl)
      obtain ⟨p0, p1, p2, p3, _⟩ := row4 ((Below.block hB _ (heap_lt HX.out)).trans HX.out)
      go_simp
      exact ⟨_, rfl, ⟨none, 0, rfl, KT.nil _ _ _⟩, BH.refl _⟩
    · intro a W hB hF hD
      obtain ⟨A, c, h, hk⟩ := (dep_of hD 23 26 (by kernel_rfl) rfl rfl : bas2V w 23 _ W)
      go_simp
      exact ⟨_, rfl, ⟨A, c, rfl, hk⟩, BH.refl _⟩
    · intro a W hB hF hD
      go_simp
      refine (varC _ _).mono ?_
      rintro e u ⟨rfl, hb⟩
      exact ⟨_, rfl, ⟨none, 0, rfl, KT.nil _ _ _⟩, hb⟩
    · intro a W hB hF hD
      obtain ⟨A, c, h, hk⟩ := (dep_of hD 25 28 (by kernel_rfl) rfl rfl : bas2V w 25 _ W)
      go_simp
      exact ⟨_, rfl, ⟨A, c, rfl, hk⟩, BH.refl _⟩
    · intro a W hB hF hD
      obtain ⟨A, c, h, hk⟩ := (dep_of hD 24 27 (by kernel_rfl) rfl rfl : bas2V w 24 _ W)
      obtain ⟨A', c', h', hk'⟩ := (dep_of hD 26 29 (by kernel_rfl) rfl rfl : bas2V w 26 _ W)
      go_simp
      exact ⟨_, rfl, ⟨_, _, rfl, fl2_new hk hk'⟩, bh_alloc (BH.refl _) _⟩
    · intro a W hB hF hD
      obtain ⟨A', c', h', hf⟩ := (dep_of hD 27 30 (by kernel_rfl) rfl rfl : bas2V w 27 _ W)
      go_simp
      exact ⟨_, rfl, ⟨none, 0, A', c', rfl, KT.nil _ _ _, hf⟩, BH.refl _⟩
    · intro a W hB hF hD
      have h1 := same_of hF 1 (by kernel_rfl)
      obtain ⟨p0, p1, p2, p3, _⟩ := row4 ((Below.block hB _ (heap_lt HX.out)).trans HX.out)
      go_simp
      exact ⟨_, rfl, ⟨none, 0, rfl, KT.nil _ _ _⟩, BH.refl _⟩
    · intro a W hB hF hD
      obtain ⟨A, c, h, hk⟩ := (dep_of hD 29 32 (by kernel_rfl) rfl rfl : bas2V w 29 _ W)
      go_simp
      exact ⟨_, rfl, sl_new hk, bh_alloc (BH.refl _) _⟩
    · intro a W hB hF hD
      obtain ⟨A, c, h, hk⟩ := (dep_of hD 30 33 (by kernel_rfl) rfl rfl : bas2V w 30 _ W)
      go_simp
      refine (namedC _ _ _ _ _).mono ?_
      rintro e u ⟨rfl, hb⟩
      exact ⟨_, rfl, ⟨A, c, rfl, hk.below hb⟩, hb⟩
    · intro a W hB hF hD
      obtain ⟨A, c, h, hk⟩ := (dep_of hD 31 34 (by kernel_rfl) rfl rfl : bas2V w 31 _ W)
      go_simp
      exact ⟨_, rfl, sl_new hk, bh_alloc (BH.refl _) _⟩
    · intro a W hB hF hD
      obtain ⟨A, c, h, hk⟩ := (dep_of hD 32 35 (by kernel_rfl) rfl rfl : bas2V w 32 _ W)
      go_simp
      refine (namedC _ _ _ _ _).mono ?_
      rintro e u ⟨rfl, hb⟩
      exact ⟨_, rfl, ⟨A, c, rfl, hk.below hb⟩, hb⟩
    · intro a W hB hF hD
      have h1 := same_of hF 1 (by kernel_rfl)
      obtain ⟨p0, p1, p2, p3, _⟩ := row4 ((Below.block hB _ (heap_lt HX.out)).trans HX.out)
      go_simp
      exact ⟨_, rfl, ⟨none, 0, rfl, KT.nil _ _ _⟩, BH.refl _⟩
    · intro a W hB hF hD
      obtain ⟨A, c, h, hk⟩ := (dep_of hD 34 37 (by kernel_rfl) rfl rfl : bas2V w 34 _ W)
      go_simp
      exact ⟨_, rfl, sl_new hk, bh_alloc (BH.refl _) _⟩
    · intro a W hB hF hD
      obtain ⟨A, c, h, hk⟩ := (dep_of hD 35 38 (by kernel_rfl) rfl rfl : bas2V w 35 _ W)
      go_simp
      refine (namedC _ _ _ _ _).mono ?_
      rintro e u ⟨rfl, hb⟩
      exact ⟨_, rfl, ⟨A, c, rfl, hk.below hb⟩, hb⟩
    · intro a W hB hF hD
      obtain ⟨A, c, h, hk⟩ := (dep_of hD 36 39 (by kernel_rfl) rfl rfl : bas2V w 36 _ W)
      go_simp
      exact ⟨_, rfl, ⟨A, c, rfl, hk⟩, BH.refl _⟩
    · intro a W hB hF hD
      obtain ⟨A, c, h, hk⟩ := (dep_of hD 37 40 (by kernel_rfl) rfl rfl : bas2V w 37 _ W)
      go_simp
      exact ⟨_, rfl, ⟨_, _, rfl, fl1_new hk⟩, bh_alloc (BH.refl _) _⟩
    · intro a W hB hF hD
      obtain ⟨A, c, h, hk⟩ := (dep_of hD 33 36 (by kernel_rfl) rfl rfl : bas2V w 33 _ W)
      obtain ⟨A', c', h', hf⟩ := (dep_of hD 38 41 (by kernel_rfl) rfl rfl : bas2V w 38 _ W)
      go_simp
      exact ⟨_, rfl, ⟨A, c, A', c', rfl, hk, hf⟩, BH.refl _⟩
    · intro a W hB hF hD
      obtain ⟨A0, c0, B0, b0, h0, hk0, hf0⟩ := (dep_of hD 0 3 (by kernel_rfl) rfl rfl : bas2V w 0 _ W)
      obtain ⟨A1, c1, B1, b1, h1, hk1, hf1⟩ := (dep_of hD 7 10 (by kernel_rfl) rfl rfl : bas2V w 7 _ W)
      obtain ⟨A2, c2, B2, b2, h2, hk2, hf2⟩ := (dep_of hD 14 17 (by kernel_rfl) rfl rfl : bas2V w 14 _ W)
      obtain ⟨A3, c3, B3, b3, h3, hk3, hf3⟩ := (dep_of hD 15 18 (by kernel_rfl) rfl rfl : bas2V w 15 _ W)
      obtain ⟨A4, c4, B4, b4, h4, hk4, hf4⟩ := (dep_of hD 17 20 (by kernel_rfl) rfl rfl : bas2V w 17 _ W)
      obtain ⟨A5, c5, B5, b5, h5, hk5, hf5⟩ := (dep_of hD 22 25 (by kernel_rfl) rfl rfl : bas2V w 22 _ W)
      obtain ⟨A6, c6, B6, b6, h6, hk6, hf6⟩ := (dep_of hD 28 31 (by kernel_rfl) rfl rfl : bas2V w 28 _ W)
      obtain ⟨A7, c7, B7, b7, h7, hk7, hf7⟩ := (dep_of hD 39 42 (by kernel_rfl) rfl rfl : bas2V w 39 _ W)
      go_simp
      refine ⟨_, rfl, ⟨W.heap.size, (eight dBox A0 c0 B0 b0 ++ (eight dCell A1 c1 B1 b1 ++ (eight dIntBox A2 c2 B2 b2 ++ (eight dShape A3 c3 B3 b3 ++ (eight dDot A4 c4 B4 b4 ++ (eight dDisk A5 c5 B5 b5 ++ (eight dPair A6 c6 B6 b6 ++ (eight dNest A7 c7 B7 b7 ++ ([] : List Value))))))))), rfl, Nat.le_trans (Below.size HB.out) (Below.size hB), heap_alloc_new W _, ?_⟩, bh_alloc (BH.refl _) _⟩
      have hbb := bh_alloc (BH.refl W) (Obj.cells ((eight dBox A0 c0 B0 b0 ++ (eight dCell A1 c1 B1 b1 ++ (eight dIntBox A2 c2 B2 b2 ++ (eight dShape A3 c3 B3 b3 ++ (eight dDot A4 c4 B4 b4 ++ (eight dDisk A5 c5 B5 b5 ++ (eight dPair A6 c6 B6 b6 ++ (eight dNest A7 c7 B7 b7 ++ ([] : List Value))))))))) : List Value).toArray 37)
      exact ⟨A0, c0, B0, b0, _, rfl, (KS.of hk0).bh hbb, (FldsV.fl hf0).bh hbb, ⟨A1, c1, B1, b1, _, rfl, (KS.of hk1).bh hbb, (FldsV.fl hf1).bh hbb, ⟨A2, c2, B2, b2, _, rfl, (KS.of hk2).bh hbb, (FldsV.fl hf2).bh hbb, ⟨A3, c3, B3, b3, _, rfl, (KS.of hk3).bh hbb, (FldsV.fl hf3).bh hbb, ⟨A4, c4, B4, b4, _, rfl, (KS.of hk4).bh hbb, (FldsV.fl hf4).bh hbb, ⟨A5, c5, B5, b5, _, rfl, (KS.of hk5).bh hbb, (FldsV.fl hf5).bh hbb, ⟨A6, c6, B6, b6, _, rfl, (KS.of hk6).bh hbb, (FldsV.fl hf6).bh hbb, ⟨A7, c7, B7, b7, _, rfl, (KS.of hk7).bh hbb, (FldsV.fl hf7).bh hbb, rfl⟩⟩⟩⟩⟩⟩⟩⟩
    · intro a W hB hF hD
      obtain ⟨g, xs, h, hd⟩ := (dep_of hD 40 43 (by kernel_rfl) rfl rfl : bas2V w 40 _ W)
      have HD := Lib.hid hd
      clear hd
      go_simp
      exact ⟨_, rfl, ⟨g, xs, rfl, HD.out⟩, BH.refl _⟩
  · intro a W hB hF hD
    obtain ⟨g, xs, h, hd1, hd2, hd3⟩ : bas2V w 41 (a.tmps.getD 0 undef) W := hD 41 _ 0 rfl rfl
    rw [Array.getD_eq_getD_getElem?] at h
    simp only [Exit.then]
    apply_assumption
    refine wp_ret (bodyPost_ret (v := .slice (some ⟨g, 0, none⟩) 8 8) (by simp [results, Tryz.results43, go_sem, h]) (by rw [hF.defers]) ⟨g, xs, rfl, hd1, hd2, hd3, BH.trans HB.out hB⟩)
end Go.Proofs.YtpkiheenkpcebaaGreatDoor
namespace Go.Proofs.YtpkiheenkpcebaaGreatDoor
open Go.RowKit Sx

theorem gen_all (E : EG) : ∀ M, CA E M ∧ CNm E M ∧ CT E M := by
  intro M
  induction M with
  | zero => exact ⟨fun k d V w _ h => absurd h (Nat.not_lt_zero _), fun k d V w _ h => absurd h (Nat.not_lt_zero _), fun k d V w _ h => absurd h (Nat.not_lt_zero _)⟩
  | succ M ih =>
    have h1 := named_step E M ih.1
    exact ⟨arg_step E M h1 ih.2.2, h1, term_step E M h1 ih.2.2⟩
theorem term_any (E : EG) (k : Nat) (d V : Int) (w : World) (hG : GenD w E k) (hV0 : 0 ≤ V) (hV1 : V ≤ 1000) (hd0 : 0 ≤ d) (hd1 : d ≤ 1000) : Calls Tryz.prog 59 (AD E d V) w (GP E (zT d) V k w) :=
  (gen_all E (E.len - k + 1)).2.2 k d V w hG (by omega) hV0 (by omega) (by omega) hd0 hd1

set_option maxHeartbeats 1000000 in
theorem termC (E : EG) (k : Nat) (w : World) (hG : GenD w E k) : Calls Tryz.prog 44 #[.pointer (some ⟨E.b, 0, none⟩), .slice (some ⟨E.gd, E.od, none⟩) E.nd E.cd] w (GP E (zT 3) 0 k w) := by
  have hX := bh_alloc (BH.refl w) (.cells #[.int .i64 0, .string ⟨#[]⟩, .int .i64 0, .slice none 0 0] 34)
  have HG0 := Lib.hid hG
  have HG1 := Lib.hid (hG.below hX)
  have HN := Lib.hid (heap_alloc_new w (.cells #[.int .i64 0, .string ⟨#[]⟩, .int .i64 0, .slice none 0 0] 34))
  have HX := Lib.hid hX
  clear hG hX
  go_enter Tryz.func44, Tryz.ntmps44
  go_wp2_with (fail)
  refine (term_any E k 3 0 _ HG1.out (by decide) (by decide) (by decide) (by decide)).mono ?_
  rintro e2 w2 hgp
  obtain ⟨q, o, t, kids, A, c, rfl, hN2, hres⟩ := hgp.pass (Z := zT 3) (k := k) HG0.out (gb_below HX.out (some E.b)) (by simp) (Int.le_refl 0) (Nat.le_refl k) HN.out (fun _ h => h)
  have HN2 := Lib.hid hN2
  have HRes := Lib.hid hres
  clear hgp hN2 hres
  obtain ⟨b0, b1, b2, b3, y0, y1, y2, y3⟩ := row4 HN2.out
  go_wp2_with (fail)
  obtain ⟨m0, m1, m2, m3, _⟩ := row4 (s4 HN2.out (.int .i64 q) (.string ⟨t.toArray⟩) (.int .i64 o) (.slice A kids.len c))
  exact bodyPost_ret (v := .agg #[.int .i64 q, .string ⟨t.toArray⟩, .int .i64 o, .slice A kids.len c]) (by simp [results, Tryz.results44, go_sem, m0, m1, m2, m3]) rfl HRes.out

set_option maxHeartbeats 1000000 in
theorem openTermC (E : EG) (k : Nat) (V : Int) (w : World) (hG : GenD w E k) (hV0 : 0 ≤ V) (hV1 : V ≤ 1000) : Calls Tryz.prog 23 #[.pointer (some ⟨E.b, 0, none⟩), .slice (some ⟨E.gd, E.od, none⟩) E.nd E.cd, .int .i64 V] w (GP E (zT 3) V k w) := by
  have hX := bh_alloc (BH.refl w) (.cells #[.int .i64 0, .string ⟨#[]⟩, .int .i64 0, .slice none 0 0] 34)
  have HG0 := Lib.hid hG
  have HG1 := Lib.hid (hG.below hX)
  have HN := Lib.hid (heap_alloc_new w (.cells #[.int .i64 0, .string ⟨#[]⟩, .int .i64 0, .slice none 0 0] 34))
  have HX := Lib.hid hX
  clear hG hX
  go_enter Tryz.func23, Tryz.ntmps23
  go_wp2_with (fail)
  refine (term_any E k 3 V _ HG1.out hV0 hV1 (by decide) (by decide)).mono ?_
  rintro e2 w2 hgp
  obtain ⟨q, o, t, kids, A, c, rfl, hN2, hres⟩ := hgp.pass (Z := zT 3) (k := k) HG0.out (gb_below HX.out (some E.b)) (by simp) (Int.le_refl V) (Nat.le_refl k) HN.out (fun _ h => h)
  have HN2 := Lib.hid hN2
  have HRes := Lib.hid hres
  clear hgp hN2 hres
  obtain ⟨b0, b1, b2, b3, y0, y1, y2, y3⟩ := row4 HN2.out
  go_wp2_with (fail)
  obtain ⟨m0, m1, m2, m3, _⟩ := row4 (s4 HN2.out (.int .i64 q) (.string ⟨t.toArray⟩) (.int .i64 o) (.slice A kids.len c))
  exact bodyPost_ret (v := .agg #[.int .i64 q, .string ⟨t.toArray⟩, .int .i64 o, .slice A kids.len c]) (by simp [results, Tryz.results23, go_sem, m0, m1, m2, m3]) rfl HRes.out

def baseN : List (List UInt8 × Nat) := baseD.map fun d => (d.name, d.arity.toNat)
theorem baseD_ok : ∀ d ∈ baseD, 0 ≤ d.arity ∧ d.arity ≤ 3 ∧ d.name.length ≤ 1000 := by
  intro d hd
  simp only [baseD, List.mem_cons, List.not_mem_nil, or_false] at hd
  rcases hd with rfl | rfl | rfl | rfl | rfl | rfl | rfl | rfl <;> exact ⟨by decide, by decide, by decide⟩

theorem genD_of {w : World} {b len cap k g o c cd : Nat} {a A : Option Addr} {zs : List Int} {W : List (List UInt8)} (hst : Strm w b a len cap zs k) (hT : Tab w b 1 4 W g o c) (hs : ∀ s ∈ W, s.length ≤ 1000) (hD : DclsV w A cd baseD) :
    ∃ gd od, A = some ⟨gd, od, none⟩ ∧ GenD w ⟨b, a, len, cap, zs, W, g, o, c, gd, od, 8, cd, baseN⟩ k := by
  obtain ⟨h1, h2⟩ := hD
  obtain ⟨gd, od, rfl, hlt, hrow⟩ := h2 (by decide)
  refine ⟨gd, od, rfl, hst, hT, ⟨?_, hlt, rfl, (by decide : (8 : Nat) ≤ 1000), ?_⟩, hs⟩
  · intro e
    have e' : gd = b := e
    subst e'
    obtain ⟨_, _, _, _, hc0, _⟩ := hrow 0 dBox rfl
    rw [Nat.zero_mul, Nat.add_zero, cell_of_row _ _ od _ _ _ hst.1] at hc0
    rcases od with _ | _ | od <;> simp at hc0
  · intro j n ar hj
    have hj' : baseN[j]? = some (n, ar) := hj
    rw [baseN, List.getElem?_map, Option.map_eq_some_iff] at hj'
    obtain ⟨d, hd, he⟩ := hj'
    obtain ⟨rfl, rfl⟩ := Prod.mk.inj he
    obtain ⟨A, c, A', c', p0, p1, p2, p3, p4, p5, _, p6, p7, _⟩ := hrow j d hd
    obtain ⟨o1, o2, o3⟩ := baseD_ok d (List.mem_of_getElem? hd)
    exact ⟨⟨d.super.k, d.super.t, d.super.o, A, d.super.kids.len, c, d.conc, A', d.fields.length, c', p0, by rw [Int.toNat_of_nonneg o1]; exact p1, p2, p3, p4, p5, p6, p7⟩, by omega, o3⟩

theorem strm_new {w0 w : World} {a : Option Addr} {len cap : Nat} {zs : List Int} (hB : Below w0.heap.size w0 w) (hl : len ≤ maxLen) (hI : Ints w0 a len zs) :
    Strm (w.alloc (.cells #[.slice a len cap, .int .i64 0] 98)) w.heap.size a len cap zs 0 := by
  have hs := hB.size
  have hB' := hB.alloc hs (.cells #[.slice a len cap, .int .i64 0] 98)
  refine ⟨heap_alloc_new w _, ?_, ?_, Nat.zero_le _, hl⟩
  · exact hI.keep hB'.size fun g off _ hl => hB'.block g hl
  · intro hp g off e
    obtain ⟨g', off', e', hlt, _⟩ := hI hp
    have e2 : some (⟨g, off, none⟩ : Addr) = some ⟨g', off', none⟩ := e.symm.trans e'
    cases e2
    show g ≠ w.heap.size
    omega

/-- behind New and Base -/
theorem genD_new {w0 w w2 : World} {a A : Option Addr} {len cap g o c cd : Nat} {zs : List Int} {W : List (List UInt8)} (hB : Below w0.heap.size w0 w) (hl : len ≤ maxLen) (hI : Ints w0 a len zs) (tW : TL.TabW w0 1 4 W g o c) (hs : ∀ s ∈ W, s.length ≤ 1000)
    (hb : BH (w.alloc (.cells #[.slice a len cap, .int .i64 0] 98)) w2) (hD : DclsV w2 A cd baseD) :
    ∃ gd od, A = some ⟨gd, od, none⟩ ∧ GenD w2 ⟨w.heap.size, a, len, cap, zs, W, g, o, c, gd, od, 8, cd, baseN⟩ 0 := by
  have hB' := hB.alloc hB.size (.cells #[.slice a len cap, .int .i64 0] 98)
  exact genD_of ((strm_new hB hl hI).keep hb) (tW.tab (hB'.trans (hb.mono hB'.size)) hB.size) hs hD
end Go.Proofs.YtpkiheenkpcebaaGreatDoor
namespace Go.Proofs.YtpkiheenkpcebaaGreatDoor
open Go.RowKit Sx

section
variable {w : World} {S : Nat → Prop} {b : Nat} {x y : Value} {T : TypeId} {z : Nat × Nat}
/-- rows of three or more cells do not lie in a block of two -/
theorem reads_two {A : Option Addr} {n m : Nat} {ys : List Value} (hb : w.heap[b]? = some (.cells #[x, y] T z)) (h : readsAt w S A n ys) (hl : ys.length = n * m) (hm : 3 ≤ m) : readsAt w (fun v => S v ∧ v ≠ b) A n ys := by
  intro hp
  obtain ⟨g, off, e, hS, hg, hc⟩ := h hp
  refine ⟨g, off, e, ⟨hS, ?_⟩, hg, hc⟩
  rintro rfl
  have h2 : 2 < ys.length := by
    rw [hl]
    have := Nat.mul_le_mul hp hm
    omega
  have h3 := hc 2 _ (List.getElem?_eq_getElem h2)
  rw [cell_of_row _ _ (off + 2) _ _ _ hb, Array.getElem?_eq_none (by simp)] at h3
  cases h3
theorem rowT_two (hb : w.heap[b]? = some (.cells #[x, y] T z)) : ∀ (f : Fo) (xs : List Value), rowT w S f xs → rowT w (fun v => S v ∧ v ≠ b) f xs := by
  intro f
  induction f with
  | nil => intro xs h; exact h
  | cons k t kids o r ih1 ih2 =>
    rintro xs ⟨A, c, zs, us, rfl, h1, h2, h3, h4⟩
    exact ⟨A, c, zs, us, rfl, h1, reads_two hb h2 (rowT.len _ _ h3) (by decide), ih1 _ h3, ih2 _ h4⟩
theorem KS.two {f : Fo} {A : Option Addr} {c : Nat} (h : KS w S f A c) (hb : w.heap[b]? = some (.cells #[x, y] T z)) : KS w (fun v => S v ∧ v ≠ b) f A c := by
  obtain ⟨hc, ys, h1, h2⟩ := h
  exact ⟨hc, ys, reads_two hb h1 (rowT.len _ _ h2) (by decide), rowT_two hb _ _ h2⟩
theorem FX.two (hb : w.heap[b]? = some (.cells #[x, y] T z)) : ∀ (fs : List (List UInt8 × Tm)) (xs : List Value), FX w S fs xs → FX w (fun v => S v ∧ v ≠ b) fs xs := by
  intro fs
  induction fs with
  | nil => intro xs h; exact h
  | cons f fs ih =>
    rintro xs ⟨A, c, zs, e, h1, h2⟩
    exact ⟨A, c, zs, e, h1.two hb, ih zs h2⟩
theorem FlS.two {fs : List (List UInt8 × Tm)} {A : Option Addr} {c : Nat} (h : FlS w S fs A c) (hb : w.heap[b]? = some (.cells #[x, y] T z)) : FlS w (fun v => S v ∧ v ≠ b) fs A c := by
  obtain ⟨hc, ys, h1, h2⟩ := h
  exact ⟨hc, ys, reads_two hb h1 (FX.len _ _ h2) (by decide), FX.two hb _ _ h2⟩
theorem DX.two (hb : w.heap[b]? = some (.cells #[x, y] T z)) : ∀ (ds : List De) (xs : List Value), DX w S ds xs → DX w (fun v => S v ∧ v ≠ b) ds xs := by
  intro ds
  induction ds with
  | nil => intro xs h; exact h
  | cons d ds ih =>
    rintro xs ⟨A, c, F, q, zs, e, h1, h2, h3⟩
    exact ⟨A, c, F, q, zs, e, h1.two hb, h2.two hb, ih zs h3⟩
end

theorem xr_base {w0 w u2 : World} {X : XG} (B : XB w0 X) (hXb : X.b = w.heap.size) (hB : Below w0.heap.size w0 w) (hl : X.len ≤ maxLen) {gB : Nat} {xs : List Value}
    (q1 : (w.alloc (.cells #[.slice X.a X.len X.cap, .int .i64 0] 98)).heap.size ≤ gB) (q2 : u2.heap[gB]? = some (.cells xs.toArray 37 (0, 0))) (q3 : DX u2 (fun x => x < gB) baseD xs) (q4 : BH (w.alloc (.cells #[.slice X.a X.len X.cap, .int .i64 0] 98)) u2) :
    XR w0 u2 u2 X 0 (.slice (some ⟨gB, 0, none⟩) 8 8) (.slice (some ⟨gB, 0, none⟩) 8 8) baseD xs := by
  have hB' := hB.alloc hB.size (.cells #[.slice X.a X.len X.cap, .int .i64 0] 98)
  have hst : Strm u2 X.b X.a X.len X.cap X.zs 0 := by rw [hXb]; exact (strm_new hB hl B.ints).keep q4
  have hs := hB.size
  have hlen : xs.length = 64 := DX.len _ _ q3
  rw [World.size_alloc] at q1
  refine ⟨hB'.trans (q4.mono hB'.size), hst, ⟨hlen, .inr ⟨gB, 8, xs.toArray, rfl, by omega, q2, Nat.le_refl _, by decide, by simp [hlen], ?_⟩⟩, ?_, ?_, KH.bh (BH.refl _)⟩
  · rw [List.take_of_length_le]
    simp only [List.size_toArray, List.toList_toArray, hlen]
    decide
  · refine DX.keep (Nat.le_refl _) (fun v hv _ => ⟨rfl, hv.2, fun e => ?_⟩) _ _ (DX.two hst.1 _ _ q3)
    have e' : gB = v := by simpa [Value.ownBlock] using e
    have := hv.1
    omega
  · intro e
    have e' : gB = X.b := by simpa [Value.ownBlock] using e
    omega

set_option maxHeartbeats 8000000 in
set_option maxRecDepth 100000 in
theorem decls_any (w0 w : World) (X : XG) (B : XB w0 X) (hXb : X.b = w.heap.size) (hB : Below w0.heap.size w0 w) (hl : X.len ≤ maxLen) :
    Calls Tryz.prog 19 #[.slice X.a X.len X.cap] w fun e w' => ∃ (k gB : Nat) (u2 : World) (v : Value) (es : List De) (xs : List Value), e = .returned v ∧ XR w0 u2 w' X k (.slice (some ⟨gB, 0, none⟩) 8 8) v (baseD ++ es) xs ∧ es.length ≤ 4 ∧ (∀ d ∈ es, okE X.XW X.len d) ∧ BH w w' := by
  have HB := Lib.hid (And.intro hB hXb)
  clear hB hXb
  go_enter Tryz.func19, Tryz.ntmps19
  go_wp2_with (fail)
  refine (new_any X.a X.len X.cap _).mono ?_
  rintro e u1 ⟨rfl, rfl⟩
  go_wp2_with (fail)
  refine (base_own _).mono ?_
  rintro e u2 ⟨gB, xs, rfl, q1, q2, q3, q4⟩
  have hx := xr_base B HB.out.2 HB.out.1 hl q1 q2 q3 q4
  have hex := extra_any w0 u2 X B 0 _ baseD xs hx (by decide) (fun d hd => baseD_ok d hd) ⟨dBox, by simp [baseD], rfl⟩
  rw [HB.out.2] at hex
  have HEx := Lib.hid hex
  have HQ := Lib.hid (And.intro q1 q4)
  clear hx hex q1 q2 q3 q4
  go_wp2_with (fail)
  refine HEx.out.mono ?_
  rintro e u3 ⟨k, v, es, xs', rfl, h1, h2, h3, -⟩
  have HF := Lib.hid (And.intro h1 (And.intro h2 h3))
  clear h1 h2 h3
  go_wp2_with (fail)
  go_ret
  obtain ⟨h1, h2, h3⟩ := HF.out
  refine ⟨k, gB, u2, _, es, xs', rfl, h1, h2, h3, ?_⟩
  have hb2 := BH.trans (bh_alloc (BH.refl w) _) HQ.out.2
  have q1 := HQ.out.1
  rw [World.size_alloc] at q1
  have hk := h1.kh
  have hbx := HB.out.2
  have hs2 := Below.size hb2
  exact ⟨hk.os.trans (Below.os hb2), hk.tape.trans (Below.tape hb2), hk.output.trans (Below.output hb2), Nat.le_trans hs2 hk.size, fun y hy => (hk.block y (by omega) (by omega) (by omega) (fun e => by have e' : gB = y := (by simpa [Value.ownBlock] using e); omega)).trans (Below.block hb2 y hy)⟩
end Go.Proofs.YtpkiheenkpcebaaGreatDoor
namespace Go.Proofs.YtpkiheenkpcebaaGreatDoor
open Go.RowKit Sx
theorem OkT.mono {V V' : Int} {x : Tm} (h : OkT V x) (hV : V ≤ V') : OkT V' x := ⟨h.1, h.2.1, h.2.2.1, closed1_mono hV h.2.2.2⟩
theorem OkF.mono {V V' : Int} {fs : List (List UInt8 × Tm)} (h : OkF V fs) (hV : V ≤ V') : OkF V' fs := ⟨h.1, fun f hf => ⟨(h.2 f hf).1, (h.2 f hf).2.mono hV⟩⟩
theorem OkD.mono {V V' : Int} {d : De} (h : OkD V d) (hV : V ≤ V') : OkD V' d := ⟨h.1, h.2.1.mono hV, h.2.2.mono hV⟩
def lenTB : Fo → Bool
  | .nil => true
  | .cons _ t kids _ rest => decide (t.length ≤ 1048576) && (lenTB kids && lenTB rest)
theorem lenT_of (f : Fo) : lenTB f = true → lenT f := by
  induction f with
  | nil => intro _; trivial
  | cons k t kids o r ih1 ih2 =>
    intro h
    rw [lenTB, Bool.and_eq_true, Bool.and_eq_true, decide_eq_true_eq] at h
    exact ⟨h.1, ih1 h.2.1, ih2 h.2.2⟩
def okTB (V : Int) (x : Tm) : Bool := decide (fsize x.kids ≤ 1073741824) && (decide (x.t.length ≤ 1048576) && (lenTB x.kids && closed1 x.k x.o x.kids V))
theorem okT_of {V : Int} {x : Tm} (h : okTB V x = true) : OkT V x := by
  rw [okTB, Bool.and_eq_true, Bool.and_eq_true, Bool.and_eq_true, decide_eq_true_eq, decide_eq_true_eq] at h
  exact ⟨h.1, h.2.1, lenT_of _ h.2.2.1, h.2.2.2⟩
def okDB (V : Int) (d : De) : Bool := decide (d.name.length ≤ 1048576) && (okTB V d.super && (decide (d.fields.length ≤ 1048576) && d.fields.all fun f => decide (f.1.length ≤ 1048576) && okTB V f.2))
theorem okD_of {V : Int} {d : De} (h : okDB V d = true) : OkD V d := by
  rw [okDB, Bool.and_eq_true, Bool.and_eq_true, Bool.and_eq_true, decide_eq_true_eq, decide_eq_true_eq] at h
  refine ⟨h.1, okT_of h.2.1, h.2.2.1, fun f hf => ?_⟩
  have h2 := List.all_eq_true.1 h.2.2.2 f hf
  rw [Bool.and_eq_true, decide_eq_true_eq] at h2
  exact ⟨h2.1, okT_of h2.2⟩
theorem baseD_okD : ∀ d ∈ baseD, OkD 3 d := by
  have key : ∀ d ∈ baseD, okDB 3 d = true := by decide
  exact fun d hd => okD_of (key d hd)
theorem dn_of {W : World} {S : Nat → Prop} {ds : List De} {gd cd : Nat} {E : EG} (h : DcS W S ds (some ⟨gd, 0, none⟩) cd) (e1 : E.gd = gd) (e2 : E.od = 0) (e3 : E.nd = ds.length) (e4 : E.ds = ds.map fun d => (d.name, d.arity.toNat)) (hne : gd ≠ E.b) (hlt : gd < W.heap.size) (hl : ds.length ≤ 1000) (hds : ∀ d ∈ ds, avX d) : DN W E := by
  refine ⟨by rw [e1]; exact hne, by rw [e1]; exact hlt, by rw [e3, e4]; simp, by rw [e3]; exact hl, ?_⟩
  intro j n ar hj
  rw [e4, List.getElem?_map, Option.map_eq_some_iff] at hj
  obtain ⟨d, hd, he⟩ := hj
  obtain ⟨rfl, rfl⟩ := Prod.mk.inj he
  obtain ⟨g, off, A1, c1, F1, x1, e, _, _, p0, p1, p2, p3, p4, p5, p6, p7, _, _⟩ := h.at hd
  cases e
  obtain ⟨o1, o2, o3⟩ := hds d (List.mem_of_getElem? hd)
  rw [e1, e2]
  exact ⟨⟨d.super.k, d.super.t, d.super.o, A1, d.super.kids.len, c1, d.conc, F1, d.fields.length, x1, p0, by rw [Int.toNat_of_nonneg o1]; exact p1, p2, p3, p4, p5, p6, p7⟩, by omega, o3⟩
end Go.Proofs.YtpkiheenkpcebaaGreatDoor
