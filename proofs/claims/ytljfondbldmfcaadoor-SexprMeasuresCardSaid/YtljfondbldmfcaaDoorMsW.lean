/- tellaw1.SexprMeasures: the walk. No condition but the two tables. -/
import Derived.Test.YtljfondbldmfcaaDoorMsB
set_option linter.unusedVariables false
set_option linter.unusedSimpArgs false
namespace Go.Proofs.YtljfondbldmfcaaDoor
open Go.RowKit Sx

set_option maxHeartbeats 16000000 in
set_option maxRecDepth 100000 in
theorem measures_walk (a0 : Option Addr) (len0 cap0 : Nat) (z0 : List Int) (a1 : Option Addr) (len1 cap1 : Nat) (z1 : List Int) (w : World)
    (hl0 : len0 ≤ maxLen) (hI0 : Ints w a0 len0 z0) (hl1 : len1 ≤ maxLen) (hI1 : Ints w a1 len1 z1) (W T : List (List UInt8)) (hW : ∀ u ∈ W, okW u = true) (hT : ∀ u ∈ T, okS u = true)
    (gw ow cw gs ot cs : Nat) (tW : TabW w 2 16 W gw ow cw) (tT : TabW w 1 6 T gs ot cs) :
    Calls Tryd.prog 6 #[.slice a0 len0 cap0, .slice a1 len1 cap1] w fun e w' => e = .returned (.bool true) ∧ Below w.heap.size w w' := by
  have HI0 := Lib.hid hI0
  have HI1 := Lib.hid hI1
  have TW := Lib.hid tW
  have TT := Lib.hid tT
  clear hI0 hI1 hW hT tW tT
  go_enter Tryd.func6, Tryd.ntmps6
  go_wp2_with (fail)
  refine (new_any _ _ _ _).mono ?_
  rintro e1 w1 ⟨rfl, rfl⟩
  go_wp2_with (fail)
  refine (any_true 4 _ _ _ _ _ _ _ _ _ _ _ _ _ _ (gen_new (Below.refl _ _) hl0 HI0.out TW.out TT.out) (by decide)).mono ?_
  rintro e2 w2 ⟨ka, oa, ta, kidsa, Aa, ca, ysa, rfl, hca, hra, hka, hoka, hG, hgb⟩
  have hB2 : Below w.heap.size w w2 := below_gb_of ((Below.refl _ _).alloc (Nat.le_refl _) _) hgb (Nat.le_refl _)
  have hza := kids_size (by decide) hoka
  have Hoka := Lib.hid hoka
  clear hgb hG hoka
  go_wp2_with (fail)
  refine (new_any _ _ _ _).mono ?_
  rintro e3 w3 ⟨rfl, rfl⟩
  go_wp2_with (fail)
  have hgw2 : Below w2.heap.size w2 (w2.alloc (.cells #[.slice a1 len1 cap1, .int .i64 0] 88)) := (Below.refl _ _).alloc (Nat.le_refl _) _
  refine (any_true 4 _ _ _ _ _ _ _ _ _ _ _ _ _ _ (gen_new hB2 hl1 HI1.out TW.out TT.out) (by decide)).mono ?_
  rintro e4 w4 ⟨kb, ob, tb, kidsb, Ab, cb, ysb, rfl, hcb, hrb, hkb, hokb, hG, hgb⟩
  have hB24 : Below w2.heap.size w2 w4 := below_gb_of hgw2 hgb (Nat.le_refl _)
  have hB4 : Below w.heap.size w w4 := hB2.trans (hB24.mono hB2.size)
  have hzb := kids_size (by decide) hokb
  have Hokb := Lib.hid hokb
  have NA := Lib.hid (Nd.of hca hra hka hB24)
  have NB := Lib.hid (Nd.of (W' := w4) hcb hrb hkb (Below.refl _ _))
  clear hgb hG hokb hca hra hka hcb hrb hkb hgw2 hB24 hB2
  have hB4' := Lib.hid hB4
  clear hB4
  go_upto_region 2 with (fail)
  have hN5 := heap_alloc_new w4 (.cells #[.int .i64 ka, .string ⟨ta.toArray⟩, .slice Aa kidsa.len ca, .int .i64 oa] 39)
  have hN6 := heap_alloc_new (w4.alloc (.cells #[.int .i64 ka, .string ⟨ta.toArray⟩, .slice Aa kidsa.len ca, .int .i64 oa] 39)) (.cells #[.int .i64 kb, .string ⟨tb.toArray⟩, .slice Ab kidsb.len cb, .int .i64 ob] 39)
  have hN5' := (Below.heap_alloc (w4.alloc (.cells #[.int .i64 ka, .string ⟨ta.toArray⟩, .slice Aa kidsa.len ca, .int .i64 oa] 39)) (.cells #[.int .i64 kb, .string ⟨tb.toArray⟩, .slice Ab kidsb.len cb, .int .i64 ob] 39) w4.heap.size (by simp)).trans hN5
  have B5 : Below w4.heap.size w4 ((w4.alloc (.cells #[.int .i64 ka, .string ⟨ta.toArray⟩, .slice Aa kidsa.len ca, .int .i64 oa] 39)).alloc (.cells #[.int .i64 kb, .string ⟨tb.toArray⟩, .slice Ab kidsb.len cb, .int .i64 ob] 39)) := ((Below.refl _ _).alloc (Nat.le_refl _) _).alloc (by simp) _
  rw [World.size_alloc] at hN6
  refine gen_wp _ (fun X => Blk X w4.heap.size 39 ka oa ta kidsa Aa ca ∧ Blk X (w4.heap.size + 1) 39 kb ob tb kidsb Ab cb ∧ Nd X kidsa Aa ca ysa ∧ Nd X kidsb Ab cb ysb ∧ Below w.heap.size w X)
    ⟨hN5', hN6, NA.out.below B5, NB.out.below B5, hB4'.out.trans (B5.mono hB4'.out.size)⟩ ?_
  rintro W5 ⟨hA5, hB5, hNA, hNB, hBw⟩
  clear hN5 hN6 hN5' B5 NA NB hB4'
  obtain ⟨g5, hg5⟩ : ∃ g5, w4.heap.size = g5 := ⟨_, rfl⟩
  rw [hg5] at hA5 hB5 ⊢
  clear hg5
  obtain ⟨p0, p1, p2, p3, _, _, _, _⟩ := row4 hA5
  obtain ⟨q0, q1, q2, q3, _, _, _, _⟩ := row4 hB5
  have KS : ∀ X, PW W5 X → X.cell? ⟨g5, 0, none⟩ = some (.int .i64 ka) ∧ X.cell? ⟨g5, 1, none⟩ = some (.string ⟨ta.toArray⟩) ∧ X.cell? ⟨g5, 2, none⟩ = some (.slice Aa kidsa.len ca) ∧ X.cell? ⟨g5, 3, none⟩ = some (.int .i64 oa) ∧
      X.cell? ⟨g5 + 1, 0, none⟩ = some (.int .i64 kb) ∧ X.cell? ⟨g5 + 1, 1, none⟩ = some (.string ⟨tb.toArray⟩) ∧ X.cell? ⟨g5 + 1, 2, none⟩ = some (.slice Ab kidsb.len cb) ∧ X.cell? ⟨g5 + 1, 3, none⟩ = some (.int .i64 ob) :=
    fun X h => ⟨h.cell p0, h.cell p1, h.cell p2, h.cell p3, h.cell q0, h.cell q1, h.cell q2, h.cell q3⟩
  have hno : ∀ (k o : Int) (t : List UInt8) (kids : Fo) (A : Option Addr) (c : Nat) (ys : List Value), fsize kids ≤ 3125 → Nd W5 kids A c ys → ∀ X, PW W5 X → Calls Tryd.prog 18 #[.agg #[.int .i64 k, .string ⟨t.toArray⟩, .slice A kids.len c, .int .i64 o]] X fun e u => ∃ A' c' ys', e = .returned (.agg #[.int .i64 k, .string ⟨t.toArray⟩, .slice A' kids.len c', .int .i64 o]) ∧ PW W5 u ∧ Below X.heap.size X u ∧ NdR u X.heap.size u.heap.size kids A' c' ys' := by
    intro k o t kids A c ys hz hn X hX
    have hnd : Nd X kids A c ys := ⟨hn.1, hn.2.1.keep hX.size fun x _ hl => ⟨hX.block x hl, trivial⟩, hn.2.2.keep hX.size (fun x _ hl => ⟨hX.block x hl, trivial⟩) _⟩
    refine (node_any _ k o t kids A c ys _ X (Nat.le_refl _) (by omega) hnd.1 hnd.2.1 hnd.2.2).mono ?_
    rintro e u ⟨A', c', ys', rfl, h1, h2, h3, h4⟩
    exact ⟨A', c', ys', rfl, Below.trans hX (h4.mono hX.size), h4, h1, h2.keep (Nat.le_refl _) (fun x hx hl => ⟨rfl, hx, hl⟩), h3.keep (Nat.le_refl _) (fun x hx hl => ⟨rfl, hx, hl⟩) _⟩
  have HN1 := Lib.hid (hno ka oa ta kidsa Aa ca ysa hza hNA)
  have HN2 := Lib.hid (hno kb ob tb kidsb Ab cb ysb hzb hNB)
  have HKS := Lib.hid KS
  have HA5 := Lib.hid hA5
  have HB5 := Lib.hid hB5
  have HNA := Lib.hid hNA
  have HNB := Lib.hid hNB
  have HBw := Lib.hid hBw
  have HPd := Lib.hid (PW.drew W5)
  clear hno KS hA5 hB5 hNA hNB hBw
  go_cut [7, 8] (fun s7 s8 wx => CutM W5 ka oa kb ob ta tb kidsa kidsb s7 s8 wx)
  case first =>
    go_region_held3 (fun w' => w'.cell? ⟨g5, 0, none⟩ = some (.int .i64 ka) ∧ w'.cell? ⟨g5, 1, none⟩ = some (.string ⟨ta.toArray⟩) ∧ w'.cell? ⟨g5, 2, none⟩ = some (.slice Aa kidsa.len ca) ∧ w'.cell? ⟨g5, 3, none⟩ = some (.int .i64 oa) ∧
        w'.cell? ⟨g5 + 1, 0, none⟩ = some (.int .i64 kb) ∧ w'.cell? ⟨g5 + 1, 1, none⟩ = some (.string ⟨tb.toArray⟩) ∧ w'.cell? ⟨g5 + 1, 2, none⟩ = some (.slice Ab kidsb.len cb) ∧ w'.cell? ⟨g5 + 1, 3, none⟩ = some (.int .i64 ob))
      (first | go_keep | (refine HKS.out _ ?_; repeat' (first | with_reducible exact HPv.out | with_reducible refine PW.alloc ?_ _ | with_reducible refine PW.set ?_ (by omega) _ _)))
      (first
        | (go_at_call 18; have hq1 := HPu; refine (HN2.out _ (by first | exact HPu.out | exact HPu.out.alloc _ | exact (HPu.out.alloc _).alloc _)).mono ?_; rintro e v ⟨Ay, cy, yy, rfl, hpv, hbv, hnv⟩; have HPv := Lib.hid hpv; have HNv := Lib.hid hnv; have HNu2 := Lib.hid ((HNu.out.below (by first | exact Below.refl _ _ | exact (Below.refl _ _).alloc (Nat.le_refl _) _ | exact ((Below.refl _ _).alloc (Nat.le_refl _) _).alloc (by first | (simp; done) | (simp; omega)) _)).below hbv); clear b0 b1 b2 b3 b4 b5 b6 b7; obtain ⟨k0, k1, k2, k3, k4, k5, k6, k7⟩ := HKS.out _ hpv; have hvs := hbv.size; (try simp only [World.size_alloc] at hvs);
            (first | (have fa := (hbv.block W5.heap.size (by have := heap_lt Fa.out; first | exact this | (simp; omega))).trans (by first | exact Fa.out | exact (Below.heap_alloc u _ _ (heap_lt Fa.out)).trans Fa.out); have Ga := Lib.hid fa; have lgfa := heap_lt fa; have xgfa := Nat.ne_of_lt lgfa; have zgfa := Nat.ne_of_gt lgfa; obtain ⟨f0, f1, f2, f3, f4, f5, f6, f7⟩ := row4 fa; clear fa) | skip);
            (first | (have fb := (hbv.block (W5.heap.size + 1) (by have := heap_lt Fb.out; first | exact this | (simp; omega))).trans (by first | exact Fb.out | exact (Below.heap_alloc u _ _ (heap_lt Fb.out)).trans Fb.out); have Gb := Lib.hid fb; have lgfb := heap_lt fb; have xgfb := Nat.ne_of_lt lgfb; have zgfb := Nat.ne_of_gt lgfb; obtain ⟨j0, j1, j2, j3, j4, j5, j6, j7⟩ := row4 fb; clear fb) | skip);
            (first | (have fc : NR v u.heap.size := (hbv.block u.heap.size (by first | (simp; done) | (simp; omega))).trans (by first | exact heap_alloc_new u _ | exact (Below.heap_alloc _ _ _ (by first | (simp; done) | (simp; omega))).trans (heap_alloc_new u _)); have Gc := Lib.hid fc; have lgfc := heap_lt fc; have xgfc := Nat.ne_of_lt lgfc; have zgfc := Nat.ne_of_gt lgfc; obtain ⟨h0, h1, h2, h3, h4, h5, h6, h7⟩ := row4 fc; clear fc) | skip);
            (first | (have fd : NR v (u.heap.size + 1) := (hbv.block (u.heap.size + 1) (by first | (simp; done) | (simp; omega))).trans (by have h := heap_alloc_new (u.alloc (.cells #[.int .i64 0, .string ⟨#[]⟩, .slice none 0 0, .int .i64 0] 31)) (.cells #[.int .i64 0, .string ⟨#[]⟩, .slice none 0 0, .int .i64 0] 31); rw [World.size_alloc] at h; exact h); have Gd := Lib.hid fd; have lgfd := heap_lt fd; have xgfd := Nat.ne_of_lt lgfd; have zgfd := Nat.ne_of_gt lgfd; obtain ⟨l0, l1, l2, l3, l4, l5, l6, l7⟩ := row4 fd; clear fd) | skip); clear hpv hbv hnv)
        | (go_at_call 18; refine (HN1.out _ (by first | exact HPd.out | exact HPd.out.alloc _ | exact (HPd.out.alloc _).alloc _)).mono ?_; rintro e u ⟨Ax, cx, yx, rfl, hpu, hbu, hnu⟩; have HPu := Lib.hid hpu; have HNu := Lib.hid hnu; obtain ⟨b0, b1, b2, b3, b4, b5, b6, b7⟩ := HKS.out _ hpu; have hus := hbu.size; (try simp only [World.size_alloc] at hus); have hus5 := hpu.size;
            (first | (have fa : NR u W5.heap.size := (hbu.block W5.heap.size (by first | (simp; done) | (simp; omega))).trans (by first | exact heap_alloc_new W5.drew _ | exact (Below.heap_alloc _ _ _ (by first | (simp; done) | (simp; omega))).trans (heap_alloc_new W5.drew _)); have Fa := Lib.hid fa; have lfa := heap_lt fa; have xfa := Nat.ne_of_lt lfa; have zfa := Nat.ne_of_gt lfa; clear fa) | skip);
            (first | (have fb : NR u (W5.heap.size + 1) := (hbu.block (W5.heap.size + 1) (by first | (simp; done) | (simp; omega))).trans (by have h := heap_alloc_new (W5.drew.alloc (.cells #[.int .i64 0, .string ⟨#[]⟩, .slice none 0 0, .int .i64 0] 31)) (.cells #[.int .i64 0, .string ⟨#[]⟩, .slice none 0 0, .int .i64 0] 31); rw [World.size_alloc] at h; exact h); have Fb := Lib.hid fb; have lfb := heap_lt fb; have xfb := Nat.ne_of_lt lfb; have zfb := Nat.ne_of_gt lfb; clear fb) | skip); clear hpu hbu hnu))
    all_goals
      go_wp2_with (fail)
      go_meet
      first
        | (with_reducible refine cut4 HPv.out HNu2.out HNv.out ?_; omega)
        | (with_reducible refine cut5 HPv.out HNu2.out HNv.out ?_; omega)
        | ((with_reducible refine cut2 HPv.out HNu2.out HNv.out Ga.out ?_ ?_ ?_ ?_) <;> (first | omega | (right; omega) | (left; exact lt_a1 _ _) | (left; exact lt_a2 _ _ _) | (left; exact lt_a3 _ _ _) | (left; simp only [World.size_alloc]; omega) | (left; simp only [World.size_alloc]; exact Nat.lt_succ_self _) | (left; simp only [World.size_alloc]; exact Nat.lt_succ_of_lt (Nat.lt_succ_self _))))
        | ((with_reducible refine cut2 HPv.out HNu2.out HNv.out Gc.out ?_ ?_ ?_ ?_) <;> (first | omega | (right; omega) | (left; exact lt_a1 _ _) | (left; exact lt_a2 _ _ _) | (left; exact lt_a3 _ _ _) | (left; simp only [World.size_alloc]; omega) | (left; simp only [World.size_alloc]; exact Nat.lt_succ_self _) | (left; simp only [World.size_alloc]; exact Nat.lt_succ_of_lt (Nat.lt_succ_self _))))
        | ((with_reducible refine cut3 HPv.out HNu2.out HNv.out Ga.out ?_ ?_ ?_ ?_) <;> (first | omega | (right; omega) | (left; exact lt_a1 _ _) | (left; exact lt_a2 _ _ _) | (left; exact lt_a3 _ _ _) | (left; simp only [World.size_alloc]; omega) | (left; simp only [World.size_alloc]; exact Nat.lt_succ_self _) | (left; simp only [World.size_alloc]; exact Nat.lt_succ_of_lt (Nat.lt_succ_self _))))
        | ((with_reducible refine cut3 HPv.out HNu2.out HNv.out Gc.out ?_ ?_ ?_ ?_) <;> (first | omega | (right; omega) | (left; exact lt_a1 _ _) | (left; exact lt_a2 _ _ _) | (left; exact lt_a3 _ _ _) | (left; simp only [World.size_alloc]; omega) | (left; simp only [World.size_alloc]; exact Nat.lt_succ_self _) | (left; simp only [World.size_alloc]; exact Nat.lt_succ_of_lt (Nat.lt_succ_self _))))
        | ((with_reducible refine cut1 HPv.out HNu2.out HNv.out Ga.out Gb.out ?_ ?_ ?_ ?_ ?_ ?_ ?_) <;> (first | omega | (right; omega) | (left; exact lt_a1 _ _) | (left; exact lt_a2 _ _ _) | (left; exact lt_a3 _ _ _) | (left; simp only [World.size_alloc]; omega) | (left; simp only [World.size_alloc]; exact Nat.lt_succ_self _) | (left; simp only [World.size_alloc]; exact Nat.lt_succ_of_lt (Nat.lt_succ_self _))))
        | ((with_reducible refine cut1 HPv.out HNu2.out HNv.out Gb.out Ga.out ?_ ?_ ?_ ?_ ?_ ?_ ?_) <;> (first | omega | (right; omega) | (left; exact lt_a1 _ _) | (left; exact lt_a2 _ _ _) | (left; exact lt_a3 _ _ _) | (left; simp only [World.size_alloc]; omega) | (left; simp only [World.size_alloc]; exact Nat.lt_succ_self _) | (left; simp only [World.size_alloc]; exact Nat.lt_succ_of_lt (Nat.lt_succ_self _))))
        | ((with_reducible refine cut1 HPv.out HNu2.out HNv.out Ga.out Gc.out ?_ ?_ ?_ ?_ ?_ ?_ ?_) <;> (first | omega | (right; omega) | (left; exact lt_a1 _ _) | (left; exact lt_a2 _ _ _) | (left; exact lt_a3 _ _ _) | (left; simp only [World.size_alloc]; omega) | (left; simp only [World.size_alloc]; exact Nat.lt_succ_self _) | (left; simp only [World.size_alloc]; exact Nat.lt_succ_of_lt (Nat.lt_succ_self _))))
        | ((with_reducible refine cut1 HPv.out HNu2.out HNv.out Gc.out Ga.out ?_ ?_ ?_ ?_ ?_ ?_ ?_) <;> (first | omega | (right; omega) | (left; exact lt_a1 _ _) | (left; exact lt_a2 _ _ _) | (left; exact lt_a3 _ _ _) | (left; simp only [World.size_alloc]; omega) | (left; simp only [World.size_alloc]; exact Nat.lt_succ_self _) | (left; simp only [World.size_alloc]; exact Nat.lt_succ_of_lt (Nat.lt_succ_self _))))
        | ((with_reducible refine cut1 HPv.out HNu2.out HNv.out Gc.out Gd.out ?_ ?_ ?_ ?_ ?_ ?_ ?_) <;> (first | omega | (right; omega) | (left; exact lt_a1 _ _) | (left; exact lt_a2 _ _ _) | (left; exact lt_a3 _ _ _) | (left; simp only [World.size_alloc]; omega) | (left; simp only [World.size_alloc]; exact Nat.lt_succ_self _) | (left; simp only [World.size_alloc]; exact Nat.lt_succ_of_lt (Nat.lt_succ_self _))))
        | ((with_reducible refine cut1 HPv.out HNu2.out HNv.out Gd.out Gc.out ?_ ?_ ?_ ?_ ?_ ?_ ?_) <;> (first | omega | (right; omega) | (left; exact lt_a1 _ _) | (left; exact lt_a2 _ _ _) | (left; exact lt_a3 _ _ _) | (left; simp only [World.size_alloc]; omega) | (left; simp only [World.size_alloc]; exact Nat.lt_succ_self _) | (left; simp only [World.size_alloc]; exact Nat.lt_succ_of_lt (Nat.lt_succ_self _))))
  case rest =>
    obtain ⟨g7, g8, Ax, Ay, cx, cy, yx, yy, rfl, rfl, hX7, hY8, hpc, hnx, hny⟩ := hcut
    obtain ⟨k0, k1, k2, k3, k4, k5, k6, k7⟩ := HKS.out _ hpc
    obtain ⟨x0, x1, x2, x3, _, _, _, _⟩ := row4 hX7
    obtain ⟨y0, y1, y2, y3, _, _, _, _⟩ := row4 hY8
    have hna : Nd wc kidsa Aa ca ysa := ⟨HNA.out.1, HNA.out.2.1.keep hpc.size fun x _ hl => ⟨hpc.block x hl, trivial⟩, HNA.out.2.2.keep hpc.size (fun x _ hl => ⟨hpc.block x hl, trivial⟩) _⟩
    have hnb : Nd wc kidsb Ab cb ysb := ⟨HNB.out.1, HNB.out.2.1.keep hpc.size fun x _ hl => ⟨hpc.block x hl, trivial⟩, HNB.out.2.2.keep hpc.size (fun x _ hl => ⟨hpc.block x hl, trivial⟩) _⟩
    have HQ := Lib.hid (And.intro hpc (And.intro hna (And.intro hnb (And.intro hnx hny))))
    have KS2 : ∀ X, PW wc X → X.cell? ⟨g5, 0, none⟩ = some (.int .i64 ka) ∧ X.cell? ⟨g5, 1, none⟩ = some (.string ⟨ta.toArray⟩) ∧ X.cell? ⟨g5, 2, none⟩ = some (.slice Aa kidsa.len ca) ∧ X.cell? ⟨g5, 3, none⟩ = some (.int .i64 oa) ∧
        X.cell? ⟨g5 + 1, 0, none⟩ = some (.int .i64 kb) ∧ X.cell? ⟨g5 + 1, 1, none⟩ = some (.string ⟨tb.toArray⟩) ∧ X.cell? ⟨g5 + 1, 2, none⟩ = some (.slice Ab kidsb.len cb) ∧ X.cell? ⟨g5 + 1, 3, none⟩ = some (.int .i64 ob) ∧
        X.cell? ⟨g7, 0, none⟩ = some (.int .i64 ka) ∧ X.cell? ⟨g7, 1, none⟩ = some (.string ⟨ta.toArray⟩) ∧ X.cell? ⟨g7, 2, none⟩ = some (.slice Ax kidsa.len cx) ∧ X.cell? ⟨g7, 3, none⟩ = some (.int .i64 oa) ∧
        X.cell? ⟨g8, 0, none⟩ = some (.int .i64 kb) ∧ X.cell? ⟨g8, 1, none⟩ = some (.string ⟨tb.toArray⟩) ∧ X.cell? ⟨g8, 2, none⟩ = some (.slice Ay kidsb.len cy) ∧ X.cell? ⟨g8, 3, none⟩ = some (.int .i64 ob) :=
      fun X h => ⟨h.cell k0, h.cell k1, h.cell k2, h.cell k3, h.cell k4, h.cell k5, h.cell k6, h.cell k7, h.cell x0, h.cell x1, h.cell x2, h.cell x3, h.cell y0, h.cell y1, h.cell y2, h.cell y3⟩
    have HK2 := Lib.hid KS2
    clear KS2 hX7 hY8 hpc hnx hny hna hnb
    go_upto_region 3 with (fail)
    go_cut [9, 10] (fun s9 s10 wx => ∃ g9 g10 : Nat, s9 = .slice (some ⟨g9, 0, none⟩) 2 2 ∧ s10 = .slice (some ⟨g10, 0, none⟩) 2 2 ∧
      wx.heap[g9]? = some (.cells #[.int .i64 ka, .string ⟨ta.toArray⟩, .slice Aa kidsa.len ca, .int .i64 oa, .int .i64 kb, .string ⟨tb.toArray⟩, .slice Ab kidsb.len cb, .int .i64 ob] 39 (0, 0)) ∧
      wx.heap[g10]? = some (.cells #[.int .i64 ka, .string ⟨ta.toArray⟩, .slice Ax kidsa.len cx, .int .i64 oa, .int .i64 kb, .string ⟨tb.toArray⟩, .slice Ay kidsb.len cy, .int .i64 ob] 31 (0, 0)) ∧ PW wc wx)
    case first =>
      go_region_held3 (fun X => X.cell? ⟨g5, 0, none⟩ = some (.int .i64 ka) ∧ X.cell? ⟨g5, 1, none⟩ = some (.string ⟨ta.toArray⟩) ∧ X.cell? ⟨g5, 2, none⟩ = some (.slice Aa kidsa.len ca) ∧ X.cell? ⟨g5, 3, none⟩ = some (.int .i64 oa) ∧
          X.cell? ⟨g5 + 1, 0, none⟩ = some (.int .i64 kb) ∧ X.cell? ⟨g5 + 1, 1, none⟩ = some (.string ⟨tb.toArray⟩) ∧ X.cell? ⟨g5 + 1, 2, none⟩ = some (.slice Ab kidsb.len cb) ∧ X.cell? ⟨g5 + 1, 3, none⟩ = some (.int .i64 ob) ∧
          X.cell? ⟨g7, 0, none⟩ = some (.int .i64 ka) ∧ X.cell? ⟨g7, 1, none⟩ = some (.string ⟨ta.toArray⟩) ∧ X.cell? ⟨g7, 2, none⟩ = some (.slice Ax kidsa.len cx) ∧ X.cell? ⟨g7, 3, none⟩ = some (.int .i64 oa) ∧
          X.cell? ⟨g8, 0, none⟩ = some (.int .i64 kb) ∧ X.cell? ⟨g8, 1, none⟩ = some (.string ⟨tb.toArray⟩) ∧ X.cell? ⟨g8, 2, none⟩ = some (.slice Ay kidsb.len cy) ∧ X.cell? ⟨g8, 3, none⟩ = some (.int .i64 ob)) (go_keep) (fail)
      all_goals
        go_wp2_with (fail)
        go_meet
        first
          | exact ⟨wc.heap.size, wc.heap.size + 1, rfl, rfl, (Below.heap_alloc _ _ _ (by simp)).trans (heap_alloc_new wc _), by have h := heap_alloc_new (wc.alloc (.cells #[.int .i64 ka, .string ⟨ta.toArray⟩, .slice Aa kidsa.len ca, .int .i64 oa, .int .i64 kb, .string ⟨tb.toArray⟩, .slice Ab kidsb.len cb, .int .i64 ob] 39)) (.cells #[.int .i64 ka, .string ⟨ta.toArray⟩, .slice Ax kidsa.len cx, .int .i64 oa, .int .i64 kb, .string ⟨tb.toArray⟩, .slice Ay kidsb.len cy, .int .i64 ob] 31); rw [World.size_alloc] at h; exact h, ((PW.drew wc).alloc _).alloc _⟩
          | exact ⟨wc.heap.size + 1, wc.heap.size, rfl, rfl, by have h := heap_alloc_new (wc.alloc (.cells #[.int .i64 ka, .string ⟨ta.toArray⟩, .slice Ax kidsa.len cx, .int .i64 oa, .int .i64 kb, .string ⟨tb.toArray⟩, .slice Ay kidsb.len cy, .int .i64 ob] 31)) (.cells #[.int .i64 ka, .string ⟨ta.toArray⟩, .slice Aa kidsa.len ca, .int .i64 oa, .int .i64 kb, .string ⟨tb.toArray⟩, .slice Ab kidsb.len cb, .int .i64 ob] 39); rw [World.size_alloc] at h; exact h, (Below.heap_alloc _ _ _ (by simp)).trans (heap_alloc_new wc _), ((PW.drew wc).alloc _).alloc _⟩
    case rest =>
      obtain ⟨g9, g10, rfl, rfl, hs9, hs10, hpd⟩ := hcut
      obtain ⟨hpc, hna, hnb, hnx, hny⟩ := HQ.out
      have na := hna.pw hpd
      have nb := hnb.pw hpd
      have nx := hnx.pw hpd
      have ny := hny.pw hpd
      have sa := sliceOf_two hs9 na nb
      have sx := sliceOf_two hs10 nx ny
      have hF : fsize (.cons ka ta kidsa oa (.cons kb tb kidsb ob .nil)) ≤ 140737488355328 := by simp only [fsize]; omega
      generalize hFo : Fo.cons ka ta kidsa oa (.cons kb tb kidsb ob .nil) = F at sa sx hF
      obtain ⟨nF, hnF⟩ : ∃ n, fsize F = n := ⟨_, rfl⟩
      obtain ⟨dF, hdF⟩ : ∃ n, dep F = n := ⟨_, rfl⟩
      obtain ⟨Bq, hBq⟩ : ∃ b, eqN ka kb ta tb kidsa kidsb = b := ⟨_, rfl⟩
      have hCk : ∀ X, PW wc X → Calls Tryd.prog 14 #[] X fun e u => e = .returned (.bool true) ∧ PW wc u := fun X hX => (check_any X).mono fun e u ⟨h1, h2⟩ => ⟨h1, Below.trans hX (h2.mono hX.size)⟩
      have hCn : ∀ X, PW wc X → Calls Tryd.prog 24 #[.slice (some ⟨g10, 0, none⟩) 2 2] X fun e u => e = .returned (.int .i64 (nF : Int)) ∧ PW wc u := fun X hX => (count_any _ F (Nat.le_refl _) hF X _ _ (sliceOf_pw sx hX)).mono fun e u ⟨h1, h2⟩ => ⟨by rw [h1, hnF], Below.trans hX (h2.mono hX.size)⟩
      have hNc : ∀ X, PW wc X → Calls Tryd.prog 25 #[.slice (some ⟨g9, 0, none⟩) 2 2] X fun e u => e = .returned (.int .i64 (nF : Int)) ∧ PW wc u := fun X hX => (nodeCount_any _ F (Nat.le_refl _) hF X _ _ (sliceOf_pw sa hX)).mono fun e u ⟨h1, n, h2⟩ => ⟨by rw [h1, hnF], by rw [h2]; exact below_drewN' hX n⟩
      have hDp : ∀ X, PW wc X → Calls Tryd.prog 26 #[.slice (some ⟨g10, 0, none⟩) 2 2] X fun e u => e = .returned (.int .i64 (dF : Int)) ∧ PW wc u := fun X hX => (depth_any _ F (Nat.le_refl _) hF X _ _ (sliceOf_pw sx hX)).mono fun e u ⟨h1, h2⟩ => ⟨by rw [h1, hdF], Below.trans hX (h2.mono hX.size)⟩
      have hNd : ∀ X, PW wc X → Calls Tryd.prog 27 #[.slice (some ⟨g9, 0, none⟩) 2 2] X fun e u => e = .returned (.int .i64 (dF : Int)) ∧ PW wc u := fun X hX => (nodeDepth_any _ F (Nat.le_refl _) hF X _ _ (sliceOf_pw sa hX)).mono fun e u ⟨h1, n, h2⟩ => ⟨by rw [h1, hdF], by rw [h2]; exact below_drewN' hX n⟩
      have hE1 : ∀ X, PW wc X → Calls Tryd.prog 20 #[.agg #[.int .i64 ka, .string ⟨ta.toArray⟩, .slice Ax kidsa.len cx, .int .i64 oa], .agg #[.int .i64 kb, .string ⟨tb.toArray⟩, .slice Ay kidsb.len cy, .int .i64 ob]] X fun e u => e = .returned (.bool Bq) ∧ PW wc u := fun X hX =>
        (equal_any _ ka oa kb ob ta tb kidsa kidsb Ax Ay cx cy yx yy _ _ X (Nat.le_refl _) (by omega) (by omega) (nx.pw hX).2.1 (nx.pw hX).2.2 (ny.pw hX).2.1 (ny.pw hX).2.2).mono fun e u ⟨h1, h2⟩ => ⟨by rw [h1, hBq], Below.trans hX (h2.mono hX.size)⟩
      have hE2 : ∀ X, PW wc X → Calls Tryd.prog 28 #[.agg #[.int .i64 ka, .string ⟨ta.toArray⟩, .slice Aa kidsa.len ca, .int .i64 oa], .agg #[.int .i64 kb, .string ⟨tb.toArray⟩, .slice Ab kidsb.len cb, .int .i64 ob]] X fun e u => e = .returned (.bool Bq) ∧ PW wc u := fun X hX =>
        (nodeEqual_any _ ka oa kb ob ta tb kidsa kidsb Aa Ab ca cb ysa ysb _ _ X (Nat.le_refl _) (by omega) (by omega) (na.pw hX).2.1 (na.pw hX).2.2 (nb.pw hX).2.1 (nb.pw hX).2.2).mono fun e u ⟨h1, h2⟩ => ⟨by rw [h1, hBq], Below.trans hX (h2.mono hX.size)⟩
      have hE3 : ∀ X, PW wc X → Calls Tryd.prog 20 #[.agg #[.int .i64 ka, .string ⟨ta.toArray⟩, .slice Ax kidsa.len cx, .int .i64 oa], .agg #[.int .i64 ka, .string ⟨ta.toArray⟩, .slice Ax kidsa.len cx, .int .i64 oa]] X fun e u => e = .returned (.bool true) ∧ PW wc u := fun X hX =>
        (equal_any _ ka oa ka oa ta ta kidsa kidsa Ax Ax cx cx yx yx _ _ X (Nat.le_refl _) (by omega) (by omega) (nx.pw hX).2.1 (nx.pw hX).2.2 (nx.pw hX).2.1 (nx.pw hX).2.2).mono fun e u ⟨h1, h2⟩ => ⟨by rw [h1, eqN_rest, eqF_refl], Below.trans hX (h2.mono hX.size)⟩
      have hK3 : ∀ X, PW wc X → X.cell? ⟨g5, 0, none⟩ = some (.int .i64 ka) ∧ X.cell? ⟨g5, 1, none⟩ = some (.string ⟨ta.toArray⟩) ∧ X.cell? ⟨g5, 2, none⟩ = some (.slice Aa kidsa.len ca) ∧ X.cell? ⟨g5, 3, none⟩ = some (.int .i64 oa) ∧ X.cell? ⟨g5 + 1, 0, none⟩ = some (.int .i64 kb) ∧ X.cell? ⟨g5 + 1, 1, none⟩ = some (.string ⟨tb.toArray⟩) ∧ X.cell? ⟨g5 + 1, 2, none⟩ = some (.slice Ab kidsb.len cb) ∧ X.cell? ⟨g5 + 1, 3, none⟩ = some (.int .i64 ob) ∧ X.cell? ⟨g7, 0, none⟩ = some (.int .i64 ka) ∧ X.cell? ⟨g7, 1, none⟩ = some (.string ⟨ta.toArray⟩) ∧ X.cell? ⟨g7, 2, none⟩ = some (.slice Ax kidsa.len cx) ∧ X.cell? ⟨g7, 3, none⟩ = some (.int .i64 oa) ∧ X.cell? ⟨g8, 0, none⟩ = some (.int .i64 kb) ∧ X.cell? ⟨g8, 1, none⟩ = some (.string ⟨tb.toArray⟩) ∧ X.cell? ⟨g8, 2, none⟩ = some (.slice Ay kidsb.len cy) ∧ X.cell? ⟨g8, 3, none⟩ = some (.int .i64 ob) := fun X h => HK2.out X (hpd.trans h)
      have HCk := Lib.hid hCk
      have HCn := Lib.hid hCn
      have HNc := Lib.hid hNc
      have HDp := Lib.hid hDp
      have HNd := Lib.hid hNd
      have HE1 := Lib.hid hE1
      have HE2 := Lib.hid hE2
      have HE3 := Lib.hid hE3
      have HK3 := Lib.hid hK3
      have HP0 := Lib.hid (PW.drew wc)
      have HZ := Lib.hid (HBw.out.trans ((PW.trans hpc hpd).mono HBw.out.size))
      have c16 := hK3 wc (Below.refl _ _)
      clear hCk hCn hNc hDp hNd hE1 hE2 hE3 hK3 hpc hna hnb hnx hny na nb nx ny sa sx hF hFo hnF hdF hBq hs9 hs10 hpd HN1 HN2 HKS HK2 HQ p0 p1 p2 p3 q0 q1 q2 q3 k0 k1 k2 k3 k4 k5 k6 k7 x0 x1 x2 x3 y0 y1 y2 y3
      obtain ⟨c0, c1, c2, c3, c4, c5, c6, c7, c8, c9, c10, c11, c12, c13, c14, c15⟩ := c16
      go_wp2_with (fail)
      go_region_held3 (fun X => X.cell? ⟨g5, 0, none⟩ = some (.int .i64 ka) ∧ X.cell? ⟨g5, 1, none⟩ = some (.string ⟨ta.toArray⟩) ∧ X.cell? ⟨g5, 2, none⟩ = some (.slice Aa kidsa.len ca) ∧ X.cell? ⟨g5, 3, none⟩ = some (.int .i64 oa) ∧ X.cell? ⟨g5 + 1, 0, none⟩ = some (.int .i64 kb) ∧ X.cell? ⟨g5 + 1, 1, none⟩ = some (.string ⟨tb.toArray⟩) ∧ X.cell? ⟨g5 + 1, 2, none⟩ = some (.slice Ab kidsb.len cb) ∧ X.cell? ⟨g5 + 1, 3, none⟩ = some (.int .i64 ob) ∧ X.cell? ⟨g7, 0, none⟩ = some (.int .i64 ka) ∧ X.cell? ⟨g7, 1, none⟩ = some (.string ⟨ta.toArray⟩) ∧ X.cell? ⟨g7, 2, none⟩ = some (.slice Ax kidsa.len cx) ∧ X.cell? ⟨g7, 3, none⟩ = some (.int .i64 oa) ∧ X.cell? ⟨g8, 0, none⟩ = some (.int .i64 kb) ∧ X.cell? ⟨g8, 1, none⟩ = some (.string ⟨tb.toArray⟩) ∧ X.cell? ⟨g8, 2, none⟩ = some (.slice Ay kidsb.len cy) ∧ X.cell? ⟨g8, 3, none⟩ = some (.int .i64 ob)) (go_keep)
        (first
          | (go_at_call 20; refine (HE3.out _ HP7.out).mono ?_; rintro ee w8 ⟨rfl, hp⟩; have HP8 := Lib.hid hp; clear e0 e1 e2 e3 e4 e5 e6 e7 e8 e9 e10 e11 e12 e13 e14 e15; obtain ⟨e0, e1, e2, e3, e4, e5, e6, e7, e8, e9, e10, e11, e12, e13, e14, e15⟩ := HK3.out _ hp; clear hp)
          | (go_at_call 28; refine (HE2.out _ HP6.out).mono ?_; rintro ee w7 ⟨rfl, hp⟩; have HP7 := Lib.hid hp; clear e0 e1 e2 e3 e4 e5 e6 e7 e8 e9 e10 e11 e12 e13 e14 e15; obtain ⟨e0, e1, e2, e3, e4, e5, e6, e7, e8, e9, e10, e11, e12, e13, e14, e15⟩ := HK3.out _ hp; clear hp)
          | (go_at_call 20; refine (HE1.out _ HP5.out).mono ?_; rintro ee w6 ⟨rfl, hp⟩; have HP6 := Lib.hid hp; clear e0 e1 e2 e3 e4 e5 e6 e7 e8 e9 e10 e11 e12 e13 e14 e15; obtain ⟨e0, e1, e2, e3, e4, e5, e6, e7, e8, e9, e10, e11, e12, e13, e14, e15⟩ := HK3.out _ hp; clear hp)
          | (go_at_call 27; refine (HNd.out _ HP4.out).mono ?_; rintro ee w5 ⟨rfl, hp⟩; have HP5 := Lib.hid hp; clear e0 e1 e2 e3 e4 e5 e6 e7 e8 e9 e10 e11 e12 e13 e14 e15; obtain ⟨e0, e1, e2, e3, e4, e5, e6, e7, e8, e9, e10, e11, e12, e13, e14, e15⟩ := HK3.out _ hp; clear hp)
          | (go_at_call 26; refine (HDp.out _ HP3.out).mono ?_; rintro ee w4' ⟨rfl, hp⟩; have HP4 := Lib.hid hp; clear e0 e1 e2 e3 e4 e5 e6 e7 e8 e9 e10 e11 e12 e13 e14 e15; obtain ⟨e0, e1, e2, e3, e4, e5, e6, e7, e8, e9, e10, e11, e12, e13, e14, e15⟩ := HK3.out _ hp; clear hp)
          | (go_at_call 25; refine (HNc.out _ HP2.out).mono ?_; rintro ee w3 ⟨rfl, hp⟩; have HP3 := Lib.hid hp; clear e0 e1 e2 e3 e4 e5 e6 e7 e8 e9 e10 e11 e12 e13 e14 e15; obtain ⟨e0, e1, e2, e3, e4, e5, e6, e7, e8, e9, e10, e11, e12, e13, e14, e15⟩ := HK3.out _ hp; clear hp)
          | (go_at_call 24; refine (HCn.out _ HP1.out).mono ?_; rintro ee w2' ⟨rfl, hp⟩; have HP2 := Lib.hid hp; clear e0 e1 e2 e3 e4 e5 e6 e7 e8 e9 e10 e11 e12 e13 e14 e15; obtain ⟨e0, e1, e2, e3, e4, e5, e6, e7, e8, e9, e10, e11, e12, e13, e14, e15⟩ := HK3.out _ hp; clear hp)
          | (go_at_call 14; refine (HCk.out _ HP0.out).mono ?_; rintro ee w1 ⟨rfl, hp⟩; have HP1 := Lib.hid hp; obtain ⟨e0, e1, e2, e3, e4, e5, e6, e7, e8, e9, e10, e11, e12, e13, e14, e15⟩ := HK3.out _ hp; clear hp))
      all_goals
        go_wp2_with (fail)
        go_ret
        exact ⟨rfl, HZ.out.trans (HP8.out.mono HZ.out.size)⟩
end Go.Proofs.YtljfondbldmfcaaDoor
