/- telmake.term: the walk. No condition but what it reads. -/
import Derived.Test.YtpkiheenkpcebaaGreatDoorQab
set_option linter.unusedVariables false
set_option linter.unusedSimpArgs false
namespace Go.Proofs.YtpkiheenkpcebaaGreatDoor
open Go.RowKit Sx

set_option maxHeartbeats 16000000 in
set_option maxRecDepth 100000 in
theorem term_step (E : EG) (M : Nat) (hNm : CNm E (M + 1)) (hT : CT E M) : CT E (M + 1) := by
  intro k d V w hG hM hV0 hV1 hVd hd0 hd1
  have HNm := Lib.hid hNm
  have HT := Lib.hid hT
  obtain ⟨i0, hi, hz0, hz1, hz2⟩ := info_parts infoTg
  have hX := bh_alloc (BH.refl w) (.cells #[.int .i64 0, .string ⟨#[]⟩, .int .i64 0, .slice none 0 0] 34)
  have HG0 := Lib.hid hG
  have HG1 := Lib.hid (hG.below hX)
  have HN := Lib.hid (heap_alloc_new w (.cells #[.int .i64 0, .string ⟨#[]⟩, .int .i64 0, .slice none 0 0] 34))
  have HX := Lib.hid hX
  have Hd1 := Lib.hid (show IntKind.i64.wrap (d - 1) = d - 1 from (IntKind.wrap_i64 _).trans (by omega))
  have HV1 := Lib.hid (show IntKind.i64.wrap (V + 1) = V + 1 from (IntKind.wrap_i64 _).trans (by omega))
  clear hNm hT hG hX
  go_enter Tryz.func59, Tryz.ntmps59
  go_wp2_with (fail)
  refine (next_genD 14 HG1.out (by omega) (by omega)).mono ?_
  rintro e1 w1 ⟨r, k1, rfl, hr, hg1, hgb, hsz, hk1⟩
  have HG1' := Lib.hid hg1
  have HGB := Lib.hid (gb_trans (gb_below HX.out (some E.b)) hgb)
  have HN1 := Lib.hid ((hgb.block w.heap.size (by simp) (by simp; have := HG0.out.lt; omega)).trans HN.out)
  have hs1 : w1.heap.size = w.heap.size + 1 := by rw [hsz]; simp
  have HS1 := Lib.hid hs1
  have hkk : k ≤ k1 ∧ (r = 0 ∨ k1 = k + 1 ∧ k < E.len) := by
    rcases hk1 with ⟨a, b⟩ | ⟨a, b, c⟩
    · exact ⟨by omega, .inr ⟨b, a⟩⟩
    · exact ⟨by omega, .inl c⟩
  have HKK := Lib.hid hkk
  have HB0 := Lib.hid HG0.out.lt
  clear hg1 hgb hsz hs1 hk1 hkk
  go_upto_region 2 with (fail)
  go_cut [21] (fun s21 wx => ∃ b : Bool, s21 = .bool b ∧ w1 = wx ∧ Hid (b = true ↔ (d ≤ 0 ∧ (5 : Int) < (r : Int))))
  case first =>
    by_cases hdd : d ≤ 0
    · have t1 : decide (d ≤ 0) = true := decide_eq_true hdd
      by_cases h5 : (5 : Int) < (r : Int)
      · have t2 : decide ((5 : Int) < (r : Int)) = true := decide_eq_true h5
        go_wp2_with (fail)
        go_meet
        exact ⟨true, rfl, rfl, Lib.hid ⟨fun _ => ⟨hdd, h5⟩, fun _ => rfl⟩⟩
      · have t2 : decide ((5 : Int) < (r : Int)) = false := by rw [decide_eq_false_iff_not]; exact h5
        go_wp2_with (fail)
        go_meet
        exact ⟨false, rfl, rfl, Lib.hid ⟨fun h => (by cases h), fun h => absurd h.2 (by omega)⟩⟩
    · have t1 : decide (d ≤ 0) = false := by rw [decide_eq_false_iff_not]; exact hdd
      go_wp2_with (fail)
      go_meet
      exact ⟨false, rfl, rfl, Lib.hid ⟨fun h => (by cases h), fun h => absurd h.1 (by omega)⟩⟩
  case rest =>
  obtain ⟨b, rfl, rfl, Hb⟩ := hcut
  go_upto_if 21 with (fail)
  go_cut [9] (fun s9 wx => ∃ R : Int, s9 = .int .i64 R ∧ w1 = wx ∧ Hid (0 ≤ R ∧ R < 14 ∧ (5 < R → 0 < d) ∧ (R = 0 ∨ (k1 = k + 1 ∧ k < E.len))))
  case first =>
    cases b with
    | true =>
      go_wp2_with (fail)
      go_meet
      exact ⟨0, rfl, rfl, Lib.hid ⟨by decide, by decide, fun h => absurd h (by decide), .inl rfl⟩⟩
    | false =>
      go_wp2_with (fail)
      go_meet
      have hb : ¬ (d ≤ 0 ∧ (5 : Int) < (r : Int)) := fun h => by cases Hb.out.2 h
      exact ⟨(r : Int), rfl, rfl, Lib.hid ⟨by omega, hr, fun _ => by omega, by have := HKK.out.2; omega⟩⟩
  case rest =>
  clear hr
  obtain ⟨R, rfl, rfl, HR⟩ := hcut
  have hcs : R = 0 ∨ R = 1 ∨ R = 2 ∨ R = 3 ∨ R = 4 ∨ R = 5 ∨ R = 6 ∨ R = 7 ∨ R = 8 ∨ R = 9 ∨ R = 10 ∨ R = 11 ∨ R = 12 ∨ R = 13 := by have := HR.out; omega
  rcases hcs with rfl | rfl | rfl | rfl | rfl | rfl | rfl | rfl | rfl | rfl | rfl | rfl | rfl | rfl
  · go_wp2_with (fail)
    have HGd := Lib.hid HG1'.out.drew
    have HNd := Lib.hid (show w1.drew.heap[w.heap.size]? = _ from HN1.out)
    have HGBd := Lib.hid (gb_drew HGB.out)
    have HNE := Lib.hid (show (some w.heap.size : Option Nat) ≠ some E.b by intro e; have := HG0.out.lt; simp at e; omega)
    have hh := HGd.out.leaf.head
    go_region_law (first
      | (go_simp; go_at_call 61; (refine (next_genD 4 HGd.out (by decide) (by decide)).mono ?_); rintro e4 w4 ⟨r4, k4, rfl, hr4, b1, b2, b3, b4⟩; have HNb := Lib.hid ((b2.block w.heap.size (heap_lt HNd.out) HNE.out).trans HNd.out); have HGe := Lib.hid b1; have HGBe := Lib.hid (gb_trans HGBd.out b2); have HKe := Lib.hid (show k1 ≤ k4 by omega); obtain ⟨sx, hsx, hcx⟩ := b1.leaf.row r4 (by omega); have Hsx := Lib.hid hsx; have hh4 := b1.leaf.head; have hr40 : (0 : Int) ≤ (r4 : Int) := (by omega); clear hsx b1 b2 b3 b4 hh)
      | (go_simp; go_at_call 17; (refine (namedC _ _ _ _ _).mono ?_); rintro e5 w5 ⟨rfl, b5⟩; have HGf := Lib.hid (HGe.out.below b5); have HGBf := Lib.hid (gb_trans HGBe.out (gb_below b5 _)); have HNf := Lib.hid ((Below.block b5 _ (heap_lt HNb.out)).trans HNb.out); obtain ⟨c0, c1, c2, c3, z0, z1, z2, z3⟩ := row4 HNf.out; clear b5 hcx hh4))
    all_goals
      go_wp2_with (fail)
      obtain ⟨m0, m1, m2, m3, _⟩ := row4 (s4 HNf.out (.int .i64 2) (.string ⟨sx.toArray⟩) (.int .i64 0) (.slice none 0 0))
      refine bodyPost_ret (v := .agg #[.int .i64 2, .string ⟨sx.toArray⟩, .int .i64 0, .slice none 0 0]) (by simp [results, Tryz.results59, go_sem, m0, m1, m2, m3]) rfl ?_
      exact GP.box (kids := .nil) HG0.out HGf.out HGBf.out (Nat.le_refl _) (reads_nil _ _) rfl (by have := HKK.out.1; have := HKe.out; omega) (by simp [fsize, zT]) ⟨⟨by have := HGf.out.short sx Hsx.out; omega, by first | exact bar_nil _ | exact bar_ne (by decide)⟩, trivial, trivial⟩ (closed1_kids (by decide) (by decide) rfl)
  · go_wp2_with (fail)
    have HGd := Lib.hid HG1'.out.drew
    have HNd := Lib.hid (show w1.drew.heap[w.heap.size]? = _ from HN1.out)
    have HGBd := Lib.hid (gb_drew HGB.out)
    have HNE := Lib.hid (show (some w.heap.size : Option Nat) ≠ some E.b by intro e; have := HG0.out.lt; simp at e; omega)
    have hh := HGd.out.leaf.head
    go_region_law (first
      | (go_simp; go_at_call 61; (refine (next_genD 4 HGd.out (by decide) (by decide)).mono ?_); rintro e4 w4 ⟨r4, k4, rfl, hr4, b1, b2, b3, b4⟩; have HNb := Lib.hid ((b2.block w.heap.size (heap_lt HNd.out) HNE.out).trans HNd.out); have HGe := Lib.hid b1; have HGBe := Lib.hid (gb_trans HGBd.out b2); have HKe := Lib.hid (show k1 ≤ k4 by omega); obtain ⟨sx, hsx, hcx⟩ := b1.leaf.row r4 (by omega); have Hsx := Lib.hid hsx; have hh4 := b1.leaf.head; have hr40 : (0 : Int) ≤ (r4 : Int) := (by omega); clear hsx b1 b2 b3 b4 hh)
      | (go_simp; go_at_call 17; (refine (namedC _ _ _ _ _).mono ?_); rintro e5 w5 ⟨rfl, b5⟩; have HGf := Lib.hid (HGe.out.below b5); have HGBf := Lib.hid (gb_trans HGBe.out (gb_below b5 _)); have HNf := Lib.hid ((Below.block b5 _ (heap_lt HNb.out)).trans HNb.out); obtain ⟨c0, c1, c2, c3, z0, z1, z2, z3⟩ := row4 HNf.out; clear b5 hcx hh4))
    all_goals
      go_wp2_with (fail)
      obtain ⟨m0, m1, m2, m3, _⟩ := row4 (s4 HNf.out (.int .i64 2) (.string ⟨sx.toArray⟩) (.int .i64 0) (.slice none 0 0))
      refine bodyPost_ret (v := .agg #[.int .i64 2, .string ⟨sx.toArray⟩, .int .i64 0, .slice none 0 0]) (by simp [results, Tryz.results59, go_sem, m0, m1, m2, m3]) rfl ?_
      exact GP.box (kids := .nil) HG0.out HGf.out HGBf.out (Nat.le_refl _) (reads_nil _ _) rfl (by have := HKK.out.1; have := HKe.out; omega) (by simp [fsize, zT]) ⟨⟨by have := HGf.out.short sx Hsx.out; omega, by first | exact bar_nil _ | exact bar_ne (by decide)⟩, trivial, trivial⟩ (closed1_kids (by decide) (by decide) rfl)
  · go_wp2_with (fail)
    refine (anyC _).mono ?_
    rintro e3 w3 ⟨rfl, hb3⟩
    have HG3 := Lib.hid (HG1'.out.below hb3)
    have HGB3 := Lib.hid (gb_trans HGB.out (gb_below hb3 _))
    have HN3 := Lib.hid ((Below.block hb3 _ (heap_lt HN1.out)).trans HN1.out)
    clear hb3
    obtain ⟨b0, b1, b2, b3, y0, y1, y2, y3⟩ := row4 HN3.out
    go_wp2_with (fail)
    obtain ⟨m0, m1, m2, m3, _⟩ := row4 (s4 HN3.out (.int .i64 0) (.string ⟨#[]⟩) (.int .i64 0) (.slice none 0 0))
    refine bodyPost_ret (v := .agg #[.int .i64 0, .string ⟨#[]⟩, .int .i64 0, .slice none 0 0]) (by simp [results, Tryz.results59, go_sem, m0, m1, m2, m3]) rfl ?_
    exact GP.box (kids := .nil) (t := []) HG0.out HG3.out HGB3.out (Nat.le_refl _) (reads_nil _ _) rfl (by have := HKK.out.1; omega) (by simp [fsize, zT]) ⟨⟨by simp, by first | exact bar_nil _ | exact bar_ne (by decide)⟩, trivial, trivial⟩ (closed1_kids (by decide) (by decide) rfl)
  · by_cases hV2 : 0 < V
    · have t2 : decide ((0 : Int) < V) = true := decide_eq_true hV2
      go_wp2_with (fail)
      refine (next_genD V HG1'.out (by omega) (by omega)).mono ?_
      rintro e2 w2 ⟨r2, k2, rfl, hr2, hg2, hgb2, hsz2, hk2⟩
      have HG2 := Lib.hid hg2
      have HGB2 := Lib.hid (gb_trans HGB.out hgb2)
      have HN2 := Lib.hid ((hgb2.block _ (heap_lt HN1.out) (by simp; have := HG0.out.lt; omega)).trans HN1.out)
      have hkk2 : k1 ≤ k2 := by omega
      clear hg2 hgb2 hsz2 hk2
      go_wp2_with (fail)
      refine (varC _ _).mono ?_
      rintro e3 w3 ⟨rfl, hb3⟩
      have HG3 := Lib.hid (HG2.out.below hb3)
      have HGB3 := Lib.hid (gb_trans HGB2.out (gb_below hb3 _))
      have HN3 := Lib.hid ((Below.block hb3 _ (heap_lt HN2.out)).trans HN2.out)
      clear hb3
      obtain ⟨b0, b1, b2, b3, y0, y1, y2, y3⟩ := row4 HN3.out
      go_wp2_with (fail)
      obtain ⟨m0, m1, m2, m3, _⟩ := row4 (s4 HN3.out (.int .i64 5) (.string ⟨#[]⟩) (.int .i64 (r2 : Int)) (.slice none 0 0))
      refine bodyPost_ret (v := .agg #[.int .i64 5, .string ⟨#[]⟩, .int .i64 (r2 : Int), .slice none 0 0]) (by simp [results, Tryz.results59, go_sem, m0, m1, m2, m3]) rfl ?_
      exact GP.box (kids := .nil) (t := []) HG0.out HG3.out HGB3.out (Nat.le_refl _) (reads_nil _ _) rfl (by have := HKK.out.1; omega) (by simp [fsize, zT]) ⟨⟨by simp, by first | exact bar_nil _ | exact bar_ne (by decide)⟩, trivial, trivial⟩ (closed1_var hr2)
    · have t2 : decide ((0 : Int) < V) = false := by rw [decide_eq_false_iff_not]; exact hV2
      go_wp2_with (fail)
      refine (HNm.out k1 d V w1 HG1'.out (by have := HKK.out.1; omega) hV0 hV1 hVd hd0 hd1).mono ?_
      rintro e2 w2 hgp
      obtain ⟨q, o, t, kids, A, c, rfl, hN2, hres⟩ := hgp.pass (Z := zT d) (k := k) HG0.out HGB.out (by rw [HS1.out]; omega) (Int.le_refl V) HKK.out.1 HN1.out (fun n h h0 => h (by omega))
      have HN2 := Lib.hid hN2
      have HRes := Lib.hid hres
      clear hgp hN2 hres
      obtain ⟨b0, b1, b2, b3, y0, y1, y2, y3⟩ := row4 HN2.out
      go_wp2_with (fail)
      obtain ⟨m0, m1, m2, m3, _⟩ := row4 (s4 HN2.out (.int .i64 q) (.string ⟨t.toArray⟩) (.int .i64 o) (.slice A kids.len c))
      exact bodyPost_ret (v := .agg #[.int .i64 q, .string ⟨t.toArray⟩, .int .i64 o, .slice A kids.len c]) (by simp [results, Tryz.results59, go_sem, m0, m1, m2, m3]) rfl HRes.out
  · by_cases hV2 : 0 < V
    · have t2 : decide ((0 : Int) < V) = true := decide_eq_true hV2
      go_wp2_with (fail)
      refine (next_genD V HG1'.out (by omega) (by omega)).mono ?_
      rintro e2 w2 ⟨r2, k2, rfl, hr2, hg2, hgb2, hsz2, hk2⟩
      have HG2 := Lib.hid hg2
      have HGB2 := Lib.hid (gb_trans HGB.out hgb2)
      have HN2 := Lib.hid ((hgb2.block _ (heap_lt HN1.out) (by simp; have := HG0.out.lt; omega)).trans HN1.out)
      have hkk2 : k1 ≤ k2 := by omega
      clear hg2 hgb2 hsz2 hk2
      go_wp2_with (fail)
      refine (varC _ _).mono ?_
      rintro e3 w3 ⟨rfl, hb3⟩
      have HG3 := Lib.hid (HG2.out.below hb3)
      have HGB3 := Lib.hid (gb_trans HGB2.out (gb_below hb3 _))
      have HN3 := Lib.hid ((Below.block hb3 _ (heap_lt HN2.out)).trans HN2.out)
      clear hb3
      obtain ⟨b0, b1, b2, b3, y0, y1, y2, y3⟩ := row4 HN3.out
      go_wp2_with (fail)
      obtain ⟨m0, m1, m2, m3, _⟩ := row4 (s4 HN3.out (.int .i64 5) (.string ⟨#[]⟩) (.int .i64 (r2 : Int)) (.slice none 0 0))
      refine bodyPost_ret (v := .agg #[.int .i64 5, .string ⟨#[]⟩, .int .i64 (r2 : Int), .slice none 0 0]) (by simp [results, Tryz.results59, go_sem, m0, m1, m2, m3]) rfl ?_
      exact GP.box (kids := .nil) (t := []) HG0.out HG3.out HGB3.out (Nat.le_refl _) (reads_nil _ _) rfl (by have := HKK.out.1; omega) (by simp [fsize, zT]) ⟨⟨by simp, by first | exact bar_nil _ | exact bar_ne (by decide)⟩, trivial, trivial⟩ (closed1_var hr2)
    · have t2 : decide ((0 : Int) < V) = false := by rw [decide_eq_false_iff_not]; exact hV2
      go_wp2_with (fail)
      refine (HNm.out k1 d V w1 HG1'.out (by have := HKK.out.1; omega) hV0 hV1 hVd hd0 hd1).mono ?_
      rintro e2 w2 hgp
      obtain ⟨q, o, t, kids, A, c, rfl, hN2, hres⟩ := hgp.pass (Z := zT d) (k := k) HG0.out HGB.out (by rw [HS1.out]; omega) (Int.le_refl V) HKK.out.1 HN1.out (fun n h h0 => h (by omega))
      have HN2 := Lib.hid hN2
      have HRes := Lib.hid hres
      clear hgp hN2 hres
      obtain ⟨b0, b1, b2, b3, y0, y1, y2, y3⟩ := row4 HN2.out
      go_wp2_with (fail)
      obtain ⟨m0, m1, m2, m3, _⟩ := row4 (s4 HN2.out (.int .i64 q) (.string ⟨t.toArray⟩) (.int .i64 o) (.slice A kids.len c))
      exact bodyPost_ret (v := .agg #[.int .i64 q, .string ⟨t.toArray⟩, .int .i64 o, .slice A kids.len c]) (by simp [results, Tryz.results59, go_sem, m0, m1, m2, m3]) rfl HRes.out
  · go_wp2_with (fail)
    refine (HNm.out k1 d V w1 HG1'.out (by have := HKK.out.1; omega) hV0 hV1 hVd hd0 hd1).mono ?_
    rintro e2 w2 hgp
    obtain ⟨q, o, t, kids, A, c, rfl, hN2, hres⟩ := hgp.pass (Z := zT d) (k := k) HG0.out HGB.out (by rw [HS1.out]; omega) (Int.le_refl V) HKK.out.1 HN1.out (fun n h h0 => h (by omega))
    have HN2 := Lib.hid hN2
    have HRes := Lib.hid hres
    clear hgp hN2 hres
    obtain ⟨b0, b1, b2, b3, y0, y1, y2, y3⟩ := row4 HN2.out
    go_wp2_with (fail)
    obtain ⟨m0, m1, m2, m3, _⟩ := row4 (s4 HN2.out (.int .i64 q) (.string ⟨t.toArray⟩) (.int .i64 o) (.slice A kids.len c))
    exact bodyPost_ret (v := .agg #[.int .i64 q, .string ⟨t.toArray⟩, .int .i64 o, .slice A kids.len c]) (by simp [results, Tryz.results59, go_sem, m0, m1, m2, m3]) rfl HRes.out
  · go_wp2_with (fail)
    refine (HNm.out k1 d V w1 HG1'.out (by have := HKK.out.1; omega) hV0 hV1 hVd hd0 hd1).mono ?_
    rintro e2 w2 hgp
    obtain ⟨q, o, t, kids, A, c, rfl, hN2, hres⟩ := hgp.pass (Z := zT d) (k := k) HG0.out HGB.out (by rw [HS1.out]; omega) (Int.le_refl V) HKK.out.1 HN1.out (fun n h h0 => h (by omega))
    have HN2 := Lib.hid hN2
    have HRes := Lib.hid hres
    clear hgp hN2 hres
    obtain ⟨b0, b1, b2, b3, y0, y1, y2, y3⟩ := row4 HN2.out
    go_wp2_with (fail)
    obtain ⟨m0, m1, m2, m3, _⟩ := row4 (s4 HN2.out (.int .i64 q) (.string ⟨t.toArray⟩) (.int .i64 o) (.slice A kids.len c))
    exact bodyPost_ret (v := .agg #[.int .i64 q, .string ⟨t.toArray⟩, .int .i64 o, .slice A kids.len c]) (by simp [results, Tryz.results59, go_sem, m0, m1, m2, m3]) rfl HRes.out
  · go_wp2_with (fail)
    refine (HNm.out k1 d V w1 HG1'.out (by have := HKK.out.1; omega) hV0 hV1 hVd hd0 hd1).mono ?_
    rintro e2 w2 hgp
    obtain ⟨q, o, t, kids, A, c, rfl, hN2, hres⟩ := hgp.pass (Z := zT d) (k := k) HG0.out HGB.out (by rw [HS1.out]; omega) (Int.le_refl V) HKK.out.1 HN1.out (fun n h h0 => h (by omega))
    have HN2 := Lib.hid hN2
    have HRes := Lib.hid hres
    clear hgp hN2 hres
    obtain ⟨b0, b1, b2, b3, y0, y1, y2, y3⟩ := row4 HN2.out
    go_wp2_with (fail)
    obtain ⟨m0, m1, m2, m3, _⟩ := row4 (s4 HN2.out (.int .i64 q) (.string ⟨t.toArray⟩) (.int .i64 o) (.slice A kids.len c))
    exact bodyPost_ret (v := .agg #[.int .i64 q, .string ⟨t.toArray⟩, .int .i64 o, .slice A kids.len c]) (by simp [results, Tryz.results59, go_sem, m0, m1, m2, m3]) rfl HRes.out
  · have hkl : (0 : Int) < d ∧ k1 = k + 1 ∧ k < E.len := by have := HR.out; omega
    have HKL := Lib.hid hkl
    clear hkl
    have hwd := Hd1.out
    go_wp2_with (fail)
    refine (HT.out k1 (d - 1) V w1 HG1'.out (by have := HKL.out; omega) hV0 hV1 (by omega) (by have := HKL.out; omega) (by omega)).mono ?_
    rintro e2 w2 ⟨k2, q1, o1, t1, kids1, A1, c1, ys1, rfl, g1, g2, g3, g4, g5, g6, g7, g8, g9⟩
    have HA := Lib.hid (And.intro g1 (And.intro g2 (And.intro g3 (And.intro g4 (And.intro g5 (And.intro g6 (And.intro g7 g8)))))))
    have HGB2 := Lib.hid (gb_trans HGB.out g9)
    have HN2 := Lib.hid ((g9.block _ (heap_lt HN1.out) (by simp; have := HG0.out.lt; omega)).trans HN1.out)
    have HS2 := Lib.hid g9.size
    clear g1 g2 g3 g4 g5 g6 g7 g8 g9
    go_wp2_with (fail)
    refine (HT.out k2 (d - 1) V w2 HA.out.2.2.2.2.2.2.2 (by have := HKL.out; have := HA.out.2.2.2.1; omega) hV0 hV1 (by omega) (by have := HKL.out; omega) (by omega)).mono ?_
    rintro e3 w3 ⟨k3, q2, o2, t2, kids2, A2, c2, ys2, rfl, g1, g2, g3, g4, g5, g6, g7, g8, g9⟩
    have HB := Lib.hid (And.intro g1 (And.intro g2 (And.intro g3 (And.intro g4 (And.intro g5 (And.intro g6 (And.intro g7 g8)))))))
    have HGB3 := Lib.hid (gb_trans HGB2.out g9)
    have HN3 := Lib.hid ((g9.block _ (heap_lt HN2.out) (by simp; have := HG0.out.lt; omega)).trans HN2.out)
    have HS3 := Lib.hid g9.size
    have HA1 := Lib.hid (row_far (N := w.heap.size) g9 (by have := HG0.out.lt; omega) (fun x hx => by have := HS1.out; omega) HA.out.2.1 HA.out.2.2.1)
    clear g1 g2 g3 g4 g5 g6 g7 g8 g9
    go_wp2_with (fail)
    refine (unionC _ _ _ _).mono ?_
    rintro e4 w4 ⟨rfl, hb4⟩
    have hP := heap_alloc_new w3 (.cells #[.int .i64 q1, .string ⟨t1.toArray⟩, .int .i64 o1, .slice A1 kids1.len c1, .int .i64 q2, .string ⟨t2.toArray⟩, .int .i64 o2, .slice A2 kids2.len c2] 34)
    have hbP := bh_alloc (BH.refl w3) (.cells #[.int .i64 q1, .string ⟨t1.toArray⟩, .int .i64 o1, .slice A1 kids1.len c1, .int .i64 q2, .string ⟨t2.toArray⟩, .int .i64 o2, .slice A2 kids2.len c2] 34)
    have hb34 := hbP.trans hb4
    have HP := Lib.hid ((Below.block hb4 _ (heap_lt hP)).trans hP)
    have HG4 := Lib.hid (HB.out.2.2.2.2.2.2.2.below hb34)
    have HGB4 := Lib.hid (gb_trans HGB3.out (gb_below hb34 _))
    have HN4 := Lib.hid ((Below.block hb34 _ (heap_lt HN3.out)).trans HN3.out)
    have HA2 := Lib.hid (row_bh (N := w.heap.size) hb34 (fun x hx => hx) HA1.out.1 HA1.out.2)
    have HB2 := Lib.hid (row_bh (N := w.heap.size) hb34 (fun x hx => by have := HS1.out; have := HS2.out; omega) HB.out.2.1 HB.out.2.2.1)
    clear hb4 hP hbP hb34
    obtain ⟨b0, b1, b2, b3, y0, y1, y2, y3⟩ := row4 HN4.out
    go_wp2_with (fail)
    obtain ⟨m0, m1, m2, m3, _⟩ := row4 (s4 HN4.out (.int .i64 4) (.string ⟨#[]⟩) (.int .i64 0) (.slice (some ⟨w3.heap.size, 0, none⟩) 2 2))
    refine bodyPost_ret (v := .agg #[.int .i64 4, .string ⟨#[]⟩, .int .i64 0, .slice (some ⟨w3.heap.size, 0, none⟩) 2 2]) (by simp [results, Tryz.results59, go_sem, m0, m1, m2, m3]) rfl ?_
    have hkl := HKL.out
    have ha4 := HA.out.2.2.2
    have hb4 := HB.out.2.2.2
    exact GP.box (kids := .cons q1 t1 kids1 o1 (.cons q2 t2 kids2 o2 .nil)) (t := []) HG0.out HG4.out HGB4.out (Nat.le_refl _) (blk_reads HP.out (by have := HS1.out; have := HS2.out; have := HS3.out; omega)) (row_two HA.out.1 HA2.out.1 HA2.out.2 HB.out.1 HB2.out.1 HB2.out.2) (by omega) ⟨by have := ha4.2.1; have := hb4.2.1; simp only [fsize]; omega, fun h0 => by omega⟩ ⟨⟨by simp, by first | exact bar_nil _ | exact bar_ne (by decide)⟩, ⟨ha4.2.2.1.1, ha4.2.2.1.2.1, hb4.2.2.1.1, hb4.2.2.1.2.1, trivial⟩, trivial⟩ (closed1_kids (by decide) (by decide) (closed_two ha4.2.2.2.1 hb4.2.2.2.1))
  · have hkl : (0 : Int) < d ∧ k1 = k + 1 ∧ k < E.len := by have := HR.out; omega
    have HKL := Lib.hid hkl
    clear hkl
    have hwd := Hd1.out
    go_wp2_with (fail)
    refine (HT.out k1 (d - 1) V w1 HG1'.out (by have := HKL.out; omega) hV0 hV1 (by omega) (by have := HKL.out; omega) (by omega)).mono ?_
    rintro e2 w2 ⟨k2, q1, o1, t1, kids1, A1, c1, ys1, rfl, g1, g2, g3, g4, g5, g6, g7, g8, g9⟩
    have HA := Lib.hid (And.intro g1 (And.intro g2 (And.intro g3 (And.intro g4 (And.intro g5 (And.intro g6 (And.intro g7 g8)))))))
    have HGB2 := Lib.hid (gb_trans HGB.out g9)
    have HN2 := Lib.hid ((g9.block _ (heap_lt HN1.out) (by simp; have := HG0.out.lt; omega)).trans HN1.out)
    have HS2 := Lib.hid g9.size
    clear g1 g2 g3 g4 g5 g6 g7 g8 g9
    go_wp2_with (fail)
    refine (HT.out k2 (d - 1) V w2 HA.out.2.2.2.2.2.2.2 (by have := HKL.out; have := HA.out.2.2.2.1; omega) hV0 hV1 (by omega) (by have := HKL.out; omega) (by omega)).mono ?_
    rintro e3 w3 ⟨k3, q2, o2, t2, kids2, A2, c2, ys2, rfl, g1, g2, g3, g4, g5, g6, g7, g8, g9⟩
    have HB := Lib.hid (And.intro g1 (And.intro g2 (And.intro g3 (And.intro g4 (And.intro g5 (And.intro g6 (And.intro g7 g8)))))))
    have HGB3 := Lib.hid (gb_trans HGB2.out g9)
    have HN3 := Lib.hid ((g9.block _ (heap_lt HN2.out) (by simp; have := HG0.out.lt; omega)).trans HN2.out)
    have HS3 := Lib.hid g9.size
    have HA1 := Lib.hid (row_far (N := w.heap.size) g9 (by have := HG0.out.lt; omega) (fun x hx => by have := HS1.out; omega) HA.out.2.1 HA.out.2.2.1)
    clear g1 g2 g3 g4 g5 g6 g7 g8 g9
    go_wp2_with (fail)
    refine (unionC _ _ _ _).mono ?_
    rintro e4 w4 ⟨rfl, hb4⟩
    have hP := heap_alloc_new w3 (.cells #[.int .i64 q1, .string ⟨t1.toArray⟩, .int .i64 o1, .slice A1 kids1.len c1, .int .i64 q2, .string ⟨t2.toArray⟩, .int .i64 o2, .slice A2 kids2.len c2] 34)
    have hbP := bh_alloc (BH.refl w3) (.cells #[.int .i64 q1, .string ⟨t1.toArray⟩, .int .i64 o1, .slice A1 kids1.len c1, .int .i64 q2, .string ⟨t2.toArray⟩, .int .i64 o2, .slice A2 kids2.len c2] 34)
    have hb34 := hbP.trans hb4
    have HP := Lib.hid ((Below.block hb4 _ (heap_lt hP)).trans hP)
    have HG4 := Lib.hid (HB.out.2.2.2.2.2.2.2.below hb34)
    have HGB4 := Lib.hid (gb_trans HGB3.out (gb_below hb34 _))
    have HN4 := Lib.hid ((Below.block hb34 _ (heap_lt HN3.out)).trans HN3.out)
    have HA2 := Lib.hid (row_bh (N := w.heap.size) hb34 (fun x hx => hx) HA1.out.1 HA1.out.2)
    have HB2 := Lib.hid (row_bh (N := w.heap.size) hb34 (fun x hx => by have := HS1.out; have := HS2.out; omega) HB.out.2.1 HB.out.2.2.1)
    clear hb4 hP hbP hb34
    obtain ⟨b0, b1, b2, b3, y0, y1, y2, y3⟩ := row4 HN4.out
    go_wp2_with (fail)
    obtain ⟨m0, m1, m2, m3, _⟩ := row4 (s4 HN4.out (.int .i64 4) (.string ⟨#[]⟩) (.int .i64 0) (.slice (some ⟨w3.heap.size, 0, none⟩) 2 2))
    refine bodyPost_ret (v := .agg #[.int .i64 4, .string ⟨#[]⟩, .int .i64 0, .slice (some ⟨w3.heap.size, 0, none⟩) 2 2]) (by simp [results, Tryz.results59, go_sem, m0, m1, m2, m3]) rfl ?_
    have hkl := HKL.out
    have ha4 := HA.out.2.2.2
    have hb4 := HB.out.2.2.2
    exact GP.box (kids := .cons q1 t1 kids1 o1 (.cons q2 t2 kids2 o2 .nil)) (t := []) HG0.out HG4.out HGB4.out (Nat.le_refl _) (blk_reads HP.out (by have := HS1.out; have := HS2.out; have := HS3.out; omega)) (row_two HA.out.1 HA2.out.1 HA2.out.2 HB.out.1 HB2.out.1 HB2.out.2) (by omega) ⟨by have := ha4.2.1; have := hb4.2.1; simp only [fsize]; omega, fun h0 => by omega⟩ ⟨⟨by simp, by first | exact bar_nil _ | exact bar_ne (by decide)⟩, ⟨ha4.2.2.1.1, ha4.2.2.1.2.1, hb4.2.2.1.1, hb4.2.2.1.2.1, trivial⟩, trivial⟩ (closed1_kids (by decide) (by decide) (closed_two ha4.2.2.2.1 hb4.2.2.2.1))
  · have hkl : (0 : Int) < d ∧ k1 = k + 1 ∧ k < E.len := by have := HR.out; omega
    have HKL := Lib.hid hkl
    clear hkl
    have hs1 := HS1.out
    go_wp2_with (fail)
    clear hs1
    have hD := bh_alloc (BH.refl w1) (.cells #[.int .i64 3, .string ⟨#[]⟩, .int .i64 0, .slice none 0 0] 34)
    have eD := heap_alloc_new w1 (.cells #[.int .i64 3, .string ⟨#[]⟩, .int .i64 0, .slice none 0 0] 34)
    have hsD : (w1.alloc (.cells #[.int .i64 3, .string ⟨#[]⟩, .int .i64 0, .slice none 0 0] 34)).heap.size = w.heap.size + 2 := by simp [HS1.out]
    rw [HS1.out] at eD
    have HED := Lib.hid (And.intro hD (And.intro eD hsD))
    clear hD eD hsD
    refine (next_genD 4 (HG1'.out.below HED.out.1) (by decide) (by decide)).mono ?_
    rintro e3 w3 ⟨n, k2, rfl, hn4, hg2, hgb2, hsz2, hk2⟩
    have HK2 := Lib.hid (show k1 ≤ k2 by omega)
    have HR0 : Hid (RD w w3 w3 E k2 (w.heap.size + 1) 3 0 [] (.slice none 0 0) .nil [] ∧ w3.heap[w.heap.size]? = some (.cells #[.int .i64 0, .string ⟨#[]⟩, .int .i64 0, .slice none 0 0] 34 (0, 0)) ∧ w3.heap.size = w.heap.size + 2) := by
      refine Lib.hid ⟨⟨⟨k, HG0.out⟩, hg2, gb_trans (gb_trans HGB.out (gb_below HED.out.1 _)) hgb2, ?_, fun x _ _ _ => rfl, World.ownsRow_nil _ _ _ _, rfl, ⟨by omega, ?_⟩, Nat.le_refl _⟩, ?_, ?_⟩
      · exact (hgb2.block _ (by rw [HED.out.2.2]; omega) (by simp; have := HG0.out.lt; omega)).trans HED.out.2.1
      · rw [hsz2, HED.out.2.2]; omega
      · exact (hgb2.block _ (by rw [HED.out.2.2]; omega) (by simp; have := HG0.out.lt; omega)).trans ((Below.block HED.out.1 _ (heap_lt HN1.out)).trans HN1.out)
      · rw [hsz2, HED.out.2.2]
    have HN4 := Lib.hid (show n ≤ 3 by omega)
    clear hg2 hgb2 hsz2 hk2 hn4
    go_wp2_with (fail)
    go_loopw [12] (fun iv wr => ∃ (i kq : Nat) (v : Value) (acc : Fo) (xs : List Value), iv = .int .i64 (i : Int) ∧ RD w w3 wr E kq (w.heap.size + 1) 3 0 [] v acc xs ∧ acc.len = i ∧ i ≤ n ∧ k2 ≤ kq ∧ fsize acc ≤ 4 * (kq - k2) + i ∧ lenG acc ∧ closedL 0 0 V acc = true) (fun iv _ => match iv with | .int _ x => n - x.toNat | _ => 0)
    case atStart => exact ⟨0, k2, _, .nil, [], rfl, HR0.out.1, rfl, Nat.zero_le _, Nat.le_refl _, by simp [fsize, zT], trivial, rfl⟩
    case round =>
      obtain ⟨i, kq, v, acc, xs, rfl, hrd, hai, hia, hkq, hfs, hlt, hcl⟩ := hrel
      have HRD := Lib.hid hrd
      have HAC := Lib.hid (And.intro hai (And.intro hfs (And.intro hlt hcl)))
      obtain ⟨A5, c5, rfl, hc5⟩ := own_shape hrd.own
      obtain ⟨g3, z3⟩ := hrd.cell
      clear hrd hai hfs hlt hcl hc5
      by_cases hltar : i < n
      · have hge : decide ((i : Int) < (n : Int)) = true := by rw [decide_eq_true_eq]; omega
        have hwd := Hd1.out
        have hn3 := HN4.out
        go_wp2_with (fail)
        have HRd := Lib.hid HRD.out.drew
        have HCa := Lib.hid (show Calls Tryz.prog 59 (AD E (d - 1) V) wr.drew (GP E (zT (d - 1)) V kq wr.drew) from HT.out kq (d - 1) V wr.drew HRd.out.gen (by have := HKL.out; have := HK2.out; omega) hV0 hV1 (by omega) (by have := HKL.out; omega) (by omega))
        go_region_law (first
          | (go_simp; go_at_call 59; (with_reducible refine HCa.out.mono ?_); rintro e w4 ⟨k4, q1, o1, t1, kids1, A1, cc1, ys1, rfl, b1, b2, b3, b4, b5, b6, b7, b8, b9⟩; have HB := Lib.hid (And.intro b1 (And.intro b2 (And.intro b3 (And.intro b4 (And.intro b5 (And.intro b6 (And.intro b7 (And.intro b8 b9)))))))); have HR4 := Lib.hid (HRd.out.after b9 b8); clear b1 b2 b3 b4 b5 b6 b7 b8 b9; obtain ⟨g3, z3⟩ := HR4.out.cell; have g4 := (cell_alloc HR4.out (.cells #[.int .i64 q1, .string ⟨t1.toArray⟩, .int .i64 o1, .slice A1 kids1.len cc1] 34)).1)
          | (refine step_app _ (by rfl) _ _ _ (by rfl) w3.heap.size 34 i0 _ 4 56 Tryz.underlying32 hi hz0 hz1 hz2 rfl (by decide) (.slice A5 acc.len c5) acc.len xs (by rfl) (HR4.out.own.alloc _) (some ⟨w4.heap.size, 0, none⟩) 1 1 [.int .i64 q1, .string ⟨t1.toArray⟩, .int .i64 o1, .slice A1 kids1.len cc1] (by rfl) (celB (cs := #[.int .i64 q1, .string ⟨t1.toArray⟩, .int .i64 o1, .slice A1 kids1.len cc1]) (heap_alloc_new w4 _) rfl (by decide)) (by intro x hx; simp at hx; rcases hx with rfl | rfl | rfl | rfl <;> rfl) (by have := HAC.out.1; unfold maxLen; omega) (by have := HAC.out.1; omega) (by have := HR4.out.size; simp; omega) ?_; intro v1 w5 ho1 hg1 ha1; obtain ⟨A6, c6, rfl, hc6⟩ := own_shape ho1; have HO := Lib.hid (And.intro ho1 (And.intro hg1 ha1)); obtain ⟨_, _, _, g3, _, _, _, z3⟩ := row4 (HR4.out.boxed hg1); clear ho1 hg1 ha1))
        all_goals
          go_wp2_with (fail)
          obtain ⟨b1, b2, b3, b4, b5, b6, b7, b8, b9⟩ := HB.out
          obtain ⟨a1, a2, a3, a4⟩ := HAC.out
          obtain ⟨ho1, hg1, ha1⟩ := HO.out
          have hP := HRd.out.push (q1 := q1) (o1 := o1) (t1 := t1) b9 b8 b1 b2 b3 hg1 (by simpa using ha1) ho1
          refine ⟨⟨i + 1, k4, _, _, _, rfl, hP, by rw [Fo.len_app, a1]; rfl, hltar, by omega, ?_, lenG_app _ _ a3 b6, ?_⟩, by simp; omega⟩
          · rw [fsize_app]
            simp only [Fo.one, fsize]
            omega
          · rw [closedL_app, a4, closed1_one b7]
            rfl
      · have hge : decide ((i : Int) < (n : Int)) = false := by rw [decide_eq_false_iff_not]; omega
        have hge2 : decide (i < n) = false := by rw [decide_eq_false_iff_not]; omega
        have hN2 := (HRD.out.old w.heap.size (Nat.le_refl _) (by have := HR0.out.2.2; omega) (by omega)).trans HR0.out.2.1
        obtain ⟨b0, b1, b2, b3, y0, y1, y2, y3⟩ := row4 hN2
        obtain ⟨f0, f1, f2, f3, _⟩ := row4 HRD.out.blkM
        have HN2 := Lib.hid hN2
        clear hN2
        go_wp2_with (fail)
        obtain ⟨m0, m1, m2, m3, _⟩ := row4 (s4 HN2.out (.int .i64 3) (.string ⟨#[]⟩) (.int .i64 0) (.slice A5 acc.len c5))
        refine bodyPost_ret (v := .agg #[.int .i64 3, .string ⟨#[]⟩, .int .i64 0, .slice A5 acc.len c5]) (by simp [results, Tryz.results59, go_sem, m0, m1, m2, m3]) rfl ?_
        obtain ⟨a1, a2, a3, a4⟩ := HAC.out
        have hkl := HKL.out
        have hk2 := HK2.out
        have hn3 := HN4.out
        exact RD.out (t := []) HRD.out (by have := HR0.out.2.2; omega) (by omega) ⟨by omega, fun h0 => by omega⟩ ⟨⟨by simp, by first | exact bar_nil _ | exact bar_ne (by decide)⟩, a3, trivial⟩ (closed1_kids (by decide) (by decide) a4)
  · have hkl : (0 : Int) < d ∧ k1 = k + 1 ∧ k < E.len := by have := HR.out; omega
    have HKL := Lib.hid hkl
    clear hkl
    have hs1 := HS1.out
    go_wp2_with (fail)
    clear hs1
    have hD := bh_alloc (BH.refl w1) (.cells #[.int .i64 3, .string ⟨#[]⟩, .int .i64 0, .slice none 0 0] 34)
    have eD := heap_alloc_new w1 (.cells #[.int .i64 3, .string ⟨#[]⟩, .int .i64 0, .slice none 0 0] 34)
    have hsD : (w1.alloc (.cells #[.int .i64 3, .string ⟨#[]⟩, .int .i64 0, .slice none 0 0] 34)).heap.size = w.heap.size + 2 := by simp [HS1.out]
    rw [HS1.out] at eD
    have HED := Lib.hid (And.intro hD (And.intro eD hsD))
    clear hD eD hsD
    refine (next_genD 4 (HG1'.out.below HED.out.1) (by decide) (by decide)).mono ?_
    rintro e3 w3 ⟨n, k2, rfl, hn4, hg2, hgb2, hsz2, hk2⟩
    have HK2 := Lib.hid (show k1 ≤ k2 by omega)
    have HR0 : Hid (RD w w3 w3 E k2 (w.heap.size + 1) 3 0 [] (.slice none 0 0) .nil [] ∧ w3.heap[w.heap.size]? = some (.cells #[.int .i64 0, .string ⟨#[]⟩, .int .i64 0, .slice none 0 0] 34 (0, 0)) ∧ w3.heap.size = w.heap.size + 2) := by
      refine Lib.hid ⟨⟨⟨k, HG0.out⟩, hg2, gb_trans (gb_trans HGB.out (gb_below HED.out.1 _)) hgb2, ?_, fun x _ _ _ => rfl, World.ownsRow_nil _ _ _ _, rfl, ⟨by omega, ?_⟩, Nat.le_refl _⟩, ?_, ?_⟩
      · exact (hgb2.block _ (by rw [HED.out.2.2]; omega) (by simp; have := HG0.out.lt; omega)).trans HED.out.2.1
      · rw [hsz2, HED.out.2.2]; omega
      · exact (hgb2.block _ (by rw [HED.out.2.2]; omega) (by simp; have := HG0.out.lt; omega)).trans ((Below.block HED.out.1 _ (heap_lt HN1.out)).trans HN1.out)
      · rw [hsz2, HED.out.2.2]
    have HN4 := Lib.hid (show n ≤ 3 by omega)
    clear hg2 hgb2 hsz2 hk2 hn4
    go_wp2_with (fail)
    go_loopw [12] (fun iv wr => ∃ (i kq : Nat) (v : Value) (acc : Fo) (xs : List Value), iv = .int .i64 (i : Int) ∧ RD w w3 wr E kq (w.heap.size + 1) 3 0 [] v acc xs ∧ acc.len = i ∧ i ≤ n ∧ k2 ≤ kq ∧ fsize acc ≤ 4 * (kq - k2) + i ∧ lenG acc ∧ closedL 0 0 V acc = true) (fun iv _ => match iv with | .int _ x => n - x.toNat | _ => 0)
    case atStart => exact ⟨0, k2, _, .nil, [], rfl, HR0.out.1, rfl, Nat.zero_le _, Nat.le_refl _, by simp [fsize, zT], trivial, rfl⟩
    case round =>
      obtain ⟨i, kq, v, acc, xs, rfl, hrd, hai, hia, hkq, hfs, hlt, hcl⟩ := hrel
      have HRD := Lib.hid hrd
      have HAC := Lib.hid (And.intro hai (And.intro hfs (And.intro hlt hcl)))
      obtain ⟨A5, c5, rfl, hc5⟩ := own_shape hrd.own
      obtain ⟨g3, z3⟩ := hrd.cell
      clear hrd hai hfs hlt hcl hc5
      by_cases hltar : i < n
      · have hge : decide ((i : Int) < (n : Int)) = true := by rw [decide_eq_true_eq]; omega
        have hwd := Hd1.out
        have hn3 := HN4.out
        go_wp2_with (fail)
        have HRd := Lib.hid HRD.out.drew
        have HCa := Lib.hid (show Calls Tryz.prog 59 (AD E (d - 1) V) wr.drew (GP E (zT (d - 1)) V kq wr.drew) from HT.out kq (d - 1) V wr.drew HRd.out.gen (by have := HKL.out; have := HK2.out; omega) hV0 hV1 (by omega) (by have := HKL.out; omega) (by omega))
        go_region_law (first
          | (go_simp; go_at_call 59; (with_reducible refine HCa.out.mono ?_); rintro e w4 ⟨k4, q1, o1, t1, kids1, A1, cc1, ys1, rfl, b1, b2, b3, b4, b5, b6, b7, b8, b9⟩; have HB := Lib.hid (And.intro b1 (And.intro b2 (And.intro b3 (And.intro b4 (And.intro b5 (And.intro b6 (And.intro b7 (And.intro b8 b9)))))))); have HR4 := Lib.hid (HRd.out.after b9 b8); clear b1 b2 b3 b4 b5 b6 b7 b8 b9; obtain ⟨g3, z3⟩ := HR4.out.cell; have g4 := (cell_alloc HR4.out (.cells #[.int .i64 q1, .string ⟨t1.toArray⟩, .int .i64 o1, .slice A1 kids1.len cc1] 34)).1)
          | (refine step_app _ (by rfl) _ _ _ (by rfl) w3.heap.size 34 i0 _ 4 56 Tryz.underlying32 hi hz0 hz1 hz2 rfl (by decide) (.slice A5 acc.len c5) acc.len xs (by rfl) (HR4.out.own.alloc _) (some ⟨w4.heap.size, 0, none⟩) 1 1 [.int .i64 q1, .string ⟨t1.toArray⟩, .int .i64 o1, .slice A1 kids1.len cc1] (by rfl) (celB (cs := #[.int .i64 q1, .string ⟨t1.toArray⟩, .int .i64 o1, .slice A1 kids1.len cc1]) (heap_alloc_new w4 _) rfl (by decide)) (by intro x hx; simp at hx; rcases hx with rfl | rfl | rfl | rfl <;> rfl) (by have := HAC.out.1; unfold maxLen; omega) (by have := HAC.out.1; omega) (by have := HR4.out.size; simp; omega) ?_; intro v1 w5 ho1 hg1 ha1; obtain ⟨A6, c6, rfl, hc6⟩ := own_shape ho1; have HO := Lib.hid (And.intro ho1 (And.intro hg1 ha1)); obtain ⟨_, _, _, g3, _, _, _, z3⟩ := row4 (HR4.out.boxed hg1); clear ho1 hg1 ha1))
        all_goals
          go_wp2_with (fail)
          obtain ⟨b1, b2, b3, b4, b5, b6, b7, b8, b9⟩ := HB.out
          obtain ⟨a1, a2, a3, a4⟩ := HAC.out
          obtain ⟨ho1, hg1, ha1⟩ := HO.out
          have hP := HRd.out.push (q1 := q1) (o1 := o1) (t1 := t1) b9 b8 b1 b2 b3 hg1 (by simpa using ha1) ho1
          refine ⟨⟨i + 1, k4, _, _, _, rfl, hP, by rw [Fo.len_app, a1]; rfl, hltar, by omega, ?_, lenG_app _ _ a3 b6, ?_⟩, by simp; omega⟩
          · rw [fsize_app]
            simp only [Fo.one, fsize]
            omega
          · rw [closedL_app, a4, closed1_one b7]
            rfl
      · have hge : decide ((i : Int) < (n : Int)) = false := by rw [decide_eq_false_iff_not]; omega
        have hge2 : decide (i < n) = false := by rw [decide_eq_false_iff_not]; omega
        have hN2 := (HRD.out.old w.heap.size (Nat.le_refl _) (by have := HR0.out.2.2; omega) (by omega)).trans HR0.out.2.1
        obtain ⟨b0, b1, b2, b3, y0, y1, y2, y3⟩ := row4 hN2
        obtain ⟨f0, f1, f2, f3, _⟩ := row4 HRD.out.blkM
        have HN2 := Lib.hid hN2
        clear hN2
        go_wp2_with (fail)
        obtain ⟨m0, m1, m2, m3, _⟩ := row4 (s4 HN2.out (.int .i64 3) (.string ⟨#[]⟩) (.int .i64 0) (.slice A5 acc.len c5))
        refine bodyPost_ret (v := .agg #[.int .i64 3, .string ⟨#[]⟩, .int .i64 0, .slice A5 acc.len c5]) (by simp [results, Tryz.results59, go_sem, m0, m1, m2, m3]) rfl ?_
        obtain ⟨a1, a2, a3, a4⟩ := HAC.out
        have hkl := HKL.out
        have hk2 := HK2.out
        have hn3 := HN4.out
        exact RD.out (t := []) HRD.out (by have := HR0.out.2.2; omega) (by omega) ⟨by omega, fun h0 => by omega⟩ ⟨⟨by simp, by first | exact bar_nil _ | exact bar_ne (by decide)⟩, a3, trivial⟩ (closed1_kids (by decide) (by decide) a4)
  · have hkl : (0 : Int) < d ∧ k1 = k + 1 ∧ k < E.len := by have := HR.out; omega
    have HKL := Lib.hid hkl
    clear hkl
    go_wp2_with (fail)
    refine (anyC _).mono ?_
    rintro e2 w2 ⟨rfl, hb2⟩
    have hD := bh_alloc hb2 (.cells #[.int .i64 0, .string ⟨#[]⟩, .int .i64 0, .slice none 0 0] 34)
    have eD := heap_alloc_new w2 (.cells #[.int .i64 0, .string ⟨#[]⟩, .int .i64 0, .slice none 0 0] 34)
    have HED := Lib.hid (And.intro hD (And.intro eD (And.intro (Below.size hb2) (show (w2.alloc (.cells #[.int .i64 0, .string ⟨#[]⟩, .int .i64 0, .slice none 0 0] 34)).heap.size = w2.heap.size + 1 by simp))))
    clear hD eD hb2
    go_wp2_with (fail)
    refine (next_genD 2 (HG1'.out.below HED.out.1) (by decide) (by decide)).mono ?_
    rintro e3 w3 ⟨n, k2, rfl, hn2, hg2, hgb2, hsz2, hk2⟩
    have HK2 := Lib.hid (show k1 ≤ k2 by omega)
    have HG2 := Lib.hid hg2
    have HGB2 := Lib.hid (gb_trans (gb_trans HGB.out (gb_below HED.out.1 _)) hgb2)
    have HS2 := Lib.hid (show w.heap.size + 1 ≤ w2.heap.size ∧ w3.heap.size = w2.heap.size + 1 from ⟨by have := HED.out.2.2.1; have := HS1.out; omega, hsz2.trans HED.out.2.2.2⟩)
    have HN2 := Lib.hid ((hgb2.block _ (by rw [HED.out.2.2.2]; have := HS2.out; omega) (by simp; have := HG0.out.lt; omega)).trans ((Below.block HED.out.1 _ (heap_lt HN1.out)).trans HN1.out))
    have HM2 := Lib.hid ((hgb2.block w2.heap.size (by rw [HED.out.2.2.2]; omega) (by simp; have := HG0.out.lt; have := HS2.out; omega)).trans HED.out.2.1)
    clear hg2 hgb2 hsz2 hk2
    obtain ⟨x0, x1, x2, x3, z0, z1, z2, z3⟩ := row4 HM2.out
    go_upto_if 103 with (fail)
    go_cut [] (fun wx => ∃ (k3 : Nat) (q o : Int) (t : List UInt8) (kids : Fo) (A : Option Addr) (c : Nat) (ys : List Value), Hid (wx.heap[w2.heap.size]? = some (.cells #[.int .i64 q, .string ⟨t.toArray⟩, .int .i64 o, .slice A kids.len c] 34 (0, 0)) ∧
        wx.heap[w.heap.size]? = some (.cells #[.int .i64 0, .string ⟨#[]⟩, .int .i64 0, .slice none 0 0] 34 (0, 0)) ∧ k2 ≤ k3 ∧ GenD wx E k3 ∧ w.grownBy wx (some E.b) ∧ kids.len ≤ c ∧ readsAt wx (fun x => w.heap.size < x) A kids.len ys ∧ rowT wx (fun x => w.heap.size < x) kids ys ∧
        fsize kids ≤ 4 * (k3 - k2) ∧ lenG (.one q t kids o) ∧ closed1 q o kids V = true))
    case first =>
      by_cases hn1 : n = 1
      · subst hn1
        go_wp2_with (fail)
        refine (HT.out k2 1 0 w3 HG2.out (by have := HKL.out; have := HK2.out; omega) (by decide) (by decide) (by decide) (by decide) (by decide)).mono ?_
        rintro e4 w4 ⟨k4, q1, o1, t1, kids1, A1, c1, ys1, rfl, g1, g2, g3, g4, g5, g6, g7, g8, g9⟩
        have HM4 := Lib.hid ((g9.block w2.heap.size (heap_lt HM2.out) (by simp; have := HG0.out.lt; have := HS2.out; omega)).trans HM2.out)
        have HN4 := Lib.hid ((g9.block w.heap.size (heap_lt HN2.out) (by simp; have := HG0.out.lt; omega)).trans HN2.out)
        have HGB4 := Lib.hid (gb_trans HGB2.out g9)
        have HA := Lib.hid (And.intro g1 (And.intro g2 (And.intro g3 (And.intro g4 (And.intro g5 (And.intro g6 (And.intro g7 g8)))))))
        have HS4 := Lib.hid g9.size
        clear g1 g2 g3 g4 g5 g6 g7 g8 g9 x0 x1 x2 x3 z0 z1 z2 z3
        obtain ⟨x0, x1, x2, x3, z0, z1, z2, z3⟩ := row4 HM4.out
        go_wp2_with (fail)
        go_meet
        have hs2 := HS2.out
        have hs4 := HS4.out
        have hgb := HGB4.out
        have hb0 := HG0.out.lt
        have hss : ∀ (x y z u : Value), ((((w4.setCell ⟨w2.heap.size, 0, none⟩ x).setCell ⟨w2.heap.size, 1, none⟩ y).setCell ⟨w2.heap.size, 2, none⟩ z).setCell ⟨w2.heap.size, 3, none⟩ u).heap.size = w4.heap.size := fun _ _ _ _ => by simp [size_set]
        refine ⟨k4, q1, o1, t1, kids1, A1, c1, ys1, Lib.hid ⟨s4 HM4.out _ _ _ _, (s4_far (by omega) _ _ _ _).trans HN4.out, HA.out.2.2.2.1, HG0.out.old HA.out.2.2.2.2.2.2.2 (Nat.le_of_eq (hss _ _ _ _).symm) (fun x hx => s4_far (by omega) _ _ _ _), s4_gb HGB4.out (by omega) _ _ _ _, HA.out.1, ?_, ?_, HA.out.2.2.2.2.1.1, HA.out.2.2.2.2.2.1, closed1_mono hV0 HA.out.2.2.2.2.2.2.1⟩⟩
        · exact HA.out.2.1.keep (Nat.le_of_eq (hss _ _ _ _).symm) fun x hx hl => ⟨s4_far (by omega) _ _ _ _, by omega⟩
        · exact HA.out.2.2.1.keep (Nat.le_of_eq (hss _ _ _ _).symm) (fun x hx hl => ⟨s4_far (by omega) _ _ _ _, by omega⟩) _
      · have hn0 : n = 0 := by omega
        subst hn0
        go_wp2_with (fail)
        go_meet
        exact ⟨k2, 0, 0, [], .nil, none, 0, [], Lib.hid ⟨HM2.out, HN2.out, Nat.le_refl _, HG2.out, HGB2.out, Nat.le_refl _, reads_nil _ _, rfl, by simp [fsize, zT], ⟨⟨by simp, by first | exact bar_nil _ | exact bar_ne (by decide)⟩, trivial, trivial⟩, closed1_kids (by decide) (by decide) rfl⟩⟩
    case rest =>
    clear x0 x1 x2 x3 z0 z1 z2 z3 hn2
    obtain ⟨k3, q, o, t, kids, A, c, ys, HC⟩ := hcut
    go_upto_region 35 with (fail)
    have HMd := Lib.hid (show wc.drew.heap[w2.heap.size]? = _ from HC.out.1)
    obtain ⟨x0, x1, x2, x3, _⟩ := row4 HMd.out
    have hwd := Hd1.out
    have hwV := HV1.out
    have HCa := Lib.hid (show Calls Tryz.prog 59 (AD E (d - 1) (V + 1)) wc.drew (GP E (zT (d - 1)) (V + 1) k3 wc.drew) from HT.out k3 (d - 1) (V + 1) wc.drew HC.out.2.2.2.1.drew (by have := HKL.out; have := HK2.out; have := HC.out.2.2.1; omega) (by omega) (by have := HKL.out; omega) (by omega) (by have := HKL.out; omega) (by omega))
    go_region_law (first
      | (go_simp; go_at_call 59; (with_reducible refine HCa.out.mono ?_); rintro e w4 ⟨k4, q1, o1, t1, kids1, A1, cc1, ys1, rfl, b1, b2, b3, b4, b5, b6, b7, b8, b9⟩; have HB := Lib.hid (And.intro b1 (And.intro b2 (And.intro b3 (And.intro b4 (And.intro b5 (And.intro b6 (And.intro b7 (And.intro b8 b9)))))))); have HM4 := Lib.hid ((b9.block w2.heap.size (heap_lt HMd.out) (by simp; have := HG0.out.lt; have := HS2.out; omega)).trans HMd.out); clear b1 b2 b3 b4 b5 b6 b7 b8 b9; obtain ⟨g0, g1, g2, g3, _⟩ := row4 HM4.out)
      | (go_simp; go_at_call 97; (refine (existsC2 _ _ _ _ _ _ _ _ _ _ _ _ _).mono ?_); rintro e w5 ⟨gx, hgx, rfl, hP, hb5⟩; have HX5 := Lib.hid (And.intro hgx (And.intro hP hb5)); have HN5 := Lib.hid ((Below.block hb5 _ (by have := HB.out.2.2.2.2.2.2.2.2.size; have := heap_lt (show wc.drew.heap[w.heap.size]? = _ from HC.out.2.1); omega)).trans ((HB.out.2.2.2.2.2.2.2.2.block w.heap.size (heap_lt HC.out.2.1) (by simp; have := HG0.out.lt; omega)).trans HC.out.2.1)); clear hgx hP hb5; obtain ⟨c0, c1, c2, c3, y0, y1, y2, y3⟩ := row4 HN5.out))
    all_goals
      go_wp2_with (fail)
      obtain ⟨m0, m1, m2, m3, _⟩ := row4 (s4 HN5.out (.int .i64 6) (.string ⟨#[]⟩) (.int .i64 0) (.slice (some ⟨gx, 0, none⟩) 2 2))
      refine bodyPost_ret (v := .agg #[.int .i64 6, .string ⟨#[]⟩, .int .i64 0, .slice (some ⟨gx, 0, none⟩) 2 2]) (by simp [results, Tryz.results59, go_sem, m0, m1, m2, m3]) rfl ?_
      obtain ⟨b1, b2, b3, b4, b5, b6, b7, b8, b9⟩ := HB.out
      obtain ⟨p1, p2, p3, p4, p5, p6, p7, p8, p9, p10, p11⟩ := HC.out
      obtain ⟨u1, u2, u3⟩ := HX5.out
      have hs9 : wc.heap.size ≤ w4.heap.size := b9.size
      have hlw : w.heap.size < wc.heap.size := heap_lt p2
      have hkl := HKL.out
      have hk2 := HK2.out
      obtain ⟨r1, r2⟩ := row_far (w1 := wc.drew) (N := w.heap.size) b9 (by have := HG0.out.lt; omega) (fun x hx => hx) (p7.keep (w' := wc.drew) (Nat.le_refl _) fun x hx _ => ⟨rfl, hx⟩) (p8.keep (w := wc) (w' := wc.drew) (Nat.le_refl _) (fun x hx _ => ⟨rfl, hx⟩) _)
      obtain ⟨r3, r4⟩ := row_bh (N := w.heap.size) u3 (fun x hx => hx) r1 r2
      obtain ⟨r5, r6⟩ := row_bh (N := w.heap.size) u3 (fun x (hx : wc.drew.heap.size ≤ x) => Nat.lt_of_lt_of_le hlw hx) b2 b3
      exact GP.box (kids := .cons q t kids o (.cons q1 t1 kids1 o1 .nil)) (t := []) HG0.out (b8.below u3) (gb_trans (gb_trans (gb_drew p5) b9) (gb_below u3 _)) (Nat.le_refl _) (blk_reads u2 (by omega)) (row_two p6 r3 r4 b1 r5 r6) (by omega) ⟨by simp only [fsize]; omega, fun h0 => by omega⟩ ⟨⟨by simp, by first | exact bar_nil _ | exact bar_ne (by decide)⟩, ⟨p10.1, p10.2.1, b6.1, b6.2.1, trivial⟩, trivial⟩ (closed1_ex p11 b7)
  · have hkl : k1 = k + 1 ∧ k < E.len := by have := HR.out; omega
    have HKL := Lib.hid hkl
    clear hkl
    go_wp2_with (fail)
    refine (next_genD 4 HG1'.out (by decide) (by decide)).mono ?_
    rintro e2 w2 ⟨n, k2, rfl, hn4, hg2, hgb2, hsz2, hk2⟩
    have HK2 := Lib.hid (show k1 ≤ k2 by omega)
    have HG2 := Lib.hid hg2
    have HGB2 := Lib.hid (gb_trans HGB.out hgb2)
    have HN2 := Lib.hid ((hgb2.block _ (heap_lt HN1.out) (by simp; have := HG0.out.lt; omega)).trans HN1.out)
    have HS2 := Lib.hid (show w2.heap.size = w.heap.size + 1 from hsz2.trans HS1.out)
    clear hg2 hgb2 hsz2 hk2 hn4
    by_cases hn0 : n = 0
    · subst hn0
      go_wp2_with (fail)
      refine (neverC _).mono ?_
      rintro e3 w3 ⟨rfl, hb3⟩
      have HG3 := Lib.hid (HG2.out.below hb3)
      have HGB3 := Lib.hid (gb_trans HGB2.out (gb_below hb3 _))
      have HN3 := Lib.hid ((Below.block hb3 _ (heap_lt HN2.out)).trans HN2.out)
      clear hb3
      obtain ⟨b0, b1, b2, b3, y0, y1, y2, y3⟩ := row4 HN3.out
      go_wp2_with (fail)
      obtain ⟨m0, m1, m2, m3, _⟩ := row4 (s4 HN3.out (.int .i64 1) (.string ⟨#[]⟩) (.int .i64 0) (.slice none 0 0))
      refine bodyPost_ret (v := .agg #[.int .i64 1, .string ⟨#[]⟩, .int .i64 0, .slice none 0 0]) (by simp [results, Tryz.results59, go_sem, m0, m1, m2, m3]) rfl ?_
      exact GP.box (kids := .nil) (t := []) HG0.out HG3.out HGB3.out (Nat.le_refl _) (reads_nil _ _) rfl (by have := HKK.out.1; have := HK2.out; omega) (by simp [fsize, zT]) ⟨⟨by simp, by first | exact bar_nil _ | exact bar_ne (by decide)⟩, trivial, trivial⟩ (closed1_kids (by decide) (by decide) rfl)
    · have hnI : ((n : Int) == 0) = false := by simpa using hn0
      have hnI2 : decide ((n : Int) = 0) = false := by simpa using hn0
      go_wp2_with (fail)
      refine (anyC _).mono ?_
      rintro e3 w3 ⟨rfl, hb3⟩
      have HB3 := Lib.hid hb3
      clear hb3
      go_wp2_with (fail)
      refine (varC _ _).mono ?_
      rintro e4 w4 ⟨rfl, hb4⟩
      have HB4 := Lib.hid (HB3.out.trans hb4)
      clear hb4
      go_wp2_with (fail)
      refine (namedC _ _ _ _ _).mono ?_
      rintro e5 w5 ⟨rfl, hb5⟩
      have hP := heap_alloc_new w4 (.cells #[.int .i64 5, .string ⟨#[]⟩, .int .i64 0, .slice none 0 0] 34)
      have HP5 := Lib.hid ((Below.block hb5 _ (heap_lt hP)).trans hP)
      have HB5 := Lib.hid ((bh_alloc HB4.out (.cells #[.int .i64 5, .string ⟨#[]⟩, .int .i64 0, .slice none 0 0] 34)).trans hb5)
      clear hb5 hP
      go_wp2_with (fail)
      refine (existsC2 _ _ _ _ _ _ _ _ _ _ _ _ _).mono ?_
      rintro e6 w6 ⟨gx, hgx, rfl, hP6, hb6⟩
      have HX6 := Lib.hid (And.intro hgx (And.intro hP6 ((Below.block hb6 _ (heap_lt HP5.out)).trans HP5.out)))
      have HB6 := Lib.hid (HB5.out.trans hb6)
      have HN6 := Lib.hid ((Below.block HB6.out _ (heap_lt HN2.out)).trans HN2.out)
      have HS6 := Lib.hid (show w.heap.size < w4.heap.size ∧ w4.heap.size ≤ w5.heap.size from ⟨by have := Below.size HB4.out; have := HS2.out; omega, by have := Below.size (show BH w4 w4 from BH.refl _); have := heap_lt HP5.out; omega⟩)
      clear hgx hP6 hb6
      obtain ⟨b0, b1, b2, b3, y0, y1, y2, y3⟩ := row4 HN6.out
      go_wp2_with (fail)
      obtain ⟨m0, m1, m2, m3, _⟩ := row4 (s4 HN6.out (.int .i64 6) (.string ⟨#[]⟩) (.int .i64 0) (.slice (some ⟨gx, 0, none⟩) 2 2))
      refine bodyPost_ret (v := .agg #[.int .i64 6, .string ⟨#[]⟩, .int .i64 0, .slice (some ⟨gx, 0, none⟩) 2 2]) (by simp [results, Tryz.results59, go_sem, m0, m1, m2, m3]) rfl ?_
      obtain ⟨u1, u2, u3⟩ := HX6.out
      have hs6 := HS6.out
      have hkl := HKL.out
      have hk2 := HK2.out
      exact GP.box (kids := .cons 0 [] .nil 0 (.cons 2 [66, 111, 120] (.cons 5 [] .nil 0 .nil) 0 .nil)) (t := []) HG0.out (HG2.out.below HB6.out) (gb_trans HGB2.out (gb_below HB6.out _)) (Nat.le_refl _) (blk_reads u2 (by omega)) (row_two (Nat.le_refl _) (reads_nil _ _) rfl (Nat.le_refl _) (blk_reads u3 (by omega)) (row_one (Nat.le_refl _) (reads_nil _ _) rfl)) (by omega) ⟨by simp only [fsize]; omega, fun _ => by simp [fsize]⟩ ⟨⟨by simp, by first | exact bar_nil _ | exact bar_ne (by decide)⟩, ⟨⟨by simp, by first | exact bar_nil _ | exact bar_ne (by decide)⟩, trivial, ⟨by simp, by first | exact bar_nil _ | exact bar_ne (by decide)⟩, ⟨⟨by simp, by first | exact bar_nil _ | exact bar_ne (by decide)⟩, trivial, trivial⟩, trivial⟩, trivial⟩ (closed1_ex (closed1_kids (by decide) (by decide) rfl) (closed1_kids (by decide) (by decide) (closed1_one (closed1_var (by omega)))))
end Go.Proofs.YtpkiheenkpcebaaGreatDoor
