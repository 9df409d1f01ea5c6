/- telmake.arg: the walk. No condition but what it reads. telmake.term: what it calls. No condition but what it reads. -/
import Derived.Test.YtpkiheenkpcebaaGreatDoorMbk
set_option linter.unusedVariables false
set_option linter.unusedSimpArgs false
namespace Go.Proofs.YtpkiheenkpcebaaGreatDoor
open Go.RowKit Sx

/-- what an inner call answered, through the result's box -/
theorem GP.pass {E : EG} {V V' : Int} {k k1 : Nat} {w w1 w2 : World} {e : Ending} (h : GP E V' k1 w1 e w2) {k0 : Nat} (h0 : GenD w E k0) (hw : w.grownBy w1 (some E.b)) (hs : w.heap.size < w1.heap.size) (hV : V' ≤ V) (hk : k ≤ k1)
    (hN : w1.heap[w.heap.size]? = some (.cells #[.int .i64 0, .string ⟨#[]⟩, .int .i64 0, .slice none 0 0] 34 (0, 0))) :
    ∃ (q o : Int) (t : List UInt8) (kids : Fo) (A : Option Addr) (c : Nat), e = .returned (.agg #[.int .i64 q, .string ⟨t.toArray⟩, .int .i64 o, .slice A kids.len c]) ∧ w2.heap[w.heap.size]? = some (.cells #[.int .i64 0, .string ⟨#[]⟩, .int .i64 0, .slice none 0 0] 34 (0, 0)) ∧
      GP E V k w (.returned (.agg #[.int .i64 q, .string ⟨t.toArray⟩, .int .i64 o, .slice A kids.len c])) ((((w2.setCell ⟨w.heap.size, 0, none⟩ (.int .i64 q)).setCell ⟨w.heap.size, 1, none⟩ (.string ⟨t.toArray⟩)).setCell ⟨w.heap.size, 2, none⟩ (.int .i64 o)).setCell ⟨w.heap.size, 3, none⟩ (.slice A kids.len c)) := by
  obtain ⟨k', q, o, t, kids, A, c, ys, rfl, b1, b2, b3, b4, b5, b6, b7, b8, b9⟩ := h
  have hb := h0.lt
  exact ⟨q, o, t, kids, A, c, rfl, (b9.block _ (heap_lt hN) (by simp; omega)).trans hN, GP.box h0 b8 (gb_trans hw b9) b1 (b2.keep (Nat.le_refl _) fun x hx _ => ⟨rfl, by omega⟩) (b3.keep (Nat.le_refl _) (fun x hx _ => ⟨rfl, by omega⟩) _) (by omega) (by omega) b6 (closed1_mono hV b7)⟩

set_option maxHeartbeats 8000000 in
set_option maxRecDepth 100000 in
theorem arg_step (E : EG) (M : Nat) (hNm : CNm E (M + 1)) (hT : CT E M) : CA E (M + 1) := by
  intro k d V w hG hM hV0 hV1 hVd hd0 hd1
  have HNm := Lib.hid hNm
  have HT := Lib.hid hT
  have hX := bh_alloc (BH.refl w) (.cells #[.int .i64 0, .string ⟨#[]⟩, .int .i64 0, .slice none 0 0] 34)
  have HG0 := Lib.hid hG
  have HG1 := Lib.hid (hG.below hX)
  have HN := Lib.hid (heap_alloc_new w (.cells #[.int .i64 0, .string ⟨#[]⟩, .int .i64 0, .slice none 0 0] 34))
  have HX := Lib.hid hX
  have Hd1 := Lib.hid (show IntKind.i64.wrap (d - 1) = d - 1 from (IntKind.wrap_i64 _).trans (by omega))
  clear hNm hT hG hX
  go_enter Tryz.func62, Tryz.ntmps62
  go_wp2_with (fail)
  refine (next_genD 6 HG1.out (by omega) (by omega)).mono ?_
  rintro e1 w1 ⟨r, k1, rfl, hr, hg1, hgb, hsz, hk1⟩
  have HG1' := Lib.hid hg1
  have HGB := Lib.hid (gb_trans (gb_below HX.out (some E.b)) hgb)
  have HN1 := Lib.hid ((hgb.block w.heap.size (by simp) (by simp; have := HG0.out.lt; omega)).trans HN.out)
  have hs1 : w1.heap.size = w.heap.size + 1 := by rw [hsz]; simp
  have HS1 := Lib.hid hs1
  have hkk : k ≤ k1 ∧ (r = 0 ∨ k1 = k + 1 ∧ k < E.len) := by
    rcases hk1 with ⟨a, b⟩ | ⟨a, b, c⟩
    · exact ⟨by omega, .inr ⟨b, a⟩⟩
    · exact ⟨by omega, .inl c⟩
  have HKK := Lib.hid hkk
  clear hg1 hgb hsz hs1 hk1 hkk
  by_cases hc1 : r < 2 ∧ 0 < V
  · obtain ⟨hr2, hV2⟩ := hc1
    have t1 : decide ((r : Int) < 2) = true := by rw [decide_eq_true_eq]; omega
    have t2 : decide ((0 : Int) < V) = true := decide_eq_true hV2
    go_wp2_with (fail)
    refine (next_genD V HG1'.out (by omega) (by omega)).mono ?_
    rintro e2 w2 ⟨r2, k2, rfl, hr2, hg2, hgb2, hsz2, hk2⟩
    have HG2 := Lib.hid hg2
    have HGB2 := Lib.hid (gb_trans HGB.out hgb2)
    have HN2 := Lib.hid ((hgb2.block _ (heap_lt HN1.out) (by simp; have := HG0.out.lt; omega)).trans HN1.out)
    have hkk2 : k1 ≤ k2 := by omega
    clear hg2 hgb2 hsz2 hk2
    go_wp2_with (fail)
    refine (varC _ _).mono ?_
    rintro e3 w3 ⟨rfl, hb3⟩
    have HG3 := Lib.hid (HG2.out.below hb3)
    have HGB3 := Lib.hid (gb_trans HGB2.out (gb_below hb3 _))
    have HN3 := Lib.hid ((Below.block hb3 _ (heap_lt HN2.out)).trans HN2.out)
    clear hb3
    obtain ⟨b0, b1, b2, b3, y0, y1, y2, y3⟩ := row4 HN3.out
    go_wp2_with (fail)
    obtain ⟨m0, m1, m2, m3, _⟩ := row4 (s4 HN3.out (.int .i64 5) (.string ⟨#[]⟩) (.int .i64 (r2 : Int)) (.slice none 0 0))
    refine bodyPost_ret (v := .agg #[.int .i64 5, .string ⟨#[]⟩, .int .i64 (r2 : Int), .slice none 0 0]) (by simp [results, Tryz.results62, go_sem, m0, m1, m2, m3]) rfl ?_
    exact GP.box (kids := .nil) (t := []) HG0.out HG3.out HGB3.out (Nat.le_refl _) (reads_nil _ _) rfl (by have := HKK.out.1; omega) (by simp [fsize]) ⟨⟨by simp, by first | exact bar_nil _ | exact bar_ne (by decide)⟩, trivial, trivial⟩ (closed1_var hr2)
  have t12 : decide ((r : Int) < 2) = false ∨ decide ((0 : Int) < V) = false := by
    by_cases h : r < 2
    · exact .inr (by rw [decide_eq_false_iff_not]; exact fun h2 => hc1 ⟨h, h2⟩)
    · exact .inl (by rw [decide_eq_false_iff_not]; omega)
  have T12 := Lib.hid t12
  clear hc1 t12
  by_cases hd : d ≤ 0
  · have t3 : decide (d ≤ 0) = true := decide_eq_true hd
    rcases T12.out with t1 | t2
    · go_wp2_with (fail)
      have HGd := Lib.hid HG1'.out.drew
      have HNd := Lib.hid (show w1.drew.heap[w.heap.size]? = _ from HN1.out)
      have HGBd := Lib.hid (gb_drew HGB.out)
      have HNE := Lib.hid (show (some w.heap.size : Option Nat) ≠ some E.b by intro e; have := HG0.out.lt; simp at e; omega)
      have hh := HGd.out.leaf.head
      go_region_law (first
        | (go_simp; go_at_call 61; (refine (next_genD 4 HGd.out (by decide) (by decide)).mono ?_); rintro e4 w4 ⟨r4, k4, rfl, hr4, b1, b2, b3, b4⟩; have HNb := Lib.hid ((b2.block w.heap.size (heap_lt HNd.out) HNE.out).trans HNd.out); have HGe := Lib.hid b1; have HGBe := Lib.hid (gb_trans HGBd.out b2); have HKe := Lib.hid (show k1 ≤ k4 by omega); obtain ⟨sx, hsx, hcx⟩ := b1.leaf.row r4 (by omega); have Hsx := Lib.hid hsx; have hh4 := b1.leaf.head; have hr40 : (0 : Int) ≤ (r4 : Int) := (by omega); clear hsx b1 b2 b3 b4 hh)
        | (go_simp; go_at_call 17; (refine (namedC _ _ _ _ _).mono ?_); rintro e5 w5 ⟨rfl, b5⟩; have HGf := Lib.hid (HGe.out.below b5); have HGBf := Lib.hid (gb_trans HGBe.out (gb_below b5 _)); have HNf := Lib.hid ((Below.block b5 _ (heap_lt HNb.out)).trans HNb.out); obtain ⟨c0, c1, c2, c3, z0, z1, z2, z3⟩ := row4 HNf.out; clear b5 hcx hh4))
      all_goals
        go_wp2_with (fail)
        obtain ⟨m0, m1, m2, m3, _⟩ := row4 (s4 HNf.out (.int .i64 2) (.string ⟨sx.toArray⟩) (.int .i64 0) (.slice none 0 0))
        refine bodyPost_ret (v := .agg #[.int .i64 2, .string ⟨sx.toArray⟩, .int .i64 0, .slice none 0 0]) (by simp [results, Tryz.results62, go_sem, m0, m1, m2, m3]) rfl ?_
        exact GP.box (kids := .nil) HG0.out HGf.out HGBf.out (Nat.le_refl _) (reads_nil _ _) rfl (by have := HKK.out.1; have := HKe.out; omega) (by simp [fsize]) ⟨⟨by have := HGf.out.short sx Hsx.out; omega, by first | exact bar_nil _ | exact bar_ne (by decide)⟩, trivial, trivial⟩ (closed1_kids (by decide) (by decide) rfl)
    · by_cases hr2 : r < 2
      · have t1 : decide ((r : Int) < 2) = true := by rw [decide_eq_true_eq]; omega
        go_wp2_with (fail)
        have HGd := Lib.hid HG1'.out.drew
        have HNd := Lib.hid (show w1.drew.heap[w.heap.size]? = _ from HN1.out)
        have HGBd := Lib.hid (gb_drew HGB.out)
        have HNE := Lib.hid (show (some w.heap.size : Option Nat) ≠ some E.b by intro e; have := HG0.out.lt; simp at e; omega)
        have hh := HGd.out.leaf.head
        go_region_law (first
          | (go_simp; go_at_call 61; (refine (next_genD 4 HGd.out (by decide) (by decide)).mono ?_); rintro e4 w4 ⟨r4, k4, rfl, hr4, b1, b2, b3, b4⟩; have HNb := Lib.hid ((b2.block w.heap.size (heap_lt HNd.out) HNE.out).trans HNd.out); have HGe := Lib.hid b1; have HGBe := Lib.hid (gb_trans HGBd.out b2); have HKe := Lib.hid (show k1 ≤ k4 by omega); obtain ⟨sx, hsx, hcx⟩ := b1.leaf.row r4 (by omega); have Hsx := Lib.hid hsx; have hh4 := b1.leaf.head; have hr40 : (0 : Int) ≤ (r4 : Int) := (by omega); clear hsx b1 b2 b3 b4 hh)
          | (go_simp; go_at_call 17; (refine (namedC _ _ _ _ _).mono ?_); rintro e5 w5 ⟨rfl, b5⟩; have HGf := Lib.hid (HGe.out.below b5); have HGBf := Lib.hid (gb_trans HGBe.out (gb_below b5 _)); have HNf := Lib.hid ((Below.block b5 _ (heap_lt HNb.out)).trans HNb.out); obtain ⟨c0, c1, c2, c3, z0, z1, z2, z3⟩ := row4 HNf.out; clear b5 hcx hh4))
        all_goals
          go_wp2_with (fail)
          obtain ⟨m0, m1, m2, m3, _⟩ := row4 (s4 HNf.out (.int .i64 2) (.string ⟨sx.toArray⟩) (.int .i64 0) (.slice none 0 0))
          refine bodyPost_ret (v := .agg #[.int .i64 2, .string ⟨sx.toArray⟩, .int .i64 0, .slice none 0 0]) (by simp [results, Tryz.results62, go_sem, m0, m1, m2, m3]) rfl ?_
          exact GP.box (kids := .nil) HG0.out HGf.out HGBf.out (Nat.le_refl _) (reads_nil _ _) rfl (by have := HKK.out.1; have := HKe.out; omega) (by simp [fsize]) ⟨⟨by have := HGf.out.short sx Hsx.out; omega, by first | exact bar_nil _ | exact bar_ne (by decide)⟩, trivial, trivial⟩ (closed1_kids (by decide) (by decide) rfl)
      · have t1 : decide ((r : Int) < 2) = false := by rw [decide_eq_false_iff_not]; omega
        go_wp2_with (fail)
        have HGd := Lib.hid HG1'.out.drew
        have HNd := Lib.hid (show w1.drew.heap[w.heap.size]? = _ from HN1.out)
        have HGBd := Lib.hid (gb_drew HGB.out)
        have HNE := Lib.hid (show (some w.heap.size : Option Nat) ≠ some E.b by intro e; have := HG0.out.lt; simp at e; omega)
        have hh := HGd.out.leaf.head
        go_region_law (first
          | (go_simp; go_at_call 61; (refine (next_genD 4 HGd.out (by decide) (by decide)).mono ?_); rintro e4 w4 ⟨r4, k4, rfl, hr4, b1, b2, b3, b4⟩; have HNb := Lib.hid ((b2.block w.heap.size (heap_lt HNd.out) HNE.out).trans HNd.out); have HGe := Lib.hid b1; have HGBe := Lib.hid (gb_trans HGBd.out b2); have HKe := Lib.hid (show k1 ≤ k4 by omega); obtain ⟨sx, hsx, hcx⟩ := b1.leaf.row r4 (by omega); have Hsx := Lib.hid hsx; have hh4 := b1.leaf.head; have hr40 : (0 : Int) ≤ (r4 : Int) := (by omega); clear hsx b1 b2 b3 b4 hh)
          | (go_simp; go_at_call 17; (refine (namedC _ _ _ _ _).mono ?_); rintro e5 w5 ⟨rfl, b5⟩; have HGf := Lib.hid (HGe.out.below b5); have HGBf := Lib.hid (gb_trans HGBe.out (gb_below b5 _)); have HNf := Lib.hid ((Below.block b5 _ (heap_lt HNb.out)).trans HNb.out); obtain ⟨c0, c1, c2, c3, z0, z1, z2, z3⟩ := row4 HNf.out; clear b5 hcx hh4))
        all_goals
          go_wp2_with (fail)
          obtain ⟨m0, m1, m2, m3, _⟩ := row4 (s4 HNf.out (.int .i64 2) (.string ⟨sx.toArray⟩) (.int .i64 0) (.slice none 0 0))
          refine bodyPost_ret (v := .agg #[.int .i64 2, .string ⟨sx.toArray⟩, .int .i64 0, .slice none 0 0]) (by simp [results, Tryz.results62, go_sem, m0, m1, m2, m3]) rfl ?_
          exact GP.box (kids := .nil) HG0.out HGf.out HGBf.out (Nat.le_refl _) (reads_nil _ _) rfl (by have := HKK.out.1; have := HKe.out; omega) (by simp [fsize]) ⟨⟨by have := HGf.out.short sx Hsx.out; omega, by first | exact bar_nil _ | exact bar_ne (by decide)⟩, trivial, trivial⟩ (closed1_kids (by decide) (by decide) rfl)
  · have t3 : decide (d ≤ 0) = false := decide_eq_false hd
    by_cases hr4 : r < 4
    · have t4 : decide ((r : Int) < 4) = true := by rw [decide_eq_true_eq]; omega
      rcases T12.out with t1 | t2
      · go_wp2_with (fail)
        refine (HNm.out k1 d V w1 HG1'.out (by have := HKK.out.1; omega) hV0 hV1 hVd (by omega) hd1).mono ?_
        rintro e2 w2 hgp
        obtain ⟨q, o, t, kids, A, c, rfl, hN2, hres⟩ := hgp.pass (k := k) HG0.out HGB.out (by rw [HS1.out]; omega) (Int.le_refl V) HKK.out.1 HN1.out
        have HN2 := Lib.hid hN2
        have HRes := Lib.hid hres
        clear hgp hN2 hres
        obtain ⟨b0, b1, b2, b3, y0, y1, y2, y3⟩ := row4 HN2.out
        go_wp2_with (fail)
        obtain ⟨m0, m1, m2, m3, _⟩ := row4 (s4 HN2.out (.int .i64 q) (.string ⟨t.toArray⟩) (.int .i64 o) (.slice A kids.len c))
        exact bodyPost_ret (v := .agg #[.int .i64 q, .string ⟨t.toArray⟩, .int .i64 o, .slice A kids.len c]) (by simp [results, Tryz.results62, go_sem, m0, m1, m2, m3]) rfl HRes.out
      · by_cases hr2 : r < 2
        · have t1 : decide ((r : Int) < 2) = true := by rw [decide_eq_true_eq]; omega
          go_wp2_with (fail)
          refine (HNm.out k1 d V w1 HG1'.out (by have := HKK.out.1; omega) hV0 hV1 hVd (by omega) hd1).mono ?_
          rintro e2 w2 hgp
          obtain ⟨q, o, t, kids, A, c, rfl, hN2, hres⟩ := hgp.pass (k := k) HG0.out HGB.out (by rw [HS1.out]; omega) (Int.le_refl V) HKK.out.1 HN1.out
          have HN2 := Lib.hid hN2
          have HRes := Lib.hid hres
          clear hgp hN2 hres
          obtain ⟨b0, b1, b2, b3, y0, y1, y2, y3⟩ := row4 HN2.out
          go_wp2_with (fail)
          obtain ⟨m0, m1, m2, m3, _⟩ := row4 (s4 HN2.out (.int .i64 q) (.string ⟨t.toArray⟩) (.int .i64 o) (.slice A kids.len c))
          exact bodyPost_ret (v := .agg #[.int .i64 q, .string ⟨t.toArray⟩, .int .i64 o, .slice A kids.len c]) (by simp [results, Tryz.results62, go_sem, m0, m1, m2, m3]) rfl HRes.out
        · have t1 : decide ((r : Int) < 2) = false := by rw [decide_eq_false_iff_not]; omega
          go_wp2_with (fail)
          refine (HNm.out k1 d V w1 HG1'.out (by have := HKK.out.1; omega) hV0 hV1 hVd (by omega) hd1).mono ?_
          rintro e2 w2 hgp
          obtain ⟨q, o, t, kids, A, c, rfl, hN2, hres⟩ := hgp.pass (k := k) HG0.out HGB.out (by rw [HS1.out]; omega) (Int.le_refl V) HKK.out.1 HN1.out
          have HN2 := Lib.hid hN2
          have HRes := Lib.hid hres
          clear hgp hN2 hres
          obtain ⟨b0, b1, b2, b3, y0, y1, y2, y3⟩ := row4 HN2.out
          go_wp2_with (fail)
          obtain ⟨m0, m1, m2, m3, _⟩ := row4 (s4 HN2.out (.int .i64 q) (.string ⟨t.toArray⟩) (.int .i64 o) (.slice A kids.len c))
          exact bodyPost_ret (v := .agg #[.int .i64 q, .string ⟨t.toArray⟩, .int .i64 o, .slice A kids.len c]) (by simp [results, Tryz.results62, go_sem, m0, m1, m2, m3]) rfl HRes.out
    · have t4 : decide ((r : Int) < 4) = false := by rw [decide_eq_false_iff_not]; omega
      have t1 : decide ((r : Int) < 2) = false := by rw [decide_eq_false_iff_not]; omega
      go_wp2_with (fail)
      refine (HT.out k1 (d - 1) 0 w1 HG1'.out (by have := HKK.out; omega) (by decide) (by decide) (by omega) (by omega) (by omega)).mono ?_
      rintro e2 w2 hgp
      obtain ⟨q, o, t, kids, A, c, rfl, hN2, hres⟩ := hgp.pass (k := k) HG0.out HGB.out (by rw [HS1.out]; omega) hV0 HKK.out.1 HN1.out
      have HN2 := Lib.hid hN2
      have HRes := Lib.hid hres
      clear hgp hN2 hres
      obtain ⟨b0, b1, b2, b3, y0, y1, y2, y3⟩ := row4 HN2.out
      go_wp2_with (fail)
      obtain ⟨m0, m1, m2, m3, _⟩ := row4 (s4 HN2.out (.int .i64 q) (.string ⟨t.toArray⟩) (.int .i64 o) (.slice A kids.len c))
      exact bodyPost_ret (v := .agg #[.int .i64 q, .string ⟨t.toArray⟩, .int .i64 o, .slice A kids.len c]) (by simp [results, Tryz.results62, go_sem, m0, m1, m2, m3]) rfl HRes.out
end Go.Proofs.YtpkiheenkpcebaaGreatDoor
namespace Go.Proofs.YtpkiheenkpcebaaGreatDoor
open Go.RowKit Sx

set_option maxHeartbeats 1000000 in
theorem existsC2 (k1 o1 k2 o2 : Int) (s1 s2 : ByteArray) (A1 A2 : Option Addr) (n1 c1 n2 c2 : Nat) (w : World) :
    Calls Tryz.prog 97 #[.agg #[.int .i64 k1, .string s1, .int .i64 o1, .slice A1 n1 c1], .agg #[.int .i64 k2, .string s2, .int .i64 o2, .slice A2 n2 c2]] w fun e w' =>
      ∃ g, w.heap.size ≤ g ∧ e = .returned (.agg #[.int .i64 6, .string ⟨#[]⟩, .int .i64 0, .slice (some ⟨g, 0, none⟩) 2 2]) ∧ w'.heap[g]? = some (.cells #[.int .i64 k1, .string s1, .int .i64 o1, .slice A1 n1 c1, .int .i64 k2, .string s2, .int .i64 o2, .slice A2 n2 c2] 34 (0, 0)) ∧ BH w w' := by
  obtain ⟨b0, b1, b2, b3⟩ := box4 w (.int .i64 k1) (.string s1) (.int .i64 o1) (.slice A1 n1 c1) 34
  have ha := heap_alloc_new w (.cells #[.int .i64 k1, .string s1, .int .i64 o1, .slice A1 n1 c1] 34 (0, 0))
  go_enter Tryz.func97, Tryz.ntmps97
  go_wp2_with (fail)
  obtain ⟨wb, hwb⟩ : ∃ wb, (w.alloc (.cells #[.int .i64 k1, .string s1, .int .i64 o1, .slice A1 n1 c1] 34)).alloc (.cells #[.int .i64 k2, .string s2, .int .i64 o2, .slice A2 n2 c2] 34) = wb := ⟨_, rfl⟩
  have hs : wb.heap.size = w.heap.size + 2 := by rw [← hwb]; simp
  have hb : BH w wb := by rw [← hwb]; exact ((Below.refl _ _).alloc (Nat.le_refl _) _).alloc (by simp) _
  rw [hwb]
  have h1 := heap_alloc_new wb (.cells #[.int .i64 6, .string ⟨#[]⟩, .int .i64 0, .slice (some ⟨w.heap.size + 1 + 1 + 1, 0, none⟩) 2 2] 34 (0, 0))
  rw [hs] at h1
  have h2 := (Below.heap_alloc (wb.alloc (.cells #[.int .i64 6, .string ⟨#[]⟩, .int .i64 0, .slice (some ⟨w.heap.size + 1 + 1 + 1, 0, none⟩) 2 2] 34 (0, 0))) (.cells #[.int .i64 k1, .string s1, .int .i64 o1, .slice A1 n1 c1, .int .i64 k2, .string s2, .int .i64 o2, .slice A2 n2 c2] 34 (0, 0)) (w.heap.size + 2) (by simp [hs])).trans h1
  have h3 := heap_alloc_new (wb.alloc (.cells #[.int .i64 6, .string ⟨#[]⟩, .int .i64 0, .slice (some ⟨w.heap.size + 1 + 1 + 1, 0, none⟩) 2 2] 34 (0, 0))) (.cells #[.int .i64 k1, .string s1, .int .i64 o1, .slice A1 n1 c1, .int .i64 k2, .string s2, .int .i64 o2, .slice A2 n2 c2] 34 (0, 0))
  have hs3 : (wb.alloc (.cells #[.int .i64 6, .string ⟨#[]⟩, .int .i64 0, .slice (some ⟨w.heap.size + 1 + 1 + 1, 0, none⟩) 2 2] 34 (0, 0))).heap.size = w.heap.size + 1 + 1 + 1 := by simp [hs]
  rw [hs3] at h3
  obtain ⟨m0, m1, m2, m3, _⟩ := row4 h2
  exact bodyPost_ret (v := .agg #[.int .i64 6, .string ⟨#[]⟩, .int .i64 0, .slice (some ⟨w.heap.size + 1 + 1 + 1, 0, none⟩) 2 2]) (by simp [results, Tryz.results97, go_sem, m0, m1, m2, m3]) rfl
    ⟨_, by omega, rfl, h3, Below.alloc (Below.alloc hb (by omega) _) (by simp; omega) _⟩


theorem unionC (A : Option Addr) (n c : Nat) (w : World) : Calls Tryz.prog 96 #[.slice A n c] w fun e w' => e = .returned (.agg #[.int .i64 4, .string ⟨#[]⟩, .int .i64 0, .slice A n c]) ∧ BH w w' := by
  go_enter Tryz.func96, Tryz.ntmps96
  go_wp2_with (fail)
  obtain ⟨m0, m1, m2, m3⟩ := box4 w (.int .i64 4) (.string ⟨#[]⟩) (.int .i64 0) (.slice A n c) 34
  exact bodyPost_ret (v := .agg #[.int .i64 4, .string ⟨#[]⟩, .int .i64 0, .slice A n c]) (by simp [results, Tryz.results96, go_sem, m0, m1, m2, m3]) rfl ⟨rfl, (Below.refl _ _).alloc (Nat.le_refl _) _⟩
theorem neverC (w : World) : Calls Tryz.prog 98 #[] w fun e w' => e = .returned (.agg #[.int .i64 1, .string ⟨#[]⟩, .int .i64 0, .slice none 0 0]) ∧ BH w w' := by
  go_enter Tryz.func98, Tryz.ntmps98
  go_wp2_with (fail)
  obtain ⟨m0, m1, m2, m3⟩ := box4 w (.int .i64 1) (.string ⟨#[]⟩) (.int .i64 0) (.slice none 0 0) 34
  exact bodyPost_ret (v := .agg #[.int .i64 1, .string ⟨#[]⟩, .int .i64 0, .slice none 0 0]) (by simp [results, Tryz.results98, go_sem, m0, m1, m2, m3]) rfl ⟨rfl, (Below.refl _ _).alloc (Nat.le_refl _) _⟩

/-- a block that holds terms -/
theorem blk_reads {w : World} {S : Nat → Prop} {g n : Nat} {e : TypeId} {cs : Array Value} (h : w.heap[g]? = some (.cells cs e (0, 0))) (hS : S g) : readsAt w S (some ⟨g, 0, none⟩) n cs.toList := by
  intro _
  refine ⟨g, 0, rfl, hS, heap_lt h, fun j u hu => ?_⟩
  rw [Nat.zero_add, cell_of_row _ _ j _ _ _ h]
  simpa using hu
theorem row_one {w : World} {S : Nat → Prop} {q o : Int} {t : List UInt8} {kids : Fo} {A : Option Addr} {c : Nat} {ys : List Value} (hc : kids.len ≤ c) (hr : readsAt w S A kids.len ys) (hk : rowT w S kids ys) :
    rowT w S (.cons q t kids o .nil) [.int .i64 q, .string ⟨t.toArray⟩, .int .i64 o, .slice A kids.len c] :=
  ⟨A, c, ys, [], rfl, hc, hr, hk, rfl⟩
theorem row_two {w : World} {S : Nat → Prop} {q o q2 o2 : Int} {t t2 : List UInt8} {kids kids2 : Fo} {A A2 : Option Addr} {c c2 : Nat} {ys ys2 : List Value} (hc : kids.len ≤ c) (hr : readsAt w S A kids.len ys) (hk : rowT w S kids ys)
    (hc2 : kids2.len ≤ c2) (hr2 : readsAt w S A2 kids2.len ys2) (hk2 : rowT w S kids2 ys2) :
    rowT w S (.cons q t kids o (.cons q2 t2 kids2 o2 .nil)) [.int .i64 q, .string ⟨t.toArray⟩, .int .i64 o, .slice A kids.len c, .int .i64 q2, .string ⟨t2.toArray⟩, .int .i64 o2, .slice A2 kids2.len c2] :=
  ⟨A, c, ys, _, rfl, hc, hr, hk, row_one hc2 hr2 hk2⟩
theorem closed_two {q1 o1 q2 o2 : Int} {t1 t2 : List UInt8} {f1 f2 : Fo} {b : Int} (h1 : closed1 q1 o1 f1 b = true) (h2 : closed1 q2 o2 f2 b = true) : closedL 0 0 b (.cons q1 t1 f1 o1 (.cons q2 t2 f2 o2 .nil)) = true := by
  rw [show (Fo.cons q1 t1 f1 o1 (.cons q2 t2 f2 o2 .nil)) = (Fo.one q1 t1 f1 o1).app (.one q2 t2 f2 o2) from rfl, closedL_app, closed1_one h1, closed1_one h2]
  rfl

/-- what lies in new blocks stays there behind a call that touches the stream alone -/
theorem row_far {w1 w2 : World} {b N : Nat} {S : Nat → Prop} {kids : Fo} {A : Option Addr} {ys : List Value} (hg : w1.grownBy w2 (some b)) (hb : b ≤ N) (hS : ∀ x, S x → N < x) (hr : readsAt w1 S A kids.len ys) (hk : rowT w1 S kids ys) :
    readsAt w2 (fun x => N < x) A kids.len ys ∧ rowT w2 (fun x => N < x) kids ys := by
  have hkeep : ∀ x, S x → x < w1.heap.size → w2.heap[x]? = w1.heap[x]? ∧ N < x := fun x hx hl => ⟨hg.block x hl (by have := hS x hx; simp; omega), hS x hx⟩
  exact ⟨hr.keep hg.size hkeep, hk.keep hg.size hkeep _⟩
theorem row_bh {w1 w2 : World} {N : Nat} {S : Nat → Prop} {kids : Fo} {A : Option Addr} {ys : List Value} (hg : BH w1 w2) (hS : ∀ x, S x → N < x) (hr : readsAt w1 S A kids.len ys) (hk : rowT w1 S kids ys) :
    readsAt w2 (fun x => N < x) A kids.len ys ∧ rowT w2 (fun x => N < x) kids ys := by
  have hkeep : ∀ x, S x → x < w1.heap.size → w2.heap[x]? = w1.heap[x]? ∧ N < x := fun x hx hl => ⟨Below.block hg x hl, hS x hx⟩
  exact ⟨hr.keep (Below.size hg) hkeep, hk.keep (Below.size hg) hkeep _⟩
end Go.Proofs.YtpkiheenkpcebaaGreatDoor
