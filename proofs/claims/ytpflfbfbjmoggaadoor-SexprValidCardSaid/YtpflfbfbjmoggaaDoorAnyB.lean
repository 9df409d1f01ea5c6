/- telmake.AnyNode, malformed nodes among them. -/
import Derived.Test.YtpflfbfbjmoggaaDoorAnyA
set_option linter.unusedVariables false
set_option linter.unusedSimpArgs false
namespace Go.Proofs.YtpflfbfbjmoggaaDoor
open Go.RowKit Sx

set_option maxHeartbeats 2000000 in
set_option maxRecDepth 100000 in
theorem any_true (n : Nat) : ∀ (b : Nat) (a : Option Addr) (len cap : Nat) (zs : List Int) (W T : List (List UInt8)) (gw ow cw gs ot cs : Nat) (w : World) (h : Gen w b a len cap zs W T gw ow cw gs ot cs) (hn : n ≤ 1000),
    Calls Tryd.prog 16 #[.pointer (some ⟨b, 0, none⟩), .int .i64 (n : Int), .bool true] w (AnyPost b a len cap zs W T gw ow cw gs ot cs true n w) := by
  induction n using Nat.strongRecOn with
  | ind n ih =>
  intro b a len cap zs W T gw ow cw gs ot cs w h hn
  have IH := Lib.hid ih
  clear ih
  have hb := h.lt
  obtain ⟨i0, hi, hz0, hz1, hz2⟩ := info_parts infoRNode
  go_enter Tryd.func16, Tryd.ntmps16
  go_wp2_with (fail)
  refine (next_gen 12 (h.below (below_gb (gb_alloc (World.grownBy.refl _ _) _))) (by decide) (by decide)).mono ?_
  rintro e w1 ⟨r, rfl, hr0, hr1, hg, hgr, hz⟩
  have hN : w1.heap[w.heap.size]? = some (.cells #[.int .i64 0, .string ⟨#[]⟩, .slice none 0 0, .int .i64 0] 39 (0, 0)) := by
    refine (hgr.block _ (by simp) (by simp; try omega)).trans ?_
    exact heap_alloc_new w _
  have hgw : w.grownBy w1 (some b) := gb_trans (gb_alloc (World.grownBy.refl _ _) _) hgr
  clear hgr
  have hNb : w.heap.size ≠ b := by omega
  have hz1' : w1.heap.size = w.heap.size + 1 := by simp [hz]
  clear hz
  have HG := Lib.hid hg
  have HH := Lib.hid h
  have HR := Lib.hid hgw
  have HN := Lib.hid hN
  clear hg h hgw hN
  by_cases h11 : r = 11
  · subst h11
    obtain ⟨⟨k0, hst⟩, hTw, hTs⟩ := HG.out
    have p2 := hTs.pos
    obtain ⟨q10, q11⟩ := nxt_bounds len zs k0 5 (by decide)
    obtain ⟨q20, q21⟩ := nxt_bounds len zs (nk len k0) 6 (by decide)
    obtain ⟨q30, q31⟩ := nxt_bounds len zs (nk len (nk len k0)) 16 (by decide)
    have HC1 := fun W0 (h : HoldK w1 W0 b a len cap zs k0) => next_hold 5 h (by decide) (by decide)
    have HC2 := fun W0 (h : HoldK w1 W0 b a len cap zs (nk len k0)) => next_hold 6 h (by decide) (by decide)
    have HC3 := fun W0 (h : HoldK w1 W0 b a len cap zs (nk len (nk len k0))) => next_hold 16 h (by decide) (by decide)
    have hH0 : HoldK w1 w1.drew b a len cap zs k0 := ⟨hst.drew, gb_drew (World.grownBy.refl _ _), rfl⟩
    generalize nk len (nk len (nk len k0)) = k3 at HC3
    generalize nxt len zs (nk len (nk len k0)) 16 = v3 at q30 q31 HC3
    generalize nk len (nk len k0) = k2 at HC2 HC3
    generalize nxt len zs (nk len k0) 6 = v2 at q20 q21 HC2
    generalize nk len k0 = k1 at HC1 HC2
    generalize nxt len zs k0 5 = v1 at q10 q11 HC1
    obtain ⟨n2, rfl⟩ := Int.eq_ofNat_of_zero_le q20
    obtain ⟨n3, rfl⟩ := Int.eq_ofNat_of_zero_le q30
    obtain ⟨s2, hs2, hc2⟩ := hTs.row n2 (by omega)
    obtain ⟨s3, hs3, hc3⟩ := hTw.row n3 (by omega)
    have hwh := hTw.head
    have hsh := hTs.head
    have l1 := hTw.vlt
    have l2 := hTw.glt
    have l3 := hTs.vlt
    have l4 := hTs.glt
    have g1 := hTw.vb
    have g2 := hTw.gb
    have g3 := hTs.vb
    have g4 := hTs.gb
    have H1 := Lib.hid HC1
    have H2 := Lib.hid HC2
    have H3 := Lib.hid HC3
    have HH0 := Lib.hid hH0
    have Hs2 := Lib.hid hs2
    have Hs3 := Lib.hid hs3
    clear HC1 HC2 HC3 hTw hTs hst p2 hH0 hs2 hs3
    have m1 : ¬ (1 = w.heap.size) := by have := HH.out.strs.vlt; omega
    have m1' : ¬ (w.heap.size = 1) := by omega
    have m2 : ¬ (2 = w.heap.size) := by have := HH.out.words.vlt; omega
    have m2' : ¬ (w.heap.size = 2) := by omega
    have m3 : ¬ (gw = w.heap.size) := by have := HH.out.words.glt; omega
    have m3' : ¬ (w.heap.size = gw) := by omega
    have m4 : ¬ (gs = w.heap.size) := by have := HH.out.strs.glt; omega
    have m4' : ¬ (w.heap.size = gs) := by omega
    have i2 : (0 : Int) ≤ (n2 : Int) := by omega
    have i3 : (0 : Int) ≤ (n3 : Int) := by omega
    obtain ⟨c0, c1, c2, c3, z0, z1, z2, z3⟩ := row4 HN.out
    go_wp2_with (fail)
    go_region_held3 (fun w' => w'.cell? ⟨1, 0, none⟩ = some (.slice (some ⟨gs, ot, none⟩) 6 cs) ∧ w'.cell? ⟨2, 0, none⟩ = some (.slice (some ⟨gw, ow, none⟩) 16 cw) ∧ w'.cell? ⟨gs, ot + n2, none⟩ = some (.string ⟨s2.toArray⟩) ∧ w'.cell? ⟨gw, ow + n3, none⟩ = some (.string ⟨s3.toArray⟩)) (go_keep)
      (first
        | (go_at_call 56; refine (H3.out _ HO2.out).mono ?_; rintro e u3 ⟨rfl, hO⟩; have HO3 := Lib.hid hO; have d1 := hO.cell hsh (by exact l3) (by exact g3); have d2 := hO.cell hwh (by exact l1) (by exact g1); have d3 := hO.cell hc2 (by exact l4) (by exact g4); have d4 := hO.cell hc3 (by exact l2) (by exact g2); have hNu := row4_after hO.gb HN.out hNb; clear hO; have HNU := Lib.hid ((Below.heap_alloc u3 (.cells #[.int .i64 1, .string ⟨s3.toArray⟩, .slice none 0 0, .int .i64 0] 39) _ (heap_lt hNu)).trans hNu); clear hNu; obtain ⟨e0, e1, e2, e3, y0, y1, y2, y3⟩ := row4 HNU.out)
        | (go_at_call 56; refine (H2.out _ HO1.out).mono ?_; rintro e u2 ⟨rfl, hO⟩; have HO2 := Lib.hid hO; have b1 := hO.cell hsh (by exact l3) (by exact g3); have b2 := hO.cell hwh (by exact l1) (by exact g1); have b3 := hO.cell hc2 (by exact l4) (by exact g4); have b4 := hO.cell hc3 (by exact l2) (by exact g2); clear hO)
        | (go_at_call 56; refine (H1.out _ HH0.out).mono ?_; rintro e u1 ⟨rfl, hO⟩; have HO1 := Lib.hid hO; have a1 := hO.cell hsh (by exact l3) (by exact g3); have a2 := hO.cell hwh (by exact l1) (by exact g1); have a3 := hO.cell hc2 (by exact l4) (by exact g4); have a4 := hO.cell hc3 (by exact l2) (by exact g2); clear hO))
    go_wp2_with (fail)
    obtain ⟨f0, f1, f2, f3, _, _, _, _⟩ := row4 (set4 HNU.out (.int .i64 v1) (.string ⟨s2.toArray⟩) (.slice (some ⟨u3.heap.size, 0, none⟩) 1 1) (.int .i64 0))
    refine bodyPost_ret (v := .agg #[.int .i64 v1, .string ⟨s2.toArray⟩, .slice (some ⟨u3.heap.size, 0, none⟩) 1 1, .int .i64 0]) (by simp [results, Tryd.results16, go_sem, f0, f1, f2, f3]) rfl ?_
    exact bad_out HH.out HR.out ⟨⟨_, HO3.out.st⟩, HG.out.words.keep HO3.out.gb, HG.out.strs.keep HO3.out.gb⟩ HO3.out.gb ⟨.inr (.inr (.inl ⟨rfl, rfl, Hs2.out, q10, q11, s3, Hs3.out, rfl⟩)), trivial⟩ (by rw [HO3.out.size, hz1'])
  by_cases h10 : r = 10
  · subst h10
    obtain ⟨⟨k0, hst⟩, hTw, hTs⟩ := HG.out
    obtain ⟨q20, q21⟩ := nxt_bounds len zs k0 6 (by decide)
    have HC1 := fun W0 (h : HoldK w1 W0 b a len cap zs k0) => next_hold 6 h (by decide) (by decide)
    have hH0 : HoldK w1 w1.drew b a len cap zs k0 := ⟨hst.drew, gb_drew (World.grownBy.refl _ _), rfl⟩
    generalize nk len k0 = k1 at HC1
    generalize nxt len zs k0 6 = v2 at q20 q21 HC1
    obtain ⟨n2, rfl⟩ := Int.eq_ofNat_of_zero_le q20
    obtain ⟨s2, hs2, hc2⟩ := hTs.row n2 (by omega)
    have HC2 := fun W0 (h : HoldK w1 W0 b a len cap zs k1) => raw_hold h
    have hsh := hTs.head
    have l3 := hTs.vlt
    have l4 := hTs.glt
    have g3 := hTs.vb
    have g4 := hTs.gb
    have H1 := Lib.hid HC1
    have H2 := Lib.hid HC2
    have HH0 := Lib.hid hH0
    have Hs2 := Lib.hid hs2
    clear HC1 HC2 hTw hTs hst hH0 hs2
    have m1 : ¬ (1 = w.heap.size) := by have := HH.out.strs.vlt; omega
    have m1' : ¬ (w.heap.size = 1) := by omega
    have m4 : ¬ (gs = w.heap.size) := by have := HH.out.strs.glt; omega
    have m4' : ¬ (w.heap.size = gs) := by omega
    have i2 : (0 : Int) ≤ (n2 : Int) := by omega
    obtain ⟨c0, c1, c2, c3, z0, z1, z2, z3⟩ := row4 HN.out
    go_wp2_with (fail)
    go_region_held3 (fun w' => w'.cell? ⟨1, 0, none⟩ = some (.slice (some ⟨gs, ot, none⟩) 6 cs) ∧ w'.cell? ⟨gs, ot + n2, none⟩ = some (.string ⟨s2.toArray⟩)) (go_keep)
      (first
        | (go_at_call 57; refine (H2.out _ HO1.out).mono ?_; rintro e u2 ⟨ro, kr, rfl, hO⟩; have HO2 := Lib.hid hO; have b1 := hO.cell hsh (by exact l3) (by exact g3); have b3 := hO.cell hc2 (by exact l4) (by exact g4); have HNU := Lib.hid (row4_after hO.gb HN.out hNb); clear hO; obtain ⟨e0, e1, e2, e3, y0, y1, y2, y3⟩ := row4 HNU.out)
        | (go_at_call 56; refine (H1.out _ HH0.out).mono ?_; rintro e u1 ⟨rfl, hO⟩; have HO1 := Lib.hid hO; have a1 := hO.cell hsh (by exact l3) (by exact g3); have a3 := hO.cell hc2 (by exact l4) (by exact g4); clear hO))
    go_wp2_with (fail)
    obtain ⟨f0, f1, f2, f3, _, _, _, _⟩ := row4 (set4 HNU.out (.int .i64 1) (.string ⟨s2.toArray⟩) (.slice none 0 0) (.int .i64 ro))
    refine bodyPost_ret (v := .agg #[.int .i64 1, .string ⟨s2.toArray⟩, .slice none 0 0, .int .i64 ro]) (by simp [results, Tryd.results16, go_sem, f0, f1, f2, f3]) rfl ?_
    exact leaf_out HH.out HR.out ⟨⟨⟨_, HO2.out.st⟩, HG.out.words.keep HO2.out.gb, HG.out.strs.keep HO2.out.gb⟩, HO2.out.gb, HO2.out.size⟩ ⟨.inr (.inr (.inr ⟨rfl, rfl, Hs2.out, rfl⟩)), trivial⟩
  have hr12 : r < 10 := by omega
  by_cases h4 : r < 4
  · have t1 : decide (r < 4) = true := by simp; exact h4
    have t11 : (r == 11) = false := by simp; omega
    have t10 : (r == 10) = false := by simp; omega
    have hv := HG.out.words.head
    have n2 : ¬ (2 = w.heap.size) := by have := HH.out.words.vlt; omega
    have n2' : ¬ (w.heap.size = 2) := by omega
    have n3 : ¬ (gw = w.heap.size) := by have := HH.out.words.glt; omega
    have n3' : ¬ (w.heap.size = gw) := by omega
    obtain ⟨c0, c1, c2, c3, z0, z1, z2, z3⟩ := row4 HN.out
    go_wp2_with (fail)
    obtain ⟨n', s, hn0, hn', hs, hc, H⟩ := HG.out.ahead HG.out.words 16 (by rfl)
    have H2 := Lib.hid (H HN.out hNb)
    clear H
    have hs' := Lib.hid hs
    clear hs
    go_region_held3 (fun w' => w'.cell? ⟨2, 0, none⟩ = some (.slice (some ⟨gw, ow, none⟩) 16 cw) ∧ w'.cell? ⟨gw, ow + n', none⟩ = some (.string ⟨s.toArray⟩)) (go_keep)
      ((go_at_call 56; refine H2.out.mono ?_; rintro e w2 ⟨rfl, hc1, hwh2, d0, d1, d2, d3, y0, y1, y2, y3, hB⟩; have HB := Lib.hid hB; clear hB; have hN2 := Lib.hid (row4_after HB.out.gb HN.out hNb)))
    go_wp2_with (fail)
    obtain ⟨m0, m1, m2, m3, _, _, _, _⟩ := row4 (set4 hN2.out (.int .i64 1) (.string ⟨s.toArray⟩) (.slice none 0 0) (.int .i64 0))
    refine bodyPost_ret (v := .agg #[.int .i64 1, .string ⟨s.toArray⟩, .slice none 0 0, .int .i64 0]) (by simp [results, Tryd.results16, go_sem, m0, m1, m2, m3]) rfl ?_
    exact leaf_out HH.out HR.out HB.out ⟨.inl ⟨rfl, rfl, .inl ⟨rfl, hs'.out⟩⟩, trivial⟩
  · have t1 : decide (r < 4) = false := by simp; omega
    rcases Nat.eq_zero_or_pos n with rfl | hpos
    · have hd0 : decide (((0 : Nat) : Int) ≤ 0) = true := by decide
      have t11 : (r == 11) = false := by simp; omega
      have t10 : (r == 10) = false := by simp; omega
      have hv := HG.out.words.head
      have n2 : ¬ (2 = w.heap.size) := by have := HH.out.words.vlt; omega
      have n2' : ¬ (w.heap.size = 2) := by omega
      have n3 : ¬ (gw = w.heap.size) := by have := HH.out.words.glt; omega
      have n3' : ¬ (w.heap.size = gw) := by omega
      obtain ⟨c0, c1, c2, c3, z0, z1, z2, z3⟩ := row4 HN.out
      go_wp2_with (fail)
      obtain ⟨n', s, hn0, hn', hs, hc, H⟩ := HG.out.ahead HG.out.words 16 (by rfl)
      have H2 := Lib.hid (H HN.out hNb)
      clear H
      have hs' := Lib.hid hs
      clear hs
      go_region_held3 (fun w' => w'.cell? ⟨2, 0, none⟩ = some (.slice (some ⟨gw, ow, none⟩) 16 cw) ∧ w'.cell? ⟨gw, ow + n', none⟩ = some (.string ⟨s.toArray⟩)) (go_keep)
        ((go_at_call 56; refine H2.out.mono ?_; rintro e w2 ⟨rfl, hc1, hwh2, d0, d1, d2, d3, y0, y1, y2, y3, hB⟩; have HB := Lib.hid hB; clear hB; have hN2 := Lib.hid (row4_after HB.out.gb HN.out hNb)))
      go_wp2_with (fail)
      obtain ⟨m0, m1, m2, m3, _, _, _, _⟩ := row4 (set4 hN2.out (.int .i64 1) (.string ⟨s.toArray⟩) (.slice none 0 0) (.int .i64 0))
      refine bodyPost_ret (v := .agg #[.int .i64 1, .string ⟨s.toArray⟩, .slice none 0 0, .int .i64 0]) (by simp [results, Tryd.results16, go_sem, m0, m1, m2, m3]) rfl ?_
      exact leaf_out HH.out HR.out HB.out ⟨.inl ⟨rfl, rfl, .inl ⟨rfl, hs'.out⟩⟩, trivial⟩
    · obtain ⟨d, rfl⟩ : ∃ d, n = d + 1 := ⟨n - 1, by omega⟩
      have hd0 : decide ((d : Int) + 1 ≤ 0) = false := by simp <;> omega
      have t11 : (r == 11) = false := by simp; omega
      have t10 : (r == 10) = false := by simp; omega
      by_cases h6 : r < 6
      · have t2 : decide (r < 6) = true := by simp; exact h6
        have hv := HG.out.strs.head
        have n2 : ¬ (1 = w.heap.size) := by have := HH.out.strs.vlt; omega
        have n2' : ¬ (w.heap.size = 1) := by omega
        have n3 : ¬ (gs = w.heap.size) := by have := HH.out.strs.glt; omega
        have n3' : ¬ (w.heap.size = gs) := by omega
        obtain ⟨c0, c1, c2, c3, z0, z1, z2, z3⟩ := row4 HN.out
        go_wp2_with (fail)
        obtain ⟨n', s, hn0, hn', hs, hc, H⟩ := HG.out.ahead HG.out.strs 6 (by rfl)
        have H2 := Lib.hid (H HN.out hNb)
        clear H
        have hs' := Lib.hid hs
        clear hs
        go_region_held3 (fun w' => w'.cell? ⟨1, 0, none⟩ = some (.slice (some ⟨gs, ot, none⟩) 6 cs) ∧ w'.cell? ⟨gs, ot + n', none⟩ = some (.string ⟨s.toArray⟩)) (go_keep)
          ((go_at_call 56; refine H2.out.mono ?_; rintro e w2 ⟨rfl, hc1, hwh2, d0, d1, d2, d3, y0, y1, y2, y3, hB⟩; have HB := Lib.hid hB; clear hB; have hN2 := Lib.hid (row4_after HB.out.gb HN.out hNb)))
        go_wp2_with (fail)
        obtain ⟨m0, m1, m2, m3, _, _, _, _⟩ := row4 (set4 hN2.out (.int .i64 2) (.string ⟨s.toArray⟩) (.slice none 0 0) (.int .i64 0))
        refine bodyPost_ret (v := .agg #[.int .i64 2, .string ⟨s.toArray⟩, .slice none 0 0, .int .i64 0]) (by simp [results, Tryd.results16, go_sem, m0, m1, m2, m3]) rfl ?_
        exact leaf_out HH.out HR.out HB.out ⟨.inl ⟨rfl, rfl, .inr ⟨rfl, hs'.out⟩⟩, trivial⟩
      · have t2 : decide (r < 6) = false := by simp; omega
        go_wp2_with (fail)
        refine (next_gen 5 (HG.out.below (below_gb (gb_alloc (World.grownBy.refl _ _) _))) (by decide) (by decide)).mono ?_
        rintro e w2 ⟨cnt, rfl, hc0, hc1, hg2, hgr2, hz2'⟩
        have hs2 : w2.heap.size = w.heap.size + 2 := by rw [hz2']; simp; omega
        have hb1 := hz1'
        have hM : w2.heap[w.heap.size + 1]? = some (.cells #[.int .i64 3, .string ⟨#[]⟩, .slice none 0 0, .int .i64 0] 39 (0, 0)) := by
          refine (hgr2.block _ (by simp; omega) (by simp; omega)).trans ?_
          have := heap_alloc_new w1 (.cells #[.int .i64 3, .string ⟨#[]⟩, .slice none 0 0, .int .i64 0] 39 (0, 0))
          rw [hz1'] at this
          exact this
        have hN2 : w2.heap[w.heap.size]? = some (.cells #[.int .i64 0, .string ⟨#[]⟩, .slice none 0 0, .int .i64 0] 39 (0, 0)) := by
          refine (hgr2.block _ (by simp; omega) (by simp; omega)).trans ?_
          exact (Below.heap_alloc w1 _ _ (by omega)).trans HN.out
        have hgw2 : w.grownBy w2 (some b) := gb_trans (gb_alloc HR.out _) hgr2
        have H0 : Rnd w w2 w2 (w.heap.size + 1) w.heap.size 0 (.slice none 0 0) .nil [] b a len cap zs W T gw ow cw gs ot cs := ⟨HH.out, hg2, hgw2, hM, hN2, World.ownsRow_nil _ _ _ _, rfl, Nat.le_refl _, rfl⟩
        obtain ⟨cn, rfl⟩ := Int.eq_ofNat_of_zero_le hc0
        have hcn : cn < 5 := by omega
        clear hgr2 hgw2 hM hN2 hg2
        have HH0 := Lib.hid H0
        clear H0
        go_wp2_with (fail)
        go_loopw [10] (fun iv wr => ∃ (i : Nat) (v : Value) (acc : Fo) (xs : List Value), iv = .int .i64 (i : Int) ∧ i ≤ cn ∧ Rnd w w2 wr (w.heap.size + 1) w.heap.size i v acc xs b a len cap zs W T gw ow cw gs ot cs ∧ okF W T true d acc) (fun iv _ => cn - (match iv with | .int _ n => n.toNat | _ => 0))
        case atStart => exact ⟨0, _, .nil, [], rfl, Nat.zero_le _, HH0.out, trivial⟩
        case round =>
          obtain ⟨i, v, acc, xs, rfl, hic, hR, hok⟩ := hrel
          obtain ⟨A5, c5, rfl, hc5⟩ := own_shape hR.own
          obtain rfl := hR.len
          obtain ⟨c0, c1, c2, c3, z0, z1, z2, z3⟩ := row4 hR.blkM
          obtain ⟨d0, d1, d2, d3, y0, y1, y2, y3⟩ := row4 hR.blkN
          have hRH := Lib.hid hR
          clear hR
          have hok' := Lib.hid hok
          clear hok
          by_cases hlt : acc.len < cn
          · have tlt : decide ((acc.len : Int) < (cn : Int)) = true := by simp; exact hlt
            go_wp2_with (fail)
            have hsz := hRH.out.size
            have hbW := HH0.out.gen.lt
            have hm2 : acc.len + 1 ≤ maxLen := by unfold maxLen; omega
            have hwd : IntKind.i64.wrap (d : Int) = (d : Int) := by
              exact (IntKind.wrap_i64 _).trans (by omega)
            have hcall : Calls Tryd.prog 16 #[.pointer (some ⟨b, 0, none⟩), .int .i64 (d : Int), .bool true] wr.drew fun e w4 => ∃ (k o : Int) (t : List UInt8) (kids : Fo) (A : Option Addr) (c : Nat) (ys : List Value),
                e = .returned (.agg #[.int .i64 k, .string ⟨t.toArray⟩, .slice A kids.len c, .int .i64 o]) ∧ w4.cell? ⟨w.heap.size + 1, 2, none⟩ = some (.slice A5 acc.len c5) ∧ w4.frozen? ⟨w.heap.size + 1, 2, none⟩ = false ∧ (w4.alloc (.cells #[.int .i64 k, .string ⟨t.toArray⟩, .slice A kids.len c, .int .i64 o] 39)).cell? ⟨w.heap.size + 1, 2, none⟩ = some (.slice A5 acc.len c5) ∧
                After w w2 wr w4 (w.heap.size + 1) w.heap.size acc.len (.slice A5 acc.len c5) acc xs k o t kids A c ys d b a len cap zs W T gw ow cw gs ot cs true := by
              refine (IH.out d (by omega) b a len cap zs W T gw ow cw gs ot cs _ hRH.out.gen.drew (by omega)).mono ?_
              rintro e w4 ⟨k, o, t, kids, A, c, ys, rfl, hkc, hkr, hkw, hk, hG4, hg4⟩
              have HA := hRH.out.to_after (gb_trans (gb_drew (World.grownBy.refl _ _)) hg4) hG4 hb hs2 hkc hkr hkw hk
              obtain ⟨e0, e1, e2, e3, x0, x1, x2, x3⟩ := row4 HA.rnd.blkM
              exact ⟨k, o, t, kids, A, c, ys, rfl, e2, x2, (World.cell?_of_block (Below.heap_alloc w4 _ _ (heap_lt HA.rnd.blkM))).trans e2, HA⟩
            have HC := Lib.hid hcall
            clear hcall
            go_region_law (first
              | (go_simp; go_at_call 16; refine HC.out.mono ?_; rintro e w4 ⟨k, o, t, kids, A, c, ys, rfl, e2, x2, e2n, hA⟩; have HA := Lib.hid hA; clear hA)
              | (refine step_append_lies _ (by rfl) _ _ _ (by rfl) w2.heap.size 39 i0 _ 4 56 Tryd.underlying37 hi hz0 hz1 hz2 rfl (by omega) (.slice A5 acc.len c5) acc.len xs (by rfl) (HA.out.rnd.own.alloc _)
                   ⟨w4.heap.size, 0, none⟩ 1 1 [.int .i64 k, .string ⟨t.toArray⟩, .slice A kids.len c, .int .i64 o] (by rfl) (by rfl) (World.news_of_block (cs := #[.int .i64 k, .string ⟨t.toArray⟩, .slice A kids.len c, .int .i64 o]) (t := 39) (fr := (0, 0)) (heap_alloc_new w4 _)) (by simp [Value.oneCell'])
                   (by omega) hm2 (by omega) (by simp; have := HA.out.rnd.size; omega) (w4.heap.size + 1) (by simp) ?_; intro gg cp w5 hown5 hgrow hat hlt5; have HO := Lib.hid hown5; have HGR := Lib.hid hgrow; have HAT := Lib.hid hat; clear hown5 hat; obtain ⟨f0, f1, f2, f3, u0, u1, u2, u3⟩ := row4 (HA.out.cell (by omega) hgrow); clear hgrow))
            all_goals
              go_wp2_with (fail)
              exact ⟨⟨acc.len + 1, _, _, _, rfl, by omega, HA.out.done (by omega) (by omega) (by omega) (by omega) hb (by omega) HGR.out HAT.out HO.out, okF_app _ _ hok'.out HA.out.ok⟩, by simp; omega⟩
          · have tlt : decide (acc.len < cn) = false := by simp; omega
            go_wp2_with (fail)
            obtain ⟨m0, m1, m2, m3, _, _, _, _⟩ := row4 (set4 hRH.out.blkN (.int .i64 3) (.string ⟨#[]⟩) (.slice A5 acc.len c5) (.int .i64 0))
            refine bodyPost_ret (v := .agg #[.int .i64 3, .string ⟨#[]⟩, .slice A5 acc.len c5, .int .i64 0]) (by simp [results, Tryd.results16, go_sem, m0, m1, m2, m3]) rfl ?_
            exact hRH.out.out hs2 hok'.out (by omega)

end Go.Proofs.YtpflfbfbjmoggaaDoor
