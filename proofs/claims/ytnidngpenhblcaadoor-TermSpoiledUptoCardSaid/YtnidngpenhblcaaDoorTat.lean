/- telmake.AnyTerm. -/
import Derived.Test.YtnidngpenhblcaaDoorTgn
import Derived.Deep.CutBlock
set_option linter.unusedVariables false
set_option linter.unusedSimpArgs false
namespace Go.Proofs.YtnidngpenhblcaaDoor
open Go.RowKit Sx

set_option maxHeartbeats 2000000 in
set_option maxRecDepth 100000 in
theorem anyTerm_any (n : Nat) : ∀ (E : ET) (w : World) (h : GenT w E) (hn : n ≤ 1000),
    Calls Tryd.prog 9 #[.pointer (some ⟨E.b, 0, none⟩), .int .i64 (n : Int)] w (AnyT E n w) := by
  induction n using Nat.strongRecOn with
  | ind n ih =>
  intro E w h hn
  have IH := Lib.hid ih
  clear ih
  have hb := h.lt
  obtain ⟨i0, hi, hz0, hz1, hz2⟩ := info_parts info_api
  go_enter Tryd.func9, Tryd.ntmps9
  go_wp2_with (fail)
  refine (next_genT 7 (h.below (below_gb (gb_alloc (World.grownBy.refl _ _) _))) (by decide) (by decide)).mono ?_
  rintro e w1 ⟨k, rfl, hr0, hr1, hg, hgr, hz⟩
  have hN : w1.heap[w.heap.size]? = some (.cells #[.int .i64 0, .string ⟨#[]⟩, .int .i64 0, .slice none 0 0] 25 (0, 0)) := by
    refine (hgr.block _ (by simp) (by simp; try omega)).trans ?_
    exact heap_alloc_new w _
  have hgw : w.grownBy w1 (some E.b) := gb_trans (gb_alloc (World.grownBy.refl _ _) _) hgr
  clear hgr
  have hz1' : w1.heap.size = w.heap.size + 1 := by simp [hz]
  clear hz
  have hTS : TS w (w1.alloc (.cells #[.int .i64 k, .string ⟨#[]⟩, .int .i64 0, .slice none 0 0] 25 (0, 0))) E k 0 [] := by
    refine ⟨h, hg.below (below_gb (gb_alloc (World.grownBy.refl _ _) _)), gb_alloc hgw _, by simp [hz1'], ?_, ?_⟩
    · have := heap_alloc_new w1 (.cells #[.int .i64 k, .string ⟨#[]⟩, .int .i64 0, .slice none 0 0] 25 (0, 0))
      rw [hz1'] at this
      exact this
    · exact (Below.heap_alloc w1 _ _ (by omega)).trans hN
  have HT := Lib.hid hTS
  have HH := Lib.hid h
  clear hg h hgw hN hTS
  have n0 : ¬ (0 = w.heap.size + 1) := by have := HH.out.names.vlt; omega
  have n1 : ¬ (w.heap.size + 1 = 0) := by have := HH.out.names.vlt; omega
  have n2 : ¬ (E.g = w.heap.size + 1) := by have := HH.out.names.glt; omega
  have n3 : ¬ (w.heap.size + 1 = E.g) := by have := HH.out.names.glt; omega
  go_upto_block 0 with (go_at_call 39; refine (HT.out.next 12 (by decide) (by decide)).mono ?_; rintro e w2 ⟨r1, rfl, hr0, hr1, hT⟩; obtain ⟨c0, c1, c2, c3, z0, z1, z2, z3⟩ := row4 hT.blkM; have HT2 := Lib.hid hT; clear hT)
  clear hr0 hr1
  go_cut [] (fun wx => ∃ (k o : Int) (t : List UInt8), Hid (TS w wx E k o t) ∧ (t = [] ∨ t ∈ E.W))
  case first =>
    by_cases r9 : (r1 == 9) = true
    · go_wp2_with (go_at_call 40; refine HT2.out.raw.mono ?_; rintro e w3 ⟨x, rfl, hT⟩; obtain ⟨c0, c1, c2, c3, z0, z1, z2, z3⟩ := row4 hT.blkM; have HT3 := Lib.hid hT; clear hT)
      go_meet
      exact ⟨x, _, _, Lib.hid (HT3.out.set0 x), .inl rfl⟩
    · have r9' : (r1 == 9) = false := by simpa using r9
      clear r9
      by_cases r10 : (r1 == 10) = true
      · go_wp2_with (go_at_call 40; refine HT2.out.raw.mono ?_; rintro e w3 ⟨x, rfl, hT⟩; obtain ⟨c0, c1, c2, c3, z0, z1, z2, z3⟩ := row4 hT.blkM; have HT3 := Lib.hid hT; clear hT)
        go_meet
        exact ⟨_, x, _, Lib.hid (HT3.out.set2 x), .inl rfl⟩
      · have r10' : (r1 == 10) = false := by simpa using r10
        clear r10
        by_cases r11 : (r1 == 11) = true
        · go_wp2_with (fail)
          have hv := HT2.out.gen.names.head
          obtain ⟨n', s, hn0, hn', hs, hc, H⟩ := HT2.out.ahead
          have H2 := Lib.hid H
          clear H
          have hs' := Lib.hid hs
          clear hs
          go_region_held3 (fun w' => w'.cell? ⟨0, 0, none⟩ = some (.slice (some ⟨E.g, E.o, none⟩) 11 E.c) ∧ w'.cell? ⟨E.g, E.o + n', none⟩ = some (.string ⟨s.toArray⟩)) (go_keep)
            ((go_at_call 39; refine H2.out.mono ?_; rintro e w5 ⟨rfl, hc1, hwh2, d1, y1, hT⟩; have HT5 := Lib.hid hT; clear hT))
          go_wp2_with (fail)
          go_meet
          exact ⟨_, _, s, Lib.hid (HT5.out.set1 s), .inr hs'.out⟩
        · have r11' : (r1 == 11) = false := by simpa using r11
          clear r11
          go_wp2_with (fail)
          go_meet
          exact ⟨_, _, _, HT2, .inl rfl⟩
  case rest =>
  clear HT HT2 c0 c1 c2 c3 z0 z1 z2 z3
  obtain ⟨k, o, t, HT, ht⟩ := hcut
  have ht' := Lib.hid ht
  clear ht
  obtain ⟨c0, c1, c2, c3, z0, z1, z2, z3⟩ := row4 HT.out.blkM
  go_upto_if 35 with (fail)
  go_cut [] (fun wx => ∃ (k o : Int) (t : List UInt8), Hid (TS w wx E k o t) ∧ (t = [] ∨ t ∈ E.W))
  case first =>
    by_cases k5 : (k == 5) = true
    · go_wp2_with (go_at_call 39; refine (HT.out.next 4 (by decide) (by decide)).mono ?_; rintro e w2 ⟨r2, rfl, hr0, hr1, hT⟩; obtain ⟨c0, c1, c2, c3, z0, z1, z2, z3⟩ := row4 hT.blkM; have HT2 := Lib.hid hT; clear hT)
      go_meet
      exact ⟨_, r2, _, Lib.hid (HT2.out.set2 r2), ht'.out⟩
    · have k5' : (k == 5) = false := by simpa using k5
      clear k5
      go_wp2_with (fail)
      go_meet
      exact ⟨_, _, _, HT, ht'.out⟩
  case rest =>
  clear HT ht' c0 c1 c2 c3 z0 z1 z2 z3
  obtain ⟨k, o, t, HT, ht⟩ := hcut
  have ht' := Lib.hid ht
  clear ht
  obtain ⟨c0, c1, c2, c3, z0, z1, z2, z3⟩ := row4 HT.out.blkM
  go_upto_if 41 with (fail)
  go_cut [] (fun wx => ∃ (k o : Int) (t : List UInt8), Hid (TS w wx E k o t) ∧ (t = [] ∨ t ∈ E.W))
  case first =>
    by_cases k2 : (k == 2) = true
    · go_wp2_with (fail)
      have hv := HT.out.gen.names.head
      obtain ⟨n', s, hn0, hn', hs, hc, H⟩ := HT.out.ahead
      have H2 := Lib.hid H
      clear H
      have hs' := Lib.hid hs
      clear hs
      go_region_held3 (fun w' => w'.cell? ⟨0, 0, none⟩ = some (.slice (some ⟨E.g, E.o, none⟩) 11 E.c) ∧ w'.cell? ⟨E.g, E.o + n', none⟩ = some (.string ⟨s.toArray⟩)) (go_keep)
        ((go_at_call 39; refine H2.out.mono ?_; rintro e w5 ⟨rfl, hc1, hwh2, d1, y1, hT⟩; have HT5 := Lib.hid hT; clear hT))
      go_wp2_with (fail)
      go_meet
      exact ⟨_, _, s, Lib.hid (HT5.out.set1 s), .inr hs'.out⟩
    · have k2' : (k == 2) = false := by simpa using k2
      clear k2
      go_wp2_with (fail)
      go_meet
      exact ⟨_, _, _, HT, ht'.out⟩
  case rest =>
  clear HT ht' c0 c1 c2 c3 z0 z1 z2 z3
  obtain ⟨k, o, t, HT, ht⟩ := hcut
  have ht' := Lib.hid ht
  clear ht
  obtain ⟨c0, c1, c2, c3, z0, z1, z2, z3⟩ := row4 HT.out.blkM
  go_upto_block 1 with (fail)
  go_cut [6] (fun s6 wx => ∃ m : Nat, s6 = .int .i64 (m : Int) ∧ m ≤ 8 ∧ Hid (TS w wx E k o t))
  case first =>
    by_cases k2 : (k == 2) = true
    · go_wp2_with (go_at_call 39; refine (HT.out.next 3 (by decide) (by decide)).mono ?_; rintro e w2 ⟨r2, rfl, hr0, hr1, hT⟩; obtain ⟨c0, c1, c2, c3, z0, z1, z2, z3⟩ := row4 hT.blkM; have HT2 := Lib.hid hT; clear hT)
      go_meet
      obtain ⟨m, rfl⟩ := Int.eq_ofNat_of_zero_le hr0
      exact ⟨m, rfl, by omega, HT2⟩
    · have k2' : (k == 2) = false := by simpa using k2
      clear k2
      by_cases k3 : (k == 3) = true
      · go_wp2_with (go_at_call 39; refine (HT.out.next 3 (by decide) (by decide)).mono ?_; rintro e w2 ⟨r2, rfl, hr0, hr1, hT⟩; obtain ⟨c0, c1, c2, c3, z0, z1, z2, z3⟩ := row4 hT.blkM; have HT2 := Lib.hid hT; clear hT)
        go_meet
        obtain ⟨m, rfl⟩ := Int.eq_ofNat_of_zero_le hr0
        exact ⟨m, rfl, by omega, HT2⟩
      · have k3' : (k == 3) = false := by simpa using k3
        clear k3
        by_cases k4 : (k == 4) = true
        · go_wp2_with (fail)
          go_meet
          exact ⟨2, rfl, by omega, HT⟩
        · have k4' : (k == 4) = false := by simpa using k4
          clear k4
          by_cases k6 : (k == 6) = true
          · go_wp2_with (fail)
            go_meet
            exact ⟨2, rfl, by omega, HT⟩
          · have k6' : (k == 6) = false := by simpa using k6
            clear k6
            go_wp2_with (fail)
            go_meet
            exact ⟨0, rfl, by omega, HT⟩
  case rest =>
  clear HT c0 c1 c2 c3 z0 z1 z2 z3
  obtain ⟨m, rfl, hm8, HT⟩ := hcut
  go_upto_if 62 with (go_at_call 39; refine (HT.out.next 10 (by decide) (by decide)).mono ?_; rintro e w2 ⟨r3, rfl, hr0, hr1, hT⟩; obtain ⟨c0, c1, c2, c3, z0, z1, z2, z3⟩ := row4 hT.blkM; have HT2 := Lib.hid hT; clear hT)
  clear c0 c1 c2 c3 z0 z1 z2 z3
  go_cut [6] (fun s6 wx => ∃ m : Nat, s6 = .int .i64 (m : Int) ∧ m ≤ 8 ∧ Hid (TS w wx E k o t))
  case first =>
    by_cases r9 : (r3 == 9) = true
    · go_wp2_with (go_at_call 39; refine (HT2.out.next 9 (by decide) (by decide)).mono ?_; rintro e w3 ⟨r4, rfl, hr0, hr1, hT⟩; obtain ⟨c0, c1, c2, c3, z0, z1, z2, z3⟩ := row4 hT.blkM; have HT3 := Lib.hid hT; clear hT)
      go_meet
      obtain ⟨m', rfl⟩ := Int.eq_ofNat_of_zero_le hr0
      exact ⟨m', rfl, by omega, HT3⟩
    · have r9' : (r3 == 9) = false := by simpa using r9
      clear r9
      go_wp2_with (fail)
      go_meet
      exact ⟨m, rfl, by omega, HT2⟩
  case rest =>
  clear HT HT2 hr0 hr1 hm8
  obtain ⟨m, rfl, hm8, HT⟩ := hcut
  rcases Nat.eq_zero_or_pos n with rfl | hpos
  · have hd0 : decide ((0 : Int) < ((0 : Nat) : Int)) = false := by decide
    have H0 := HT.out.rt
    have HH0 := Lib.hid H0
    clear H0
    go_wp2_with (fail)
    go_loopw [7] (fun iv wr => iv = .int .i64 0 ∧ wr = wc) (fun iv _ => 0)
    case atStart => exact ⟨rfl, rfl⟩
    case round =>
      obtain ⟨rfl, rfl⟩ := hrel
      obtain ⟨d0, d1, d2, d3, y0, y1, y2, y3⟩ := row4 HH0.out.blkN
      obtain ⟨c0, c1, c2, c3, z0, z1, z2, z3⟩ := row4 HH0.out.blkM
      by_cases hlt : 0 < m
      · have tlt : decide ((0 : Int) < (m : Int)) = true := by simp; exact hlt
        go_wp2_with (fail)
        obtain ⟨m0, m1, m2, m3, _, _, _, _⟩ := row4 (t4_set HH0.out.blkN (.int .i64 k) (.string ⟨t.toArray⟩) (.int .i64 o) (.slice none 0 0))
        refine bodyPost_ret (v := .agg #[.int .i64 k, .string ⟨t.toArray⟩, .int .i64 o, .slice none 0 0]) (by simp [results, Tryd.results9, go_sem, m0, m1, m2, m3]) rfl ?_
        exact HH0.out.out (acc := .nil) ht'.out (by simp [Fo.len]) (fun _ => rfl) trivial
      · obtain rfl : m = 0 := by omega
        go_wp2_with (fail)
        obtain ⟨m0, m1, m2, m3, _, _, _, _⟩ := row4 (t4_set HH0.out.blkN (.int .i64 k) (.string ⟨t.toArray⟩) (.int .i64 o) (.slice none 0 0))
        refine bodyPost_ret (v := .agg #[.int .i64 k, .string ⟨t.toArray⟩, .int .i64 o, .slice none 0 0]) (by simp [results, Tryd.results9, go_sem, m0, m1, m2, m3]) rfl ?_
        exact HH0.out.out (acc := .nil) ht'.out (by simp [Fo.len]) (fun _ => rfl) trivial
  · obtain ⟨d, hd⟩ : ∃ d, n = d + 1 := ⟨n - 1, by omega⟩
    have hd0 : decide ((0 : Int) < (n : Int)) = true := by first | (simp; done) | (simp; omega)
    have hnd : (n : Int) - 1 = (d : Int) := by omega
    have hd' := Lib.hid hd
    clear hd
    have H0 := HT.out.rt
    have HH0 := Lib.hid H0
    clear H0
    go_wp2_with (fail)
    go_loopw [7] (fun iv wr => ∃ (i : Nat) (v : Value) (acc : Fo) (xs : List Value), iv = .int .i64 (i : Int) ∧ i ≤ m ∧ RT w wc wr E k o t i v acc xs ∧ okA E.W d acc) (fun iv _ => m - (match iv with | .int _ n => n.toNat | _ => 0))
    case atStart => exact ⟨0, _, .nil, [], rfl, Nat.zero_le _, HH0.out, trivial⟩
    case round =>
      obtain ⟨i, v, acc, xs, rfl, hic, hR, hok⟩ := hrel
      obtain ⟨A5, c5, rfl, hc5⟩ := own_shape hR.own
      obtain rfl := hR.len
      obtain ⟨c0, c1, c2, c3, z0, z1, z2, z3⟩ := row4 hR.blkM
      obtain ⟨d0, d1, d2, d3, y0, y1, y2, y3⟩ := row4 hR.blkN
      have hRH := Lib.hid hR
      clear hR
      have hok' := Lib.hid hok
      clear hok
      by_cases hlt : acc.len < m
      · have tlt : decide ((acc.len : Int) < (m : Int)) = true := by simp; exact hlt
        go_wp2_with (fail)
        have hsz := hRH.out.size
        have hbW := HH0.out.gen.lt
        have hs3 := hRH.out.s3
        have hm2 : acc.len + 1 ≤ maxLen := by unfold maxLen; omega
        have hwd : IntKind.i64.wrap (d : Int) = (d : Int) := by
          exact (IntKind.wrap_i64 _).trans (by omega)
        have hcall : Calls Tryd.prog 9 #[.pointer (some ⟨E.b, 0, none⟩), .int .i64 (d : Int)] wr.drew fun e w4 => ∃ (k1 o1 : Int) (t1 : List UInt8) (kids : Fo) (A : Option Addr) (c : Nat) (ys : List Value),
            e = .returned (.agg #[.int .i64 k1, .string ⟨t1.toArray⟩, .int .i64 o1, .slice A kids.len c]) ∧ w4.cell? ⟨w.heap.size + 1, 3, none⟩ = some (.slice A5 acc.len c5) ∧ w4.frozen? ⟨w.heap.size + 1, 3, none⟩ = false ∧ (w4.alloc (.cells #[.int .i64 k1, .string ⟨t1.toArray⟩, .int .i64 o1, .slice A kids.len c] 25)).cell? ⟨w.heap.size + 1, 3, none⟩ = some (.slice A5 acc.len c5) ∧
            AT w wc wr w4 E k o t acc.len (.slice A5 acc.len c5) acc xs k1 o1 t1 kids A c ys d := by
          refine (IH.out d (by have := hd'.out; omega) E _ hRH.out.gen.drew (by omega)).mono ?_
          rintro e w4 ⟨k1, o1, t1, kids, A, c, ys, rfl, hkc, hkr, hkw, hk, hG4, hg4⟩
          have HA := hRH.out.to_at (gb_trans (gb_drew (World.grownBy.refl _ _)) hg4) hG4 hkc hkr hkw hk
          obtain ⟨e0, e1, e2, e3, x0, x1, x2, x3⟩ := row4 HA.rnd.blkM
          exact ⟨k1, o1, t1, kids, A, c, ys, rfl, e3, x3, (World.cell?_of_block (Below.heap_alloc w4 _ _ (heap_lt HA.rnd.blkM))).trans e3, HA⟩
        have HC := Lib.hid hcall
        clear hcall
        go_region_law (first
          | (go_simp; go_at_call 9; refine HC.out.mono ?_; rintro e w4 ⟨k1, o1, t1, kids, A, c, ys, rfl, e2, x2, e2n, hA⟩; have HA := Lib.hid hA; clear hA)
          | (refine step_append_lies _ (by rfl) _ _ _ (by rfl) wc.heap.size 25 i0 _ 4 56 Tryd.underlying23 hi hz0 hz1 hz2 rfl (by omega) (.slice A5 acc.len c5) acc.len xs (by rfl) (HA.out.rnd.own.alloc _)
               ⟨w4.heap.size, 0, none⟩ 1 1 [.int .i64 k1, .string ⟨t1.toArray⟩, .int .i64 o1, .slice A kids.len c] (by rfl) (by rfl) (World.news_of_block (cs := #[.int .i64 k1, .string ⟨t1.toArray⟩, .int .i64 o1, .slice A kids.len c]) (t := 25) (fr := (0, 0)) (heap_alloc_new w4 _)) (by simp [Value.oneCell'])
               (by omega) hm2 (by omega) (by simp; have := HA.out.rnd.size; omega) (w4.heap.size + 1) (by simp) ?_; intro gg cp w5 hown5 hgrow hat hlt5; have HO := Lib.hid hown5; have HGR := Lib.hid hgrow; have HAT := Lib.hid hat; clear hown5 hat; obtain ⟨f0, f1, f2, f3, u0, u1, u2, u3⟩ := row4 (HA.out.cell hgrow); clear hgrow))
        all_goals
          go_wp2_with (fail)
          exact ⟨⟨acc.len + 1, _, _, _, rfl, by omega, HA.out.done HGR.out HAT.out HO.out, okA_app _ _ hok'.out HA.out.ok⟩, by simp; omega⟩
      · have tlt : decide ((acc.len : Int) < (m : Int)) = false := by first | (simp; done) | (simp; omega)
        have tlt' : decide (acc.len < m) = false := by first | (simp; done) | (simp; omega)
        go_wp2_with (fail)
        obtain ⟨m0, m1, m2, m3, _, _, _, _⟩ := row4 (t4_set hRH.out.blkN (.int .i64 k) (.string ⟨t.toArray⟩) (.int .i64 o) (.slice A5 acc.len c5))
        refine bodyPost_ret (v := .agg #[.int .i64 k, .string ⟨t.toArray⟩, .int .i64 o, .slice A5 acc.len c5]) (by simp [results, Tryd.results9, go_sem, m0, m1, m2, m3]) rfl ?_
        exact hRH.out.out ht'.out (by omega) (fun h => by have := hd'.out; omega) (by rw [show n - 1 = d by have := hd'.out; omega]; exact hok'.out)
end Go.Proofs.YtnidngpenhblcaaDoor
