/- The specification's own reader of nodes: the walk. -/
import Derived.Test.YtkndlbcmbfgoaaaRNodes
set_option linter.unusedVariables false
set_option linter.unusedSimpArgs false
namespace Go.Proofs.Ytkndlbcmbfgoaaa
open Go.RowKit Sx

set_option maxHeartbeats 8000000 in
set_option maxRecDepth 100000 in
theorem rNodes_says (F : Nat) : RNodesSays F := by
  induction F using Nat.strongRecOn with
  | ind F ih =>
  intro b s p d w h hs hp hd hF
  have IH := Lib.hid ih
  clear ih
  have hb := h.lt
  obtain ⟨i0, hi, hz0, hz1, hz2⟩ := info_parts infoRNode
  go_enter Try.func18, Try.ntmps18
  go_wp2_with (fail)
  go_loopw [5, 6, 7, 8] (fun v _ _ _ wr => RNodesRel F b s p d w v wr) (fun _ _ _ _ wr => measR s.size wr b)
  case atStart => exact .inl ⟨.nil, p, F, ⟨[], h, World.grownBy.refl _ _, World.ownsRow_nil w _ _ _, rfl⟩, Nat.le_refl _, hp, Nat.le_refl _, hF, by simp [Fo.len], Res.pre_nil _⟩
  case round =>
    rcases hrel with ⟨acc, q, f, hH, hpq, hq, hfF, hf, hacc, he⟩ | ⟨acc, q, k, a, hH, hq, he⟩
    · obtain ⟨f, rfl⟩ : ∃ f', f = f' + 1 := ⟨f - 1, by omega⟩
      have He := Lib.hid he
      clear he
      have hRA := hH.choose_spec.1
      obtain ⟨c0, c1, c2, c3, z0, z1, z2, z3⟩ := hRA.row
      have hml : s.size ≤ maxLen := by unfold maxLen; omega
      have hq1 := rskip_le s q hq
      have hds := Lib.hid (rdrop_skip s q)
      go_wp2_with (fail)
      refine (rSkip_any b s q 0 0 _ hRA hml hq).mono ?_
      rintro e w1 ⟨rfl, hR1, hg1⟩
      obtain ⟨q1, hq1e⟩ : ∃ q1, q + skipN false (s.data.toList.drop q) = q1 := ⟨_, rfl⟩
      have hqq : q ≤ q1 := by omega
      rw [hq1e] at hR1 hq1
      have Hq1 := Lib.hid hq1e
      clear hq1e c0 c1 c2 c3 z0 z1 z2 z3
      have hH1 := hH.keep hb hg1 hR1
      obtain ⟨c0, c1, c2, c3, z0, z1, z2, z3⟩ := hR1.row
      obtain ⟨A5, c5, rfl, hc5⟩ := own_shape hH.choose_spec.2.2.1
      by_cases hlt : q1 < s.size
      · have hget := Lib.hid (drop_at s q1 hlt)
        have te : ((q1 : Int) == (s.size : Int)) = false := by simp; omega
        have b0 := byte_lo s[q1]
        have b1 := byte_hi s[q1]
        have hdr : Hid ((s.data.toList.drop q).drop (skipN false (s.data.toList.drop q)) = s[q1] :: s.data.toList.drop (q1 + 1)) := by
          have := hds.out
          rw [Hq1.out, hget.out] at this
          exact this
        cases t41 : ((s[q1].toNat : Int) == 41)
        · cases t40 : ((s[q1].toNat : Int) == 40)
          · cases t34 : ((s[q1].toNat : Int) == 34)
            · cases hw : wordB (s[q1].toNat : Int)
              · have he := He.out
                rw [elems_else Hq1.out hdr.out hw t34 t40 (.inl t41)] at he
                have He2 := Lib.hid he
                clear he He
                go_wp2_with (fail)
                go_quiet (fail)
                go_wp2_with (fail)
                go_quiet (fail)
                go_wp2_with (go_at_call 31; refine (rIsWordByte_no _ _ b0 b1 hw).mono ?_; rintro e w' ⟨rfl, rfl⟩)
                refine (rFail_any b s q1 0 2 (q1 : Int) _ (by exact hR1.drewN _)).mono ?_
                rintro en w2 ⟨rfl, hR2, hg2⟩
                go_wp2_with (fail)
                have hH3 := (hH1.drewN hb _).keep hb hg2 hR2
                refine ⟨.inr ⟨_, q1, 2, q1, hH3, by omega, ?_⟩, ?_⟩
                · rw [← He2.out]; rfl
                · rw [measR_bad hR2 (by decide), measR_ok hRA]
                  omega
              · have he := He.out
                rw [elems_word Hq1.out hdr.out hw, ← hget.out] at he
                have He2 := Lib.hid he
                clear he He
                go_wp2_with (fail)
                go_quiet (fail)
                go_wp2_with (fail)
                go_quiet (fail)
                go_wp2_with (go_at_call 31; refine (rIsWordByte_yes _ _ b0 b1 hw).mono ?_; rintro e w' ⟨rfl, rfl⟩)
                obtain ⟨wo, rfl⟩ : ∃ wo : World, wo = wr := ⟨_, rfl⟩
                go_loopw [] (fun wi => ∃ q' : Nat, q1 ≤ q' ∧ q' ≤ s.size ∧ RA wi b s q' 0 0 ∧ w1.grownBy wi (some b) ∧ q' + wordN (s.data.toList.drop q') = q1 + wordN (s.data.toList.drop q1)) (fun wi => s.size - posR wi b)
                case atStart => exact ⟨q1, Nat.le_refl _, hq1, hR1.drewN _, gb_drewN (World.grownBy.refl _ _) _, rfl⟩
                case round =>
                  obtain ⟨q', hqq', hq', hRA', hg', he'⟩ := hrel
                  have He' := Lib.hid he'
                  clear he' c0 c1 c2 c3 z0 z1 z2 z3 te b0 b1 t41 t40 t34
                  obtain ⟨c0, c1, c2, c3, z0, z1, z2, z3⟩ := hRA'.row
                  have Hw := Lib.hid hw
                  clear hw
                  by_cases hlt' : q' < s.size
                  · have hget' := Lib.hid (drop_at s q' hlt')
                    have hti' : decide ((q' : Int) < (s.size : Int)) = true := by simp; omega
                    have b2 := byte_lo s[q']
                    have b3 := byte_hi s[q']
                    cases hw' : wordB (s[q'].toNat : Int)
                    · go_wp2_with (fail)
                      go_quiet ((go_at_call 31; exact quiet_left (rIsWordByte_no _ _ b2 b3 hw')))
                      have hm : q' = q1 + wordN (s.data.toList.drop q1) := by have := He'.out; rw [hget'.out, wordN_no hw'] at this; omega
                      have hmp : 1 ≤ wordN (s.data.toList.drop q1) := by rw [hget.out]; exact wordN_pos Hw.out
                      have hml' := wordN_le (s.data.toList.drop q1)
                      rw [drop_len] at hml'
                      have Hm := Lib.hid hm
                      by_cases hbig : 24 < wordN (s.data.toList.drop q1)
                      · have htd : decide ((24 : Int) < (q' : Int) - (q1 : Int)) = true := by simp; omega
                        clear hm
                        go_wp2_with (fail)
                        refine (rFail_any b s q' 0 4 (q1 : Int) _ (by exact hRA'.drewN _)).mono ?_
                        rintro en wf ⟨rfl, hRf, hgf⟩
                        go_wp2_with (fail)
                        refine gen_wp _ (fun W => RA W b s q' 4 (q1 : Int) ∧ w1.grownBy W (some b)) ⟨hRf, gb_trans (gb_drewN hg' _) hgf⟩ ?_
                        rintro W ⟨hRW, hgW⟩
                        clear c0 c1 c2 c3 z0 z1 z2 z3
                        obtain ⟨c0, c1, c2, c3, z0, z1, z2, z3⟩ := hRW.row
                        have hgb := gb_trans hg1 hgW
                        obtain ⟨xs, _, hg, hown, hrow⟩ := hH
                        have hgw := hg.size
                        have hw1 := hg1.size
                        have hs2 := hgW.size
                        have hownW := hown.kept hgb (by cases hv : (Value.slice A5 acc.len c5).ownBlock with | none => exact .inl rfl | some x => exact .inr (by have := (hown.lt x hv).1; simp; omega))
                        have hneb : (Value.slice A5 acc.len c5).ownBlock ≠ some b := fun e => by have := (hown.lt b e).1; omega
                        have hml2 : acc.len + 1 ≤ maxLen := by unfold maxLen; omega
                        have lb := hRW.lt
                        have hq0' : (0 : Int) ≤ (q1 : Int) := by omega
                        have hqq' : (q1 : Int) ≤ (q' : Int) := by omega
                        have hqs' : (q' : Int) ≤ (s.size : Int) := by omega
                        go_region_held3 (fun w' => w'.cell? ⟨b, 0, none⟩ = some (.string s) ∧ w'.cell? ⟨b, 1, none⟩ = some (.int .i64 (q' : Int)))
                          (first
                            | go_keep
                            | exact ⟨(World.cell?_of_block (hgrow.block b (by simp; omega) (Ne.symm hneb))).trans ((World.cell?_of_block (Below.heap_alloc W _ b lb)).trans c0), (World.cell?_of_block (hgrow.block b (by simp; omega) (Ne.symm hneb))).trans ((World.cell?_of_block (Below.heap_alloc W _ b lb)).trans c1)⟩)
                          ((refine step_append_lies _ (by rfl) _ _ _ (by rfl) w.heap.size 53 i0 _ 4 56 Try.underlying28 hi hz0 hz1 hz2 rfl (by omega) (.slice A5 acc.len c5) acc.len xs (by rfl) ((hownW.alloc _).drew)
                              ⟨W.heap.size, 0, none⟩ 1 1 [.int .i64 1, .string (s.extract q1 q'), .slice none 0 0, .int .i64 (q1 : Int)] (by rfl) (by rfl) (World.news_of_block (cs := #[.int .i64 1, .string (s.extract q1 q'), .slice none 0 0, .int .i64 (q1 : Int)]) (t := 53) (fr := (0, 0)) (heap_alloc_new W _)) (by simp [Value.oneCell'])
                              (by omega) hml2 (by omega) (by simp; omega) (W.heap.size + 1) (by simp) ?_; intro gg cap w2 hown2 hgrow hat hlt2))
                        go_wp2_with (fail)
                        rw [extract_eq] at hown2
                        have hg3 : (W.alloc (.cells #[.int .i64 1, .string (s.extract q1 q'), .slice none 0 0, .int .i64 (q1 : Int)] 53)).grownBy w2 (Value.slice A5 acc.len c5).ownBlock := ⟨hgrow.os, hgrow.tape, hgrow.output, hgrow.size, hgrow.block⟩
                        have hH3 := rn_push (kids := .nil) (A := none) (c := 0) (ys := []) (v' := .slice (some ⟨gg, 0, none⟩) (acc.len + 1) cap) hb hg hown hrow hgb hRW (Nat.le_refl _) (readsAt.none_ _ _) rfl hown2 hg3 (by rcases hat with h | h; exact .inl h.symm; exact .inr (by simp [Value.ownBlock, h]))
                        refine ⟨.inr ⟨_, q', 4, q1, hH3, by omega, ?_⟩, ?_⟩
                        · rw [← He2.out, if_pos hbig]; rfl
                        · rw [measR_bad hH3.choose_spec.1 (by decide), measR_ok hRA]
                          omega
                      · have htd : decide ((24 : Int) < (q' : Int) - (q1 : Int)) = false := by simp; omega
                        clear hm
                        go_wp2_with (fail)
                        refine gen_wp _ (fun W => RA W b s q' 0 0 ∧ w1.grownBy W (some b)) ⟨hRA'.drewN _, gb_drewN hg' _⟩ ?_
                        rintro W ⟨hRW, hgW⟩
                        clear c0 c1 c2 c3 z0 z1 z2 z3
                        obtain ⟨c0, c1, c2, c3, z0, z1, z2, z3⟩ := hRW.row
                        have hgb := gb_trans hg1 hgW
                        obtain ⟨xs, _, hg, hown, hrow⟩ := hH
                        have hgw := hg.size
                        have hw1 := hg1.size
                        have hs2 := hgW.size
                        have hownW := hown.kept hgb (by cases hv : (Value.slice A5 acc.len c5).ownBlock with | none => exact .inl rfl | some x => exact .inr (by have := (hown.lt x hv).1; simp; omega))
                        have hneb : (Value.slice A5 acc.len c5).ownBlock ≠ some b := fun e => by have := (hown.lt b e).1; omega
                        have hml2 : acc.len + 1 ≤ maxLen := by unfold maxLen; omega
                        have lb := hRW.lt
                        have hq0' : (0 : Int) ≤ (q1 : Int) := by omega
                        have hqq' : (q1 : Int) ≤ (q' : Int) := by omega
                        have hqs' : (q' : Int) ≤ (s.size : Int) := by omega
                        go_region_held3 (fun w' => w'.cell? ⟨b, 0, none⟩ = some (.string s) ∧ w'.cell? ⟨b, 1, none⟩ = some (.int .i64 (q' : Int)))
                          (first
                            | go_keep
                            | exact ⟨(World.cell?_of_block (hgrow.block b (by simp; omega) (Ne.symm hneb))).trans ((World.cell?_of_block (Below.heap_alloc W _ b lb)).trans c0), (World.cell?_of_block (hgrow.block b (by simp; omega) (Ne.symm hneb))).trans ((World.cell?_of_block (Below.heap_alloc W _ b lb)).trans c1)⟩)
                          ((refine step_append_lies _ (by rfl) _ _ _ (by rfl) w.heap.size 53 i0 _ 4 56 Try.underlying28 hi hz0 hz1 hz2 rfl (by omega) (.slice A5 acc.len c5) acc.len xs (by rfl) ((hownW.alloc _).drew)
                              ⟨W.heap.size, 0, none⟩ 1 1 [.int .i64 1, .string (s.extract q1 q'), .slice none 0 0, .int .i64 (q1 : Int)] (by rfl) (by rfl) (World.news_of_block (cs := #[.int .i64 1, .string (s.extract q1 q'), .slice none 0 0, .int .i64 (q1 : Int)]) (t := 53) (fr := (0, 0)) (heap_alloc_new W _)) (by simp [Value.oneCell'])
                              (by omega) hml2 (by omega) (by simp; omega) (W.heap.size + 1) (by simp) ?_; intro gg cap w2 hown2 hgrow hat hlt2))
                        go_wp2_with (fail)
                        rw [extract_eq] at hown2
                        have hg3 : (W.alloc (.cells #[.int .i64 1, .string (s.extract q1 q'), .slice none 0 0, .int .i64 (q1 : Int)] 53)).grownBy w2 (Value.slice A5 acc.len c5).ownBlock := ⟨hgrow.os, hgrow.tape, hgrow.output, hgrow.size, hgrow.block⟩
                        have hH3 := rn_push (kids := .nil) (A := none) (c := 0) (ys := []) (v' := .slice (some ⟨gg, 0, none⟩) (acc.len + 1) cap) hb hg hown hrow hgb hRW (Nat.le_refl _) (readsAt.none_ _ _) rfl hown2 hg3 (by rcases hat with h | h; exact .inl h.symm; exact .inr (by simp [Value.ownBlock, h]))
                        have hm := Hm.out
                        refine ⟨.inl ⟨_, q', f, hH3, by omega, by omega, by omega, by rw [drop_len] at hf ⊢; omega, by rw [Fo.len_app]; simp only [Fo.one, Fo.len]; omega, ?_⟩, ?_⟩
                        · rw [← Res.pre_pre, ← He2.out, if_neg hbig, List.drop_drop, hm, show q1 + wordN (s.data.toList.drop q1) - q1 = wordN (s.data.toList.drop q1) from by omega]
                        · rw [measR_ok hH3.choose_spec.1, measR_ok hRA]
                          omega
                    · go_wp2_with (fail)
                      go_quiet ((go_at_call 31; exact quiet_left (rIsWordByte_yes _ _ b2 b3 hw')))
                      go_wp2_with (fail)
                      have he' := He'.out
                      rw [hget'.out, wordN_yes hw'] at he'
                      exact ⟨⟨q' + 1, by omega, by omega, (hRA'.drewN _).set (q' + 1), gb_setCell (gb_drewN hg' _) (.inl rfl) _, by omega⟩, meas hRA'.posR ((hRA'.drewN _).set (q' + 1)).posR hlt'⟩
                  · have hti' : decide ((q' : Int) < (s.size : Int)) = false := by simp; omega
                    go_wp2_with (fail)
                    go_quiet (fail)
                    have hm : q' = q1 + wordN (s.data.toList.drop q1) := by have := He'.out; rw [drop_end s q' (by omega)] at this; simpa [wordN] using this
                    have hmp : 1 ≤ wordN (s.data.toList.drop q1) := by rw [hget.out]; exact wordN_pos Hw.out
                    have hml' := wordN_le (s.data.toList.drop q1)
                    rw [drop_len] at hml'
                    have Hm := Lib.hid hm
                    by_cases hbig : 24 < wordN (s.data.toList.drop q1)
                    · have htd : decide ((24 : Int) < (q' : Int) - (q1 : Int)) = true := by simp; omega
                      clear hm
                      go_wp2_with (fail)
                      refine (rFail_any b s q' 0 4 (q1 : Int) _ (by exact hRA'.drewN _)).mono ?_
                      rintro en wf ⟨rfl, hRf, hgf⟩
                      go_wp2_with (fail)
                      refine gen_wp _ (fun W => RA W b s q' 4 (q1 : Int) ∧ w1.grownBy W (some b)) ⟨hRf, gb_trans (gb_drewN hg' _) hgf⟩ ?_
                      rintro W ⟨hRW, hgW⟩
                      clear c0 c1 c2 c3 z0 z1 z2 z3
                      obtain ⟨c0, c1, c2, c3, z0, z1, z2, z3⟩ := hRW.row
                      have hgb := gb_trans hg1 hgW
                      obtain ⟨xs, _, hg, hown, hrow⟩ := hH
                      have hgw := hg.size
                      have hw1 := hg1.size
                      have hs2 := hgW.size
                      have hownW := hown.kept hgb (by cases hv : (Value.slice A5 acc.len c5).ownBlock with | none => exact .inl rfl | some x => exact .inr (by have := (hown.lt x hv).1; simp; omega))
                      have hneb : (Value.slice A5 acc.len c5).ownBlock ≠ some b := fun e => by have := (hown.lt b e).1; omega
                      have hml2 : acc.len + 1 ≤ maxLen := by unfold maxLen; omega
                      have lb := hRW.lt
                      have hq0' : (0 : Int) ≤ (q1 : Int) := by omega
                      have hqq' : (q1 : Int) ≤ (q' : Int) := by omega
                      have hqs' : (q' : Int) ≤ (s.size : Int) := by omega
                      go_region_held3 (fun w' => w'.cell? ⟨b, 0, none⟩ = some (.string s) ∧ w'.cell? ⟨b, 1, none⟩ = some (.int .i64 (q' : Int)))
                        (first
                          | go_keep
                          | exact ⟨(World.cell?_of_block (hgrow.block b (by simp; omega) (Ne.symm hneb))).trans ((World.cell?_of_block (Below.heap_alloc W _ b lb)).trans c0), (World.cell?_of_block (hgrow.block b (by simp; omega) (Ne.symm hneb))).trans ((World.cell?_of_block (Below.heap_alloc W _ b lb)).trans c1)⟩)
                        ((refine step_append_lies _ (by rfl) _ _ _ (by rfl) w.heap.size 53 i0 _ 4 56 Try.underlying28 hi hz0 hz1 hz2 rfl (by omega) (.slice A5 acc.len c5) acc.len xs (by rfl) ((hownW.alloc _).drew)
                            ⟨W.heap.size, 0, none⟩ 1 1 [.int .i64 1, .string (s.extract q1 q'), .slice none 0 0, .int .i64 (q1 : Int)] (by rfl) (by rfl) (World.news_of_block (cs := #[.int .i64 1, .string (s.extract q1 q'), .slice none 0 0, .int .i64 (q1 : Int)]) (t := 53) (fr := (0, 0)) (heap_alloc_new W _)) (by simp [Value.oneCell'])
                            (by omega) hml2 (by omega) (by simp; omega) (W.heap.size + 1) (by simp) ?_; intro gg cap w2 hown2 hgrow hat hlt2))
                      go_wp2_with (fail)
                      rw [extract_eq] at hown2
                      have hg3 : (W.alloc (.cells #[.int .i64 1, .string (s.extract q1 q'), .slice none 0 0, .int .i64 (q1 : Int)] 53)).grownBy w2 (Value.slice A5 acc.len c5).ownBlock := ⟨hgrow.os, hgrow.tape, hgrow.output, hgrow.size, hgrow.block⟩
                      have hH3 := rn_push (kids := .nil) (A := none) (c := 0) (ys := []) (v' := .slice (some ⟨gg, 0, none⟩) (acc.len + 1) cap) hb hg hown hrow hgb hRW (Nat.le_refl _) (readsAt.none_ _ _) rfl hown2 hg3 (by rcases hat with h | h; exact .inl h.symm; exact .inr (by simp [Value.ownBlock, h]))
                      refine ⟨.inr ⟨_, q', 4, q1, hH3, by omega, ?_⟩, ?_⟩
                      · rw [← He2.out, if_pos hbig]; rfl
                      · rw [measR_bad hH3.choose_spec.1 (by decide), measR_ok hRA]
                        omega
                    · have htd : decide ((24 : Int) < (q' : Int) - (q1 : Int)) = false := by simp; omega
                      clear hm
                      go_wp2_with (fail)
                      refine gen_wp _ (fun W => RA W b s q' 0 0 ∧ w1.grownBy W (some b)) ⟨hRA'.drewN _, gb_drewN hg' _⟩ ?_
                      rintro W ⟨hRW, hgW⟩
                      clear c0 c1 c2 c3 z0 z1 z2 z3
                      obtain ⟨c0, c1, c2, c3, z0, z1, z2, z3⟩ := hRW.row
                      have hgb := gb_trans hg1 hgW
                      obtain ⟨xs, _, hg, hown, hrow⟩ := hH
                      have hgw := hg.size
                      have hw1 := hg1.size
                      have hs2 := hgW.size
                      have hownW := hown.kept hgb (by cases hv : (Value.slice A5 acc.len c5).ownBlock with | none => exact .inl rfl | some x => exact .inr (by have := (hown.lt x hv).1; simp; omega))
                      have hneb : (Value.slice A5 acc.len c5).ownBlock ≠ some b := fun e => by have := (hown.lt b e).1; omega
                      have hml2 : acc.len + 1 ≤ maxLen := by unfold maxLen; omega
                      have lb := hRW.lt
                      have hq0' : (0 : Int) ≤ (q1 : Int) := by omega
                      have hqq' : (q1 : Int) ≤ (q' : Int) := by omega
                      have hqs' : (q' : Int) ≤ (s.size : Int) := by omega
                      go_region_held3 (fun w' => w'.cell? ⟨b, 0, none⟩ = some (.string s) ∧ w'.cell? ⟨b, 1, none⟩ = some (.int .i64 (q' : Int)))
                        (first
                          | go_keep
                          | exact ⟨(World.cell?_of_block (hgrow.block b (by simp; omega) (Ne.symm hneb))).trans ((World.cell?_of_block (Below.heap_alloc W _ b lb)).trans c0), (World.cell?_of_block (hgrow.block b (by simp; omega) (Ne.symm hneb))).trans ((World.cell?_of_block (Below.heap_alloc W _ b lb)).trans c1)⟩)
                        ((refine step_append_lies _ (by rfl) _ _ _ (by rfl) w.heap.size 53 i0 _ 4 56 Try.underlying28 hi hz0 hz1 hz2 rfl (by omega) (.slice A5 acc.len c5) acc.len xs (by rfl) ((hownW.alloc _).drew)
                            ⟨W.heap.size, 0, none⟩ 1 1 [.int .i64 1, .string (s.extract q1 q'), .slice none 0 0, .int .i64 (q1 : Int)] (by rfl) (by rfl) (World.news_of_block (cs := #[.int .i64 1, .string (s.extract q1 q'), .slice none 0 0, .int .i64 (q1 : Int)]) (t := 53) (fr := (0, 0)) (heap_alloc_new W _)) (by simp [Value.oneCell'])
                            (by omega) hml2 (by omega) (by simp; omega) (W.heap.size + 1) (by simp) ?_; intro gg cap w2 hown2 hgrow hat hlt2))
                      go_wp2_with (fail)
                      rw [extract_eq] at hown2
                      have hg3 : (W.alloc (.cells #[.int .i64 1, .string (s.extract q1 q'), .slice none 0 0, .int .i64 (q1 : Int)] 53)).grownBy w2 (Value.slice A5 acc.len c5).ownBlock := ⟨hgrow.os, hgrow.tape, hgrow.output, hgrow.size, hgrow.block⟩
                      have hH3 := rn_push (kids := .nil) (A := none) (c := 0) (ys := []) (v' := .slice (some ⟨gg, 0, none⟩) (acc.len + 1) cap) hb hg hown hrow hgb hRW (Nat.le_refl _) (readsAt.none_ _ _) rfl hown2 hg3 (by rcases hat with h | h; exact .inl h.symm; exact .inr (by simp [Value.ownBlock, h]))
                      have hm := Hm.out
                      refine ⟨.inl ⟨_, q', f, hH3, by omega, by omega, by omega, by rw [drop_len] at hf ⊢; omega, by rw [Fo.len_app]; simp only [Fo.one, Fo.len]; omega, ?_⟩, ?_⟩
                      · rw [← Res.pre_pre, ← He2.out, if_neg hbig, List.drop_drop, hm, show q1 + wordN (s.data.toList.drop q1) - q1 = wordN (s.data.toList.drop q1) from by omega]
                      · rw [measR_ok hH3.choose_spec.1, measR_ok hRA]
                        omega
            · have hw := wordB_34 t34
              have he := He.out
              rw [elems_str Hq1.out hdr.out hw t34] at he
              go_wp2_with (fail)
              go_quiet (fail)
              go_wp2_with (fail)
              go_quiet (fail)
              go_wp2_with (fail)
              refine (rQuoted_any b s q1 _ (by exact hR1.drewN _) hs hlt).mono ?_
              intro e w2 hpost
              unfold RQuotPost at hpost
              obtain ⟨hpost, hg2⟩ := hpost
              rcases hqt : quot ((s.data.toList.drop (q1 + 1)).length + 1) (s.data.toList.drop (q1 + 1)) with k | ⟨t, n⟩
              · rw [hqt] at hpost he
                dsimp only at hpost he
                obtain ⟨t, p', rfl, hp', hR2⟩ := hpost
                have He2 := Lib.hid he
                clear he He hqt
                have hs2 : w1.heap.size ≤ w2.heap.size := hg2.size
                have hgb := gb_trans (gb_drewN hg1 _) hg2
                obtain ⟨xs, _, hg, hown, hrow⟩ := hH
                have hgw := hg.size
                have hw1 := hg1.size
                have hown2 := hown.kept hgb (by cases hv : (Value.slice A5 acc.len c5).ownBlock with | none => exact .inl rfl | some x => exact .inr (by have := (hown.lt x hv).1; simp; omega))
                go_wp2_with (at_builtin; refine wpList_append_own_at _ rfl _ _ 28 rfl w.heap.size 53 i0 (.agg #[.int .i64 0, .string ⟨#[]⟩, .slice none 0 0, .int .i64 0]) 4 56 Try.underlying28 hi hz0 hz1 hz2 rfl (by decide) _ _ _ rfl (World.ownsRow.alloc (by exact hown2) _) ⟨w2.heap.size, 0, none⟩ 1 1 [.int .i64 2, .string ⟨t.toArray⟩, .slice none 0 0, .int .i64 (q1 : Int)] rfl rfl ?c1 ?c2 ?c3 ?c4 ?c5 ?_)
                case c1 => exact cells_new _ _ _
                case c2 => intro u hu; simp at hu; rcases hu with rfl | rfl | rfl | rfl <;> rfl
                case c3 => unfold maxLen; omega
                case c4 => omega
                case c5 => simp; omega
                intro v' w3 hown3 hg3 _ hat
                go_wp2_with (fail)
                have hH3 := rn_push (kids := .nil) (A := none) (c := 0) (ys := []) hb hg hown hrow hgb hR2 (Nat.le_refl _) (readsAt.none_ _ _) rfl hown3 hg3 hat
                refine ⟨.inr ⟨_, p', 2, q1 + 1 + k, hH3, by omega, ?_⟩, ?_⟩
                · rw [← He2.out]; rfl
                · rw [measR_bad hH3.choose_spec.1 (by decide), measR_ok hRA]
                  omega
              · rw [hqt] at hpost he
                have hql := quot_len _ _ _ _ hqt
                rw [drop_len] at hql
                dsimp only at hpost he
                obtain ⟨rfl, hpost⟩ := hpost
                clear hqt
                by_cases hbig : 2000 < t.length
                · rw [if_pos hbig] at hpost he
                  have hR2 := hpost
                  clear hpost
                  have He2 := Lib.hid he
                  clear he He
                  have hs2 : w1.heap.size ≤ w2.heap.size := hg2.size
                  have hgb := gb_trans (gb_drewN hg1 _) hg2
                  obtain ⟨xs, _, hg, hown, hrow⟩ := hH
                  have hgw := hg.size
                  have hw1 := hg1.size
                  have hown2 := hown.kept hgb (by cases hv : (Value.slice A5 acc.len c5).ownBlock with | none => exact .inl rfl | some x => exact .inr (by have := (hown.lt x hv).1; simp; omega))
                  go_wp2_with (at_builtin; refine wpList_append_own_at _ rfl _ _ 28 rfl w.heap.size 53 i0 (.agg #[.int .i64 0, .string ⟨#[]⟩, .slice none 0 0, .int .i64 0]) 4 56 Try.underlying28 hi hz0 hz1 hz2 rfl (by decide) _ _ _ rfl (World.ownsRow.alloc (by exact hown2) _) ⟨w2.heap.size, 0, none⟩ 1 1 [.int .i64 2, .string ⟨t.toArray⟩, .slice none 0 0, .int .i64 (q1 : Int)] rfl rfl ?c1 ?c2 ?c3 ?c4 ?c5 ?_)
                  case c1 => exact cells_new _ _ _
                  case c2 => intro u hu; simp at hu; rcases hu with rfl | rfl | rfl | rfl <;> rfl
                  case c3 => unfold maxLen; omega
                  case c4 => omega
                  case c5 => simp; omega
                  intro v' w3 hown3 hg3 _ hat
                  go_wp2_with (fail)
                  have hH3 := rn_push (kids := .nil) (A := none) (c := 0) (ys := []) hb hg hown hrow hgb hR2 (Nat.le_refl _) (readsAt.none_ _ _) rfl hown3 hg3 hat
                  refine ⟨.inr ⟨_, _, 4, q1, hH3, by omega, ?_⟩, ?_⟩
                  · rw [← He2.out]; rfl
                  · rw [measR_bad hH3.choose_spec.1 (by decide), measR_ok hRA]
                    omega
                · rw [if_neg hbig] at hpost he
                  have hR2 := hpost
                  clear hpost
                  have He2 := Lib.hid he
                  clear he He
                  have hs2 : w1.heap.size ≤ w2.heap.size := hg2.size
                  have hgb := gb_trans (gb_drewN hg1 _) hg2
                  obtain ⟨xs, _, hg, hown, hrow⟩ := hH
                  have hgw := hg.size
                  have hw1 := hg1.size
                  have hown2 := hown.kept hgb (by cases hv : (Value.slice A5 acc.len c5).ownBlock with | none => exact .inl rfl | some x => exact .inr (by have := (hown.lt x hv).1; simp; omega))
                  go_wp2_with (at_builtin; refine wpList_append_own_at _ rfl _ _ 28 rfl w.heap.size 53 i0 (.agg #[.int .i64 0, .string ⟨#[]⟩, .slice none 0 0, .int .i64 0]) 4 56 Try.underlying28 hi hz0 hz1 hz2 rfl (by decide) _ _ _ rfl (World.ownsRow.alloc (by exact hown2) _) ⟨w2.heap.size, 0, none⟩ 1 1 [.int .i64 2, .string ⟨t.toArray⟩, .slice none 0 0, .int .i64 (q1 : Int)] rfl rfl ?c1 ?c2 ?c3 ?c4 ?c5 ?_)
                  case c1 => exact cells_new _ _ _
                  case c2 => intro u hu; simp at hu; rcases hu with rfl | rfl | rfl | rfl <;> rfl
                  case c3 => unfold maxLen; omega
                  case c4 => omega
                  case c5 => simp; omega
                  intro v' w3 hown3 hg3 _ hat
                  go_wp2_with (fail)
                  have hH3 := rn_push (kids := .nil) (A := none) (c := 0) (ys := []) hb hg hown hrow hgb hR2 (Nat.le_refl _) (readsAt.none_ _ _) rfl hown3 hg3 hat
                  refine ⟨.inl ⟨_, _, f, hH3, by omega, by omega, by omega, by rw [drop_len] at hf ⊢; omega, by rw [Fo.len_app]; simp only [Fo.one, Fo.len]; omega, ?_⟩, ?_⟩
                  · rw [← Res.pre_pre, ← He2.out, List.drop_drop]
                  · rw [measR_ok hH3.choose_spec.1, measR_ok hRA]
                    omega
          · have he := He.out
            rw [elems_list Hq1.out hdr.out t40] at he
            by_cases hbig : 40 < d + 1
            · rw [if_pos hbig] at he
              have td : ((d : Int) == 40) = true := by simp; omega
              have He2 := Lib.hid he
              clear he He
              go_wp2_with (fail)
              go_quiet (fail)
              go_wp2_with (fail)
              go_quiet (fail)
              go_wp2_with (fail)
              refine (rFail_any b s q1 0 9 (q1 : Int) _ (by exact hR1.drewN _)).mono ?_
              rintro en w2 ⟨rfl, hR2, hg2⟩
              go_wp2_with (fail)
              go_ret
              refine rn_done ((hH1.drewN hb _).keep hb hg2 hR2) ?_
              rw [← He2.out]
              exact ⟨q1, by omega, hR2⟩
            · rw [if_neg hbig] at he
              have td : ((d : Int) == 40) = false := by simp; omega
              go_wp2_with (fail)
              go_quiet (fail)
              go_wp2_with (fail)
              go_quiet (fail)
              go_wp2_with (fail)
              refine (IH.out f (by omega) b s (q1 + 1) (d + 1) _ (by exact (hR1.drewN _).set (q1 + 1)) hs (by omega) (by omega) (by rw [drop_len] at hf ⊢; omega)).mono ?_
              intro e w2 hpost
              unfold RNodesPost at hpost
              obtain ⟨⟨v2, f2, rfl, hsl, hm⟩, hg2'⟩ := hpost
              obtain ⟨A, c, ys, rfl, hc, hr, hro⟩ := hsl
              have hwd : (w1.heap.size : Nat) ≤ w2.heap.size := by have := hg2'.size; rw [size_set] at this; exact this
              rcases hel : elems f (d + 1) (q1 + 1) (s.data.toList.drop (q1 + 1)) with ⟨k, a⟩ | ⟨ns, q2⟩
              · rw [hel] at hm he
                dsimp only at hm he
                obtain ⟨q2, hq2, hR2'⟩ := hm
                have hk0 : k ≠ 0 := by rcases elems_kind _ _ _ _ _ _ hel with h | h | h <;> omega
                have He2 := Lib.hid he
                clear he He hel
                have hgW : (w1.drewN 0).grownBy w2 (some b) := by
                  refine gb_trans (b := w1.setCell ⟨b, 1, none⟩ (.int .i64 ((q1 : Int) + 1))) ?_ ⟨hg2'.os, hg2'.tape, hg2'.output, hg2'.size, hg2'.block⟩
                  refine gb_setCell ?_ (.inl rfl) _
                  exact ⟨rfl, rfl, rfl, Nat.le_refl _, fun _ _ _ => rfl⟩
                have hr2 : readsAt w2 (fun x => wr.heap.size ≤ x) A f2.len ys := hr.keep (Nat.le_refl _) (fun x hx _ => ⟨rfl, by rw [size_set] at hx; exact Nat.le_trans hg1.size hx⟩)
                have hro2 : rowOf w2 (fun x => wr.heap.size ≤ x) f2 ys := hro.keep (Nat.le_refl _) (fun x hx _ => ⟨rfl, by rw [size_set] at hx; exact Nat.le_trans hg1.size hx⟩) _
                obtain ⟨j0, j1, j2, j3, l0, l1, l2, l3⟩ := hR2'.row
                have hR2 := hR2'.set (q2 + 1)
                have hg2 : (w1.drewN 0).grownBy (w2.setCell ⟨b, 1, none⟩ (.int .i64 ((q2 : Int) + 1))) (some b) := by
                  refine gb_setCell ?_ (.inl rfl) _
                  exact hgW
                have hbw := hH.choose_spec.2.1.size
                have hr3 : readsAt (w2.setCell ⟨b, 1, none⟩ (.int .i64 ((q2 : Int) + 1))) (fun x => wr.heap.size ≤ x) A f2.len ys := hr2.keep (by rw [size_set]; exact Nat.le_refl _) (fun x hx _ => ⟨heap_far (by simp; omega) _, hx⟩)
                have hro3 : rowOf (w2.setCell ⟨b, 1, none⟩ (.int .i64 ((q2 : Int) + 1))) (fun x => wr.heap.size ≤ x) f2 ys := hro2.keep (by rw [size_set]; exact Nat.le_refl _) (fun x hx _ => ⟨heap_far (by simp; omega) _, hx⟩) _
                have hs2 : w1.heap.size ≤ w2.heap.size := hwd
                have hgb := gb_trans (gb_drewN hg1 _) hg2
                obtain ⟨xs, _, hg, hown, hrow⟩ := hH
                have hgw := hg.size
                have hw1 := hg1.size
                have hown2 := hown.kept hgb (by cases hv : (Value.slice A5 acc.len c5).ownBlock with | none => exact .inl rfl | some x => exact .inr (by have := (hown.lt x hv).1; simp; omega))
                go_wp2_with (at_builtin; refine wpList_append_own_at _ rfl _ _ 28 rfl w.heap.size 53 i0 (.agg #[.int .i64 0, .string ⟨#[]⟩, .slice none 0 0, .int .i64 0]) 4 56 Try.underlying28 hi hz0 hz1 hz2 rfl (by decide) _ _ _ rfl (World.ownsRow.alloc (by exact hown2) _) ⟨w2.heap.size, 0, none⟩ 1 1 [.int .i64 3, .string ⟨#[]⟩, .slice A f2.len c, .int .i64 (q1 : Int)] rfl rfl ?c1 ?c2 ?c3 ?c4 ?c5 ?_)
                case c1 => exact cells_new' (size_set w2 ⟨b, 1, none⟩ (.int .i64 ((q2 : Int) + 1)))
                case c2 => intro u hu; simp at hu; rcases hu with rfl | rfl | rfl | rfl <;> rfl
                case c3 => unfold maxLen; omega
                case c4 => omega
                case c5 => simp [size_set]; omega
                intro v' w3 hown3 hg3 _ hat
                go_wp2_with (fail)
                have hH3 := rn_push (t := []) hb hg hown hrow hgb hR2 hc hr3 hro3 hown3 hg3 (by simpa [size_set] using hat)
                refine ⟨.inr ⟨_, q2 + 1, k, a, hH3, by omega, ?_⟩, ?_⟩
                · rw [← He2.out]; rfl
                · rw [measR_bad hH3.choose_spec.1 hk0, measR_ok hRA]
                  omega
              · rw [hel] at hm he
                dsimp only at hm he
                obtain ⟨rfl, hR2'⟩ := hm
                obtain ⟨p1, p2, p3, p4⟩ := elems_pos _ _ _ _ _ _ hel
                rw [drop_len] at p2 p3
                have p3' := p3 (by omega)
                have He2 := Lib.hid he
                clear he He hel p3
                have hgW : (w1.drewN 0).grownBy w2 (some b) := by
                  refine gb_trans (b := w1.setCell ⟨b, 1, none⟩ (.int .i64 ((q1 : Int) + 1))) ?_ ⟨hg2'.os, hg2'.tape, hg2'.output, hg2'.size, hg2'.block⟩
                  refine gb_setCell ?_ (.inl rfl) _
                  exact ⟨rfl, rfl, rfl, Nat.le_refl _, fun _ _ _ => rfl⟩
                have hr2 : readsAt w2 (fun x => wr.heap.size ≤ x) A f2.len ys := hr.keep (Nat.le_refl _) (fun x hx _ => ⟨rfl, by rw [size_set] at hx; exact Nat.le_trans hg1.size hx⟩)
                have hro2 : rowOf w2 (fun x => wr.heap.size ≤ x) f2 ys := hro.keep (Nat.le_refl _) (fun x hx _ => ⟨rfl, by rw [size_set] at hx; exact Nat.le_trans hg1.size hx⟩) _
                obtain ⟨j0, j1, j2, j3, l0, l1, l2, l3⟩ := hR2'.row
                have hR2 := hR2'.set (q2 + 1)
                have hg2 : (w1.drewN 0).grownBy (w2.setCell ⟨b, 1, none⟩ (.int .i64 ((q2 : Int) + 1))) (some b) := by
                  refine gb_setCell ?_ (.inl rfl) _
                  exact hgW
                have hbw := hH.choose_spec.2.1.size
                have hr3 : readsAt (w2.setCell ⟨b, 1, none⟩ (.int .i64 ((q2 : Int) + 1))) (fun x => wr.heap.size ≤ x) A f2.len ys := hr2.keep (by rw [size_set]; exact Nat.le_refl _) (fun x hx _ => ⟨heap_far (by simp; omega) _, hx⟩)
                have hro3 : rowOf (w2.setCell ⟨b, 1, none⟩ (.int .i64 ((q2 : Int) + 1))) (fun x => wr.heap.size ≤ x) f2 ys := hro2.keep (by rw [size_set]; exact Nat.le_refl _) (fun x hx _ => ⟨heap_far (by simp; omega) _, hx⟩) _
                have hs2 : w1.heap.size ≤ w2.heap.size := hwd
                have hgb := gb_trans (gb_drewN hg1 _) hg2
                obtain ⟨xs, _, hg, hown, hrow⟩ := hH
                have hgw := hg.size
                have hw1 := hg1.size
                have hown2 := hown.kept hgb (by cases hv : (Value.slice A5 acc.len c5).ownBlock with | none => exact .inl rfl | some x => exact .inr (by have := (hown.lt x hv).1; simp; omega))
                go_wp2_with (at_builtin; refine wpList_append_own_at _ rfl _ _ 28 rfl w.heap.size 53 i0 (.agg #[.int .i64 0, .string ⟨#[]⟩, .slice none 0 0, .int .i64 0]) 4 56 Try.underlying28 hi hz0 hz1 hz2 rfl (by decide) _ _ _ rfl (World.ownsRow.alloc (by exact hown2) _) ⟨w2.heap.size, 0, none⟩ 1 1 [.int .i64 3, .string ⟨#[]⟩, .slice A f2.len c, .int .i64 (q1 : Int)] rfl rfl ?c1 ?c2 ?c3 ?c4 ?c5 ?_)
                case c1 => exact cells_new' (size_set w2 ⟨b, 1, none⟩ (.int .i64 ((q2 : Int) + 1)))
                case c2 => intro u hu; simp at hu; rcases hu with rfl | rfl | rfl | rfl <;> rfl
                case c3 => unfold maxLen; omega
                case c4 => omega
                case c5 => simp [size_set]; omega
                intro v' w3 hown3 hg3 _ hat
                go_wp2_with (fail)
                have hH3 := rn_push (t := []) hb hg hown hrow hgb hR2 hc hr3 hro3 hown3 hg3 (by simpa [size_set] using hat)
                refine ⟨.inl ⟨_, _, f, hH3, by omega, by omega, by omega, by rw [drop_len] at hf ⊢; omega, by rw [Fo.len_app]; simp only [Fo.one, Fo.len]; omega, ?_⟩, ?_⟩
                · rw [← Res.pre_pre, ← He2.out, List.drop_drop, show q1 + 1 + (q2 - q1) = q2 + 1 from by omega]
                · rw [measR_ok hH3.choose_spec.1, measR_ok hRA]
                  omega
        · by_cases ho0 : 0 < d
          · have td : ((d : Int) == 0) = false := by simp; omega
            have he := He.out
            rw [elems_close Hq1.out hdr.out t41 ho0] at he
            have He2 := Lib.hid he
            clear he He
            go_wp2_with (fail)
            go_quiet (fail)
            go_wp2_with (fail)
            go_quiet (fail)
            go_wp2_with (fail)
            go_ret
            refine rn_done (hH1.drewN hb _) ?_
            rw [← He2.out]
            simp only [Res.pre, Fo.app_nil]
            exact ⟨trivial, hR1⟩
          · have td : ((d : Int) == 0) = true := by simp; omega
            have hw := wordB_41 t41
            have t34 := ne_34_41 t41
            have t40 := ne_40_41 t41
            have he := He.out
            rw [elems_else Hq1.out hdr.out hw t34 t40 (.inr (by omega))] at he
            have He2 := Lib.hid he
            clear he He
            go_wp2_with (fail)
            go_quiet (fail)
            go_wp2_with (fail)
            go_quiet (fail)
            go_wp2_with (fail)
            refine (rFail_any b s q1 0 2 (q1 : Int) _ (by exact hR1.drewN _)).mono ?_
            rintro en w2 ⟨rfl, hR2, hg2⟩
            go_wp2_with (fail)
            go_ret
            refine rn_done ((hH1.drewN hb _).keep hb hg2 hR2) ?_
            rw [← He2.out]
            exact ⟨q1, by omega, hR2⟩
      · have hend := Lib.hid (show q1 = s.size from by omega)
        have te : ((q1 : Int) == (s.size : Int)) = true := by simp; omega
        have hdr : Hid ((s.data.toList.drop q).drop (skipN false (s.data.toList.drop q)) = []) := by
          have := hds.out
          rw [Hq1.out, drop_end s q1 (by have := hend.out; omega)] at this
          exact this
        have he := He.out
        rw [elems_nil Hq1.out hdr.out] at he
        by_cases ho0 : 0 < d
        · rw [if_pos ho0] at he
          have He2 := Lib.hid he
          clear he He
          go_wp2_with (fail)
          go_quiet (fail)
          go_wp2_with (fail)
          refine (rFail_any b s q1 0 2 (q1 : Int) _ (by exact hR1.drewN _)).mono ?_
          rintro en w2 ⟨rfl, hR2, hg2⟩
          go_wp2_with (fail)
          go_ret
          refine rn_done ((hH1.drewN hb _).keep hb hg2 hR2) ?_
          rw [← He2.out]
          exact ⟨q1, by omega, hR2⟩
        · rw [if_neg ho0] at he
          have He2 := Lib.hid he
          clear he He
          go_wp2_with (fail)
          go_quiet (fail)
          go_wp2_with (fail)
          go_ret
          refine rn_done (hH1.drewN hb _) ?_
          rw [← He2.out]
          simp only [Res.pre, Fo.app_nil]
          exact ⟨trivial, hR1⟩
    · have hk : k ≠ 0 := by rcases elems_kind _ _ _ _ _ _ he with h | h | h <;> omega
      have hk' : (k == 0) = false := by simpa using hk
      have hRA := hH.choose_spec.1
      obtain ⟨c0, c1, c2, c3, z0, z1, z2, z3⟩ := hRA.row
      have He := Lib.hid he
      clear he
      go_wp2_with (fail)
      go_ret
      refine rn_done hH ?_
      rw [He.out]
      exact ⟨q, hq, hRA⟩
end Go.Proofs.Ytkndlbcmbfgoaaa
