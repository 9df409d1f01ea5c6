/- The specification's own reader of a quoted string: the same value or the same fault. -/
import Derived.Test.YtkndlbcmbfgoaaaRLeaf
import Derived.Test.YtkndlbcmbfgoaaaMem
import Derived.Deep.RegionHeld3
import Derived.Deep.AppendLies
import Derived.Deep.RegionLaw
import Derived.Lib.UnsafeStr
import Derived.Maps.AppendAt
set_option linter.unusedVariables false
set_option linter.unusedSimpArgs false
namespace Go.Proofs.Ytkndlbcmbfgoaaa
open Go.RowKit Sx

theorem infoU8 : (Try.prog.info? 5).map (fun i => (i.zero, i.size, i.bytes)) = some (some (.int .u8 0), 1, 1) := by kernel_rfl

theorem conv_own (W w : World) (base : Nat) (v : Value) (l : List UInt8) (h : w.ownsRow base 5 1 v l.length (Lib.byteCells l)) (hk : ∀ g, v.ownBlock = some g → W.heap[g]? = w.heap[g]?) :
    (convert 36 9 v).run Try.prog W = .ok (.string ⟨l.toArray⟩) W := by
  rcases h.2 with ⟨rfl, h0⟩ | ⟨g, cap, cur, rfl, hb, hg, hnc, _, hcs, htake⟩
  · rw [run_convert_bytes_nil W 36 5 Try.underlying36 Try.underlying5 0 0 9 Try.underlying9]
    have : l = [] := List.eq_nil_of_length_eq_zero h0
    subst this
    rfl
  · refine run_convert_bytes_back W 36 9 5 _ cap l Try.underlying36 Try.underlying5 Try.underlying9 fun j hj => ?_
    have hc := h.cells (g := g) rfl j (.int .u8 (l[j].toNat : Int)) (by simp [Lib.byteCells, hj])
    rw [← hc]
    refine World.cell?_of_block ?_
    have e : ((⟨g, 0, none⟩ : Addr).add j).block = g := by unfold Addr.add; split <;> rfl
    rw [e]
    exact hk g rfl

def strV (k : Int) (t : List UInt8) (o : Int) : Value := .agg #[.int .i64 k, .string ⟨t.toArray⟩, .slice none 0 0, .int .i64 o]

def RQuotPost (b : Nat) (s : ByteArray) (p : Nat) (w : World) (e : Ending) (w' : World) : Prop :=
  (match quot ((s.data.toList.drop (p + 1)).length + 1) (s.data.toList.drop (p + 1)) with
   | .bad k => ∃ (t : List UInt8) (p' : Nat), e = .returned (.agg #[.int .i64 2, .string ⟨t.toArray⟩, .slice none 0 0, .int .i64 (p : Int)]) ∧ p' ≤ s.size ∧ RA w' b s p' 2 ((p + 1 + k : Nat) : Int)
   | .ok t n => e = .returned (.agg #[.int .i64 2, .string ⟨t.toArray⟩, .slice none 0 0, .int .i64 (p : Int)]) ∧
      if 2000 < t.length then RA w' b s (p + 1 + n) 4 p else RA w' b s (p + 1 + n) 0 0) ∧ w.grownBy w' (some b)

def RQRel (b : Nat) (s : ByteArray) (p : Nat) (w : World) (v : Value) (wr : World) : Prop :=
  ∃ (acc : List UInt8) (q f : Nat), p + 1 ≤ q ∧ q ≤ s.size ∧ RA wr b s q 0 0 ∧ wr.ownsRow (w.heap.size + 2) 5 1 v acc.length (Lib.byteCells acc) ∧
    wr.heap[w.heap.size]? = some (.cells #[.int .i64 0, .string ⟨#[]⟩, .slice none 0 0, .int .i64 0] 53 (0, 0)) ∧ wr.heap[w.heap.size + 1]? = some (.cells #[.int .i64 2, .string ⟨#[]⟩, .slice none 0 0, .int .i64 (p : Int)] 53 (0, 0)) ∧
    w.grownBy wr (some b) ∧ acc.length ≤ q - (p + 1) ∧ (s.data.toList.drop q).length < f ∧
    (quot f (s.data.toList.drop q)).pre acc (q - (p + 1)) = quot ((s.data.toList.drop (p + 1)).length + 1) (s.data.toList.drop (p + 1))

theorem rq_start (b : Nat) (s : ByteArray) (p : Nat) (w : World) (h : RA w b s p 0 0) (hp : p < s.size) :
    RQRel b s p w (.slice none 0 0) (((w.setCell ⟨b, 1, none⟩ (.int .i64 ((p : Int) + 1))).alloc (.cells #[.int .i64 0, .string ⟨#[]⟩, .slice none 0 0, .int .i64 0] 53)).alloc (.cells #[.int .i64 2, .string ⟨#[]⟩, .slice none 0 0, .int .i64 (p : Int)] 53)) := by
  have h1 := heap_alloc_new (w.setCell ⟨b, 1, none⟩ (.int .i64 ((p : Int) + 1))) (.cells #[.int .i64 0, .string ⟨#[]⟩, .slice none 0 0, .int .i64 0] 53)
  have h2 := heap_alloc_new ((w.setCell ⟨b, 1, none⟩ (.int .i64 ((p : Int) + 1))).alloc (.cells #[.int .i64 0, .string ⟨#[]⟩, .slice none 0 0, .int .i64 0] 53)) (.cells #[.int .i64 2, .string ⟨#[]⟩, .slice none 0 0, .int .i64 (p : Int)] 53)
  rw [size_set] at h1
  rw [World.size_alloc, size_set] at h2
  refine ⟨[], p + 1, _, Nat.le_refl _, hp, ((h.set (p + 1)).alloc _).alloc _, World.ownsRow_nil _ _ _ _, (Below.heap_alloc _ _ _ (by simp [size_set])).trans h1, h2, ?_, by simp, Nat.lt_succ_self _, by simp [QRes.pre_nil]⟩
  refine gb_alloc (gb_alloc ?_ _) _
  refine gb_setCell ?_ (.inl rfl) _
  exact World.grownBy.refl _ _

/-- a byte more; w1: behind what moved the parser on inside the round, w2: behind the append, then the position is raised -/
theorem rq_push {b : Nat} {s : ByteArray} {p q q' f : Nat} {w wr w1 w2 : World} {v v' : Value} {acc : List UInt8} {d : UInt8} {m : Nat} {ob : Obj}
    (hpq : p + 1 ≤ q) (hq : q < s.size) (hRA1 : RA w1 b s q' 0 0) (hq' : q' + 1 = q + m) (hm : 1 ≤ m) (hm2 : q + m ≤ s.size) (hRA : RA wr b s q 0 0) (hb : b < w.heap.size)
    (hown : wr.ownsRow (w.heap.size + 2) 5 1 v acc.length (Lib.byteCells acc))
    (hN : wr.heap[w.heap.size]? = some (.cells #[.int .i64 0, .string ⟨#[]⟩, .slice none 0 0, .int .i64 0] 53 (0, 0))) (hN1 : wr.heap[w.heap.size + 1]? = some (.cells #[.int .i64 2, .string ⟨#[]⟩, .slice none 0 0, .int .i64 (p : Int)] 53 (0, 0)))
    (hg : w.grownBy wr (some b)) (hacc : acc.length ≤ q - (p + 1)) (hf : (s.data.toList.drop q).length < f + 1) (hg1 : wr.grownBy w1 (some b))
    (hg2 : (w1.alloc ob).grownBy w2 v.ownBlock) (hown2 : w2.ownsRow (w.heap.size + 2) 5 1 v' (acc.length + 1) (Lib.byteCells acc ++ [.int .u8 (d.toNat : Int)]))
    (he : (quot f (s.data.toList.drop (q + m))).pre (acc ++ [d]) (q + m - (p + 1)) = quot ((s.data.toList.drop (p + 1)).length + 1) (s.data.toList.drop (p + 1))) :
    RQRel b s p w v' (w2.setCell ⟨b, 1, none⟩ (.int .i64 ((q' : Int) + 1))) ∧ s.size - posR (w2.setCell ⟨b, 1, none⟩ (.int .i64 ((q' : Int) + 1))) b < s.size - posR wr b := by
  have hlt : ∀ x, v.ownBlock = some x → w.heap.size + 2 ≤ x := fun x hx => (hown.lt x hx).1
  have hne : ∀ x, x < w.heap.size + 2 → some x ≠ v.ownBlock := fun x hx e => by have := hlt x e.symm; omega
  have l0 := heap_lt hN
  have l1 := heap_lt hN1
  have ls := hg1.size
  have old : ∀ x, x < w.heap.size + 2 → x < w1.heap.size → w2.heap[x]? = w1.heap[x]? := fun x hx hl => (hg2.block x (by simp; omega) (hne x hx)).trans (Below.heap_alloc w1 ob x hl)
  have hR2 : RA w2 b s q' 0 0 := hRA1.kept (old b (by omega) hRA1.lt)
  have hR3 : RA (w2.setCell ⟨b, 1, none⟩ (.int .i64 ((q' : Int) + 1))) b s (q + m) 0 0 := by
    have := hR2.set (q' + 1)
    rw [hq'] at this
    have e : ((q' : Int) + 1) = ((q + m : Nat) : Int) := by omega
    rw [e]
    exact this
  have hob : v'.ownBlock ≠ some b := by
    intro e
    have := (hown2.lt b e).1
    omega
  refine ⟨⟨acc ++ [d], q + m, f, by omega, hm2, hR3, ?_, ?_, ?_, ?_, ?_, ?_, he⟩, meas2 hRA.posR hR3.posR hq (by omega)⟩
  · have : (Lib.byteCells acc ++ [Value.int .u8 (d.toNat : Int)]) = Lib.byteCells (acc ++ [d]) := by simp [Lib.byteCells]
    rw [this] at hown2
    rw [List.length_append, List.length_singleton]
    exact hown2.kept (row := some b) (gb_setCell (World.grownBy.refl _ _) (.inl rfl) _) (.inr hob)
  · exact (heap_far (by simp; omega) _).trans ((old _ (by omega) (by omega)).trans ((hg1.block _ l0 (by simp; omega)).trans hN))
  · exact (heap_far (by simp; omega) _).trans ((old _ (by omega) (by omega)).trans ((hg1.block _ l1 (by simp; omega)).trans hN1))
  · refine gb_setCell ?_ (.inl rfl) _
    exact gb_new (gb_alloc (gb_trans hg hg1) ob) hg2 (fun g h => by have := hlt g h; omega)
  · simp only [List.length_append, List.length_singleton]
    omega
  · rw [drop_len] at hf ⊢
    omega

set_option maxHeartbeats 4000000 in
set_option maxRecDepth 100000 in
theorem rQuoted_any (b : Nat) (s : ByteArray) (p : Nat) (w : World) (h : RA w b s p 0 0) (hs : s.size ≤ 65536) (hp : p < s.size) :
    Calls Try.prog 30 #[.pointer (some ⟨b, 0, none⟩)] w (RQuotPost b s p w) := by
  obtain ⟨c0, c1, c2, c3, z0, z1, z2, z3⟩ := h.row
  have hb := h.lt
  obtain ⟨i0, hi, hz0, hz1, hz2⟩ := info_parts infoU8
  go_enter Try.func30, Try.ntmps30
  go_wp2_with (fail)
  go_loopw [4, 5] (fun v _ wr => RQRel b s p w v wr) (fun _ _ wr => s.size - posR wr b)
  case atStart => exact rq_start b s p w h hp
  case round =>
    obtain ⟨acc, q, f, hpq, hq, hRA, hown, hN, hN1, hg, hacc, hf, he⟩ := hrel
    obtain ⟨f, rfl⟩ : ∃ f', f = f' + 1 := ⟨f - 1, by omega⟩
    have He := Lib.hid he
    clear he c0 c1 c2 c3 z0 z1 z2 z3
    obtain ⟨c0, c1, c2, c3, z0, z1, z2, z3⟩ := hRA.row
    obtain ⟨n0, n1, n2, n3, y0, y1, y2, y3⟩ := row4 hN
    obtain ⟨m0, m1, m2, m3, x0, x1, x2, x3⟩ := row4 hN1
    have hne0 : ¬ b = w.heap.size := by omega
    have hne1 : ¬ b = w.heap.size + 1 := by omega
    obtain ⟨A4, c4, rfl, hc4⟩ := own_shape hown
    by_cases hlt : q < s.size
    · have hget := Lib.hid (drop_at s q hlt)
      have hti : decide ((q : Int) < (s.size : Int)) = true := by simp; omega
      have b0 := byte_lo s[q]
      have b1 := byte_hi s[q]
      cases t34 : ((s[q].toNat : Int) == 34)
      · by_cases hstr : 32 ≤ (s[q].toNat : Int) ∧ (s[q].toNat : Int) ≤ 126
        · obtain ⟨s32, s126⟩ := hstr
          cases t92 : ((s[q].toNat : Int) == 92)
          · go_wp2_with (fail)
            go_quiet (fail)
            go_wp2_with (fail)
            go_quiet (fail)
            go_wp2_with (at_builtin; refine wpList_append_own_at _ rfl _ _ 36 rfl (w.heap.size + 2) 5 i0 (.int .u8 0) 1 1 Try.underlying36 hi hz0 hz1 hz2 rfl (by decide) _ _ _ rfl (World.ownsRow.alloc (by exact hown) _) ⟨wr.heap.size, 0, none⟩ 1 1 [.int .u8 (s[q].toNat : Int)] rfl rfl ?c1 ?c2 ?c3 ?c4 ?c5 ?_)
            case c1 => exact cells_new _ [_] _
            case c2 => intro u hu; simp at hu; subst hu; rfl
            case c3 => unfold maxLen; omega
            case c4 => omega
            case c5 => have := heap_lt hN1; simp; omega
            intro v' w2 hown2 hg2 _ _
            have hR2 : RA w2 b s q 0 0 := ((hRA.drewN _).alloc _).kept (hg2.block b (by have := hRA.lt; simp; omega) (fun e => by have := (hown.lt b e.symm).1; omega))
            obtain ⟨e0, e1, e2, e3, f0, f1, f2, f3⟩ := hR2.row
            go_wp2_with (fail)
            have hst := strStep_plain (r := s.data.toList.drop (q + 1)) t92 (by simp [strB]; omega)
            have he := He.out
            rw [hget.out, quot_step t34 hst, ← hget.out, QRes.pre_pre, List.drop_drop] at he
            exact rq_push (q' := q) (m := 1) hpq hlt (hRA.drewN _) rfl (Nat.le_refl _) (by omega) hRA hb hown hN hN1 hg hacc hf (gb_drewN (World.grownBy.refl _ _) _) hg2 hown2 (by rw [show q + 1 - (p + 1) = 1 + (q - (p + 1)) from by omega]; exact he)
          · have i1 : ((q : Int) + 1).toNat = q + 1 := by omega
            have i3 : 0 ≤ (q : Int) + 1 := by omega
            by_cases hend : q + 1 < s.size
            · have hget2 := Lib.hid (drop_at s (q + 1) hend)
              have i2 : (q : Int) + 1 < (s.size : Int) := by omega
              have te : ((q : Int) + 1 == (s.size : Int)) = false := by simp; omega
              have b2 := byte_lo s[q + 1]
              have b3 := byte_hi s[q + 1]
              cases d34 : ((s[q + 1].toNat : Int) == 34)
              · have d34' : ((s[q + 1].toNat : Int) != 34) = true := by simp [bne, d34]
                cases d92 : ((s[q + 1].toNat : Int) == 92)
                · have d92' : ((s[q + 1].toNat : Int) != 92) = true := by simp [bne, d92]
                  have hesc : escB (s[q + 1].toNat : Int) = false := by simp [escB]; simp at d34 d92; omega
                  have he := He.out
                  rw [hget.out, quot_bad t34 (by rw [hget2.out]; exact strStep_esc_bad t92 hesc)] at he
                  go_wp2_with (fail)
                  go_quiet (fail)
                  go_wp2_with (fail)
                  go_quiet (fail)
                  go_wp2_with (fail)
                  go_quiet (fail)
                  go_wp2_with (fail)
                  refine (rFail_any b s q 0 2 (q : Int) _ (by exact hRA.drewN _)).mono ?_
                  rintro en w1 ⟨rfl, hR1, hg1⟩
                  have hN' := (hg1.block _ (heap_lt hN) (by simp; omega)).trans hN
                  have hN1' := (hg1.block _ (heap_lt hN1) (by simp; omega)).trans hN1
                  obtain ⟨j0, j1, j2, j3, k0, k1, k2, k3⟩ := row4 hN'
                  obtain ⟨l0, l1, l2, l3, r0, r1, r2, r3⟩ := row4 hN1'
                  go_wp2_with (fail)
                  refine bodyPost_ret (v := .agg #[.int .i64 2, .string ⟨#[]⟩, .slice none 0 0, .int .i64 (p : Int)]) (by simp [results, Try.results30, go_sem, j0, j1, j2, j3]) rfl ⟨?_, ?_⟩
                  · rw [← he, QRes.pre]
                    refine ⟨[], q, rfl, (by omega), ?_⟩
                    have hR3 : RA w1 b s q 2 ((p + 1 + (0 + (q - (p + 1))) : Nat) : Int) := by
                      rw [show p + 1 + (0 + (q - (p + 1))) = q from by omega]
                      exact hR1
                    repeat (first | refine RA.far ?_ (by simp; omega) _ | exact hR3)
                  · have hg3 := gb_trans (gb_drewN hg _) hg1
                    repeat (first | refine gb_setCell ?_ (.inr (Nat.le_refl _)) _ | exact hg3)
                · have d92' : ((s[q + 1].toNat : Int) != 92) = false := by simp [bne, d92]
                  have hesc : escB (s[q + 1].toNat : Int) = true := by simp [escB]; simp at d92; omega
                  go_wp2_with (fail)
                  go_quiet (fail)
                  go_wp2_with (fail)
                  go_quiet (fail)
                  go_wp2_with (fail)
                  go_quiet (fail)
                  go_wp2_with (fail)
                  refine gen_wp _ (fun W => RA W b s (q + 1) 0 0 ∧ wr.grownBy W (some b)) ⟨(hRA.drewN _).set (q + 1), by refine gb_setCell ?_ (.inl rfl) _; exact gb_drewN (World.grownBy.refl _ _) _⟩ ?_
                  rintro W ⟨hRW, hgW⟩
                  clear c0 c1 c2 c3 z0 z1 z2 z3
                  obtain ⟨c0, c1, c2, c3, z0, z1, z2, z3⟩ := hRW.row
                  clear c1
                  have c1 : W.cell? ⟨b, 1, none⟩ = some (.int .i64 ((q : Int) + 1)) := hRW.row.2.1
                  have hownW := hown.kept hgW (by cases hv : (Value.slice A4 acc.length c4).ownBlock with | none => exact .inl rfl | some x => exact .inr (by have := (hown.lt x hv).1; simp; omega))
                  have hneb : (Value.slice A4 acc.length c4).ownBlock ≠ some b := fun e => by have := (hown.lt b e).1; omega
                  have hml : acc.length + 1 ≤ maxLen := by unfold maxLen; omega
                  have hWs := hgW.size
                  have hN1s := heap_lt hN1
                  have lb := hRW.lt
                  go_region_held3 (fun w' => w'.cell? ⟨b, 0, none⟩ = some (.string s) ∧ w'.cell? ⟨b, 1, none⟩ = some (.int .i64 ((q : Int) + 1)))
                    (first
                      | go_keep
                      | exact ⟨(World.cell?_of_block (hgrow.block b (by simp; omega) (Ne.symm hneb))).trans ((World.cell?_of_block (Below.heap_alloc W _ b lb)).trans c0), (World.cell?_of_block (hgrow.block b (by simp; omega) (Ne.symm hneb))).trans ((World.cell?_of_block (Below.heap_alloc W _ b lb)).trans c1)⟩)
                    ((refine step_append_lies _ (by rfl) _ _ _ (by rfl) (w.heap.size + 2) 5 i0 _ 1 1 Try.underlying36 hi hz0 hz1 hz2 rfl (by omega) (.slice A4 acc.length c4) acc.length (Lib.byteCells acc) (by rfl) ((hownW.alloc _).drew)
                        ⟨W.heap.size, 0, none⟩ 1 1 [.int .u8 (s[q + 1].toNat : Int)] (by rfl) (by rfl) (World.news_of_block (cs := #[.int .u8 (s[q + 1].toNat : Int)]) (t := 5) (fr := (0, 0)) (heap_alloc_new W _)) (by simp [Value.oneCell'])
                        (by omega) hml (by omega) (by simp; omega) (W.heap.size + 1) (by simp) ?_; intro gg cap w2 hown2 hgrow hat hlt2))
                  have hg2 : (W.alloc (.cells #[.int .u8 (s[q + 1].toNat : Int)] 5)).grownBy w2 (Value.slice A4 acc.length c4).ownBlock := ⟨hgrow.os, hgrow.tape, hgrow.output, hgrow.size, hgrow.block⟩
                  have hR2 : RA w2 b s (q + 1) 0 0 := (hRW.alloc _).kept (hg2.block b (by simp; omega) (Ne.symm hneb))
                  clear c0 c1 c2 c3 z0 z1 z2 z3
                  obtain ⟨c0, c1, c2, c3, z0, z1, z2, z3⟩ := hR2.row
                  have e1 : w2.cell? ⟨b, 1, none⟩ = some (.int .i64 ((q : Int) + 1)) := hR2.row.2.1
                  clear c1
                  go_wp2_with (fail)
                  have hst : strStep (s[q] :: s.data.toList.drop (q + 1)) = some (s[q + 1], 2) := by rw [hget2.out]; exact strStep_esc t92 hesc
                  have he := He.out
                  rw [hget.out, quot_step t34 hst, ← hget.out, QRes.pre_pre, List.drop_drop] at he
                  exact rq_push (q' := q + 1) (m := 2) hpq hlt hRW rfl (by omega) (by omega) hRA hb hown hN hN1 hg hacc hf hgW hg2 hown2 (by rw [show q + 2 - (p + 1) = 2 + (q - (p + 1)) from by omega]; exact he)
              · have d34' : ((s[q + 1].toNat : Int) != 34) = false := by simp [bne, d34]
                have hesc : escB (s[q + 1].toNat : Int) = true := by simp [escB]; simp at d34; omega
                go_wp2_with (fail)
                go_quiet (fail)
                go_wp2_with (fail)
                go_quiet (fail)
                go_wp2_with (fail)
                go_quiet (fail)
                go_wp2_with (fail)
                refine gen_wp _ (fun W => RA W b s (q + 1) 0 0 ∧ wr.grownBy W (some b)) ⟨(hRA.drewN _).set (q + 1), by refine gb_setCell ?_ (.inl rfl) _; exact gb_drewN (World.grownBy.refl _ _) _⟩ ?_
                rintro W ⟨hRW, hgW⟩
                clear c0 c1 c2 c3 z0 z1 z2 z3
                obtain ⟨c0, c1, c2, c3, z0, z1, z2, z3⟩ := hRW.row
                clear c1
                have c1 : W.cell? ⟨b, 1, none⟩ = some (.int .i64 ((q : Int) + 1)) := hRW.row.2.1
                have hownW := hown.kept hgW (by cases hv : (Value.slice A4 acc.length c4).ownBlock with | none => exact .inl rfl | some x => exact .inr (by have := (hown.lt x hv).1; simp; omega))
                have hneb : (Value.slice A4 acc.length c4).ownBlock ≠ some b := fun e => by have := (hown.lt b e).1; omega
                have hml : acc.length + 1 ≤ maxLen := by unfold maxLen; omega
                have hWs := hgW.size
                have hN1s := heap_lt hN1
                have lb := hRW.lt
                go_region_held3 (fun w' => w'.cell? ⟨b, 0, none⟩ = some (.string s) ∧ w'.cell? ⟨b, 1, none⟩ = some (.int .i64 ((q : Int) + 1)))
                  (first
                    | go_keep
                    | exact ⟨(World.cell?_of_block (hgrow.block b (by simp; omega) (Ne.symm hneb))).trans ((World.cell?_of_block (Below.heap_alloc W _ b lb)).trans c0), (World.cell?_of_block (hgrow.block b (by simp; omega) (Ne.symm hneb))).trans ((World.cell?_of_block (Below.heap_alloc W _ b lb)).trans c1)⟩)
                  ((refine step_append_lies _ (by rfl) _ _ _ (by rfl) (w.heap.size + 2) 5 i0 _ 1 1 Try.underlying36 hi hz0 hz1 hz2 rfl (by omega) (.slice A4 acc.length c4) acc.length (Lib.byteCells acc) (by rfl) ((hownW.alloc _).drew)
                      ⟨W.heap.size, 0, none⟩ 1 1 [.int .u8 (s[q + 1].toNat : Int)] (by rfl) (by rfl) (World.news_of_block (cs := #[.int .u8 (s[q + 1].toNat : Int)]) (t := 5) (fr := (0, 0)) (heap_alloc_new W _)) (by simp [Value.oneCell'])
                      (by omega) hml (by omega) (by simp; omega) (W.heap.size + 1) (by simp) ?_; intro gg cap w2 hown2 hgrow hat hlt2))
                have hg2 : (W.alloc (.cells #[.int .u8 (s[q + 1].toNat : Int)] 5)).grownBy w2 (Value.slice A4 acc.length c4).ownBlock := ⟨hgrow.os, hgrow.tape, hgrow.output, hgrow.size, hgrow.block⟩
                have hR2 : RA w2 b s (q + 1) 0 0 := (hRW.alloc _).kept (hg2.block b (by simp; omega) (Ne.symm hneb))
                clear c0 c1 c2 c3 z0 z1 z2 z3
                obtain ⟨c0, c1, c2, c3, z0, z1, z2, z3⟩ := hR2.row
                have e1 : w2.cell? ⟨b, 1, none⟩ = some (.int .i64 ((q : Int) + 1)) := hR2.row.2.1
                clear c1
                go_wp2_with (fail)
                have hst : strStep (s[q] :: s.data.toList.drop (q + 1)) = some (s[q + 1], 2) := by rw [hget2.out]; exact strStep_esc t92 hesc
                have he := He.out
                rw [hget.out, quot_step t34 hst, ← hget.out, QRes.pre_pre, List.drop_drop] at he
                exact rq_push (q' := q + 1) (m := 2) hpq hlt hRW rfl (by omega) (by omega) hRA hb hown hN hN1 hg hacc hf hgW hg2 hown2 (by rw [show q + 2 - (p + 1) = 2 + (q - (p + 1)) from by omega]; exact he)
            · have te : ((q : Int) + 1 == (s.size : Int)) = true := by simp; omega
              have he := He.out
              rw [hget.out, quot_bad t34 (by rw [drop_end s (q + 1) (by omega)]; exact strStep_esc_end t92)] at he
              go_wp2_with (fail)
              go_quiet (fail)
              go_wp2_with (fail)
              go_quiet (fail)
              go_wp2_with (fail)
              go_quiet (fail)
              go_wp2_with (fail)
              refine (rFail_any b s q 0 2 (q : Int) _ (by exact hRA.drewN _)).mono ?_
              rintro en w1 ⟨rfl, hR1, hg1⟩
              have hN' := (hg1.block _ (heap_lt hN) (by simp; omega)).trans hN
              have hN1' := (hg1.block _ (heap_lt hN1) (by simp; omega)).trans hN1
              obtain ⟨j0, j1, j2, j3, k0, k1, k2, k3⟩ := row4 hN'
              obtain ⟨l0, l1, l2, l3, r0, r1, r2, r3⟩ := row4 hN1'
              go_wp2_with (fail)
              refine bodyPost_ret (v := .agg #[.int .i64 2, .string ⟨#[]⟩, .slice none 0 0, .int .i64 (p : Int)]) (by simp [results, Try.results30, go_sem, j0, j1, j2, j3]) rfl ⟨?_, ?_⟩
              · rw [← he, QRes.pre]
                refine ⟨[], q, rfl, (by omega), ?_⟩
                have hR3 : RA w1 b s q 2 ((p + 1 + (0 + (q - (p + 1))) : Nat) : Int) := by
                  rw [show p + 1 + (0 + (q - (p + 1))) = q from by omega]
                  exact hR1
                repeat (first | refine RA.far ?_ (by simp; omega) _ | exact hR3)
              · have hg3 := gb_trans (gb_drewN hg _) hg1
                repeat (first | refine gb_setCell ?_ (.inr (Nat.le_refl _)) _ | exact hg3)
        · have t92 : ((s[q].toNat : Int) == 92) = false := by simp; omega
          have he := He.out
          rw [hget.out, quot_bad t34 (strStep_bad t92 (by simp [strB]; omega))] at he
          by_cases s32 : (s[q].toNat : Int) < 32
          · go_wp2_with (fail)
            go_quiet (fail)
            go_wp2_with (fail)
            go_quiet (fail)
            go_wp2_with (fail)
            refine (rFail_any b s q 0 2 (q : Int) _ (by exact hRA.drewN _)).mono ?_
            rintro en w1 ⟨rfl, hR1, hg1⟩
            have hN' := (hg1.block _ (heap_lt hN) (by simp; omega)).trans hN
            have hN1' := (hg1.block _ (heap_lt hN1) (by simp; omega)).trans hN1
            obtain ⟨j0, j1, j2, j3, k0, k1, k2, k3⟩ := row4 hN'
            obtain ⟨l0, l1, l2, l3, r0, r1, r2, r3⟩ := row4 hN1'
            go_wp2_with (fail)
            refine bodyPost_ret (v := .agg #[.int .i64 2, .string ⟨#[]⟩, .slice none 0 0, .int .i64 (p : Int)]) (by simp [results, Try.results30, go_sem, j0, j1, j2, j3]) rfl ⟨?_, ?_⟩
            · rw [← he, QRes.pre]
              refine ⟨[], q, rfl, (by omega), ?_⟩
              have hR3 : RA w1 b s q 2 ((p + 1 + (0 + (q - (p + 1))) : Nat) : Int) := by
                rw [show p + 1 + (0 + (q - (p + 1))) = q from by omega]
                exact hR1
              repeat (first | refine RA.far ?_ (by simp; omega) _ | exact hR3)
            · have hg3 := gb_trans (gb_drewN hg _) hg1
              repeat (first | refine gb_setCell ?_ (.inr (Nat.le_refl _)) _ | exact hg3)
          · have s126 : 126 < (s[q].toNat : Int) := by omega
            go_wp2_with (fail)
            go_quiet (fail)
            go_wp2_with (fail)
            go_quiet (fail)
            go_wp2_with (fail)
            refine (rFail_any b s q 0 2 (q : Int) _ (by exact hRA.drewN _)).mono ?_
            rintro en w1 ⟨rfl, hR1, hg1⟩
            have hN' := (hg1.block _ (heap_lt hN) (by simp; omega)).trans hN
            have hN1' := (hg1.block _ (heap_lt hN1) (by simp; omega)).trans hN1
            obtain ⟨j0, j1, j2, j3, k0, k1, k2, k3⟩ := row4 hN'
            obtain ⟨l0, l1, l2, l3, r0, r1, r2, r3⟩ := row4 hN1'
            go_wp2_with (fail)
            refine bodyPost_ret (v := .agg #[.int .i64 2, .string ⟨#[]⟩, .slice none 0 0, .int .i64 (p : Int)]) (by simp [results, Try.results30, go_sem, j0, j1, j2, j3]) rfl ⟨?_, ?_⟩
            · rw [← he, QRes.pre]
              refine ⟨[], q, rfl, (by omega), ?_⟩
              have hR3 : RA w1 b s q 2 ((p + 1 + (0 + (q - (p + 1))) : Nat) : Int) := by
                rw [show p + 1 + (0 + (q - (p + 1))) = q from by omega]
                exact hR1
              repeat (first | refine RA.far ?_ (by simp; omega) _ | exact hR3)
            · have hg3 := gb_trans (gb_drewN hg _) hg1
              repeat (first | refine gb_setCell ?_ (.inr (Nat.le_refl _)) _ | exact hg3)
      · have he := He.out
        rw [hget.out, quot_close t34, QRes.pre] at he
        have he2 := Lib.hid he
        clear he He
        go_wp2_with (fail)
        go_quiet (fail)
        go_wp2_with (fail)
        go_quiet (fail)
        go_wp2_with (fail)
        rw [conv_own _ wr (w.heap.size + 2) _ acc hown (fun g h => by have := (hown.lt g h).1; exact heap_far (w := wr.drewN _) (by simp; omega) _)]
        simp only [Result.andThen]
        rw [Oper.upon_value]
        by_cases hbig : 2000 < acc.length
        · go_wp2_with (fail)
          refine (rFail_any b s (q + 1) 0 4 (p : Int) _ (by exact ((hRA.drewN _).set (q + 1)).far (by simp; omega) _)).mono ?_
          rintro en w1 ⟨rfl, hR1, hg1⟩
          have hN' := (hg1.block w.heap.size (by have := heap_lt hN; simp [size_set]; omega) (by simp; omega)).trans ((heap_far (by simp) _).trans ((heap_far (w := wr.drewN _) (by simp; omega) _).trans hN))
          have hN1' := (hg1.block (w.heap.size + 1) (by have := heap_lt hN1; simp [size_set]; omega) (by simp; omega)).trans (heap_set (i := 1) ((heap_far (w := wr.drewN _) (by simp; omega) _).trans hN1) _)
          obtain ⟨j0, j1, j2, j3, k0, k1, k2, k3⟩ := row4 hN'
          obtain ⟨l0, l1, l2, l3, r0, r1, r2, r3⟩ := row4 hN1'
          go_wp2_with (fail)
          refine bodyPost_ret (v := .agg #[.int .i64 2, .string ⟨acc.toArray⟩, .slice none 0 0, .int .i64 (p : Int)]) (by simp [results, Try.results30, go_sem, j0, j1, j2, j3]) rfl ⟨?_, ?_⟩
          · rw [← he2.out]
            simp only [List.append_nil]
            refine ⟨trivial, ?_⟩
            rw [if_pos hbig, show p + 1 + (1 + (q - (p + 1))) = q + 1 from by omega]
            repeat (first | refine RA.far ?_ (by simp; omega) _ | exact hR1)
          · have hg3 : w.grownBy w1 (some b) := by
              refine gb_trans ?_ hg1
              refine gb_setCell ?_ (.inr (Nat.le_succ _)) _
              refine gb_setCell ?_ (.inl rfl) _
              exact gb_drewN hg _
            repeat (first | refine gb_setCell ?_ (.inr (Nat.le_refl _)) _ | exact hg3)
        · go_wp2_with (fail)
          refine bodyPost_ret (v := .agg #[.int .i64 2, .string ⟨acc.toArray⟩, .slice none 0 0, .int .i64 (p : Int)]) (by simp [results, Try.results30, go_sem, n0, n1, n2, n3]) rfl ⟨?_, ?_⟩
          · rw [← he2.out]
            simp only [List.append_nil]
            refine ⟨trivial, ?_⟩
            rw [if_neg hbig, show p + 1 + (1 + (q - (p + 1))) = q + 1 from by omega]
            have hR3 := (hRA.drewN 0).set (q + 1)
            repeat (first | refine RA.far ?_ (by simp; omega) _ | exact hR3)
          · repeat (first | refine gb_setCell ?_ (.inr (Nat.le_refl _)) _ | refine gb_setCell ?_ (.inr (Nat.le_succ _)) _ | refine gb_setCell ?_ (.inl rfl) _ | exact gb_drewN hg _)
    · have hti : decide ((q : Int) < (s.size : Int)) = false := by simp; omega
      go_wp2_with (fail)
      go_quiet (fail)
      have hqs : s.size = q := by omega
      have he := He.out
      rw [drop_end s q (by omega), quot_end] at he
      rw [hqs]
      go_wp2_with (fail)
      refine (rFail_any b s q 0 2 (q : Int) _ (by exact hRA.drewN _)).mono ?_
      rintro en w1 ⟨rfl, hR1, hg1⟩
      have hN' := (hg1.block _ (heap_lt hN) (by simp; omega)).trans hN
      have hN1' := (hg1.block _ (heap_lt hN1) (by simp; omega)).trans hN1
      obtain ⟨j0, j1, j2, j3, k0, k1, k2, k3⟩ := row4 hN'
      obtain ⟨l0, l1, l2, l3, r0, r1, r2, r3⟩ := row4 hN1'
      go_wp2_with (fail)
      refine bodyPost_ret (v := .agg #[.int .i64 2, .string ⟨#[]⟩, .slice none 0 0, .int .i64 (p : Int)]) (by simp [results, Try.results30, go_sem, j0, j1, j2, j3]) rfl ⟨?_, ?_⟩
      · rw [← he, QRes.pre]
        refine ⟨[], q, rfl, (by omega), ?_⟩
        have hR3 : RA w1 b s q 2 ((p + 1 + (0 + (q - (p + 1))) : Nat) : Int) := by
          rw [show p + 1 + (0 + (q - (p + 1))) = q from by omega]
          exact hR1
        repeat (first | refine RA.far ?_ (by simp; omega) _ | exact hR3)
      · have hg3 := gb_trans (gb_drewN hg _) hg1
        repeat (first | refine gb_setCell ?_ (.inr (Nat.le_refl _)) _ | exact hg3)
end Go.Proofs.Ytkndlbcmbfgoaaa
