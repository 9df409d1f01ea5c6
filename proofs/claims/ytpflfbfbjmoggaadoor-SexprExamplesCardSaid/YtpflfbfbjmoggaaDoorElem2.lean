/- sexpr.elements: the nodes from a position on, for every text of at most 65536 bytes. -/
import Derived.Test.YtpflfbfbjmoggaaDoorElems
set_option linter.unusedVariables false
set_option linter.unusedSimpArgs false
namespace Go.Proofs.YtpflfbfbjmoggaaDoor
open Go.RowKit Sx

/-- what holds at every round's head -/
def ElemsRel (F b : Nat) (s : ByteArray) (p o : Nat) (w : World) (v : Value) (wr : World) : Prop :=
  ∃ (acc : Fo) (q f : Nat) (xs : List Value), p ≤ q ∧ q ≤ s.size ∧ f ≤ F ∧ (s.data.toList.drop q).length < f ∧ acc.len ≤ q - p ∧ PA wr b s q ∧ w.grownBy wr (some b) ∧
    wr.ownsRow w.heap.size 31 4 v acc.len xs ∧ rowOf wr (fun x => w.heap.size ≤ x ∧ v.ownBlock ≠ some x) acc xs ∧
    (elems f o q (s.data.toList.drop q)).pre acc = elems F o p (s.data.toList.drop p)

theorem drop_skip (s : ByteArray) (q : Nat) : (s.data.toList.drop q).drop (skipN false (s.data.toList.drop q)) = s.data.toList.drop (q + skipN false (s.data.toList.drop q)) := by rw [List.drop_drop]

theorem skip_le (s : ByteArray) (q : Nat) (hq : q ≤ s.size) : q + skipN false (s.data.toList.drop q) ≤ s.size := by
  have := skipN_le false (s.data.toList.drop q)
  rw [drop_len] at this
  omega

theorem elems_push {F b p o q q1 q2 f : Nat} {s : ByteArray} {w wr w2 w3 : World} {acc kids : Fo} {xs ys : List Value} {v v' : Value} {k ofs : Int} {t : List UInt8} {A : Option Addr} {c : Nat} {ob : Obj}
    (hb : b < w.heap.size) (hpq : p ≤ q) (hqq : q ≤ q1) (h12 : q1 < q2) (hq2 : q2 ≤ s.size) (hfF : f + 1 ≤ F) (hf : (s.data.toList.drop q).length < f + 1) (hacc : acc.len ≤ q - p) (hPA : PA wr b s q) (hg : w.grownBy wr (some b))
    (hown : wr.ownsRow w.heap.size 31 4 v acc.len xs) (hrow : rowOf wr (fun x => w.heap.size ≤ x ∧ v.ownBlock ≠ some x) acc xs) (hgb : wr.grownBy w2 (some b)) (hP2 : PA w2 b s q2)
    (hc : kids.len ≤ c) (hr : readsAt w2 (fun x => wr.heap.size ≤ x) A kids.len ys) (hk : rowOf w2 (fun x => wr.heap.size ≤ x) kids ys)
    (hown3 : w3.ownsRow w.heap.size 31 4 v' (acc.len + 1) (xs ++ [.int .i64 k, .string ⟨t.toArray⟩, .slice A kids.len c, .int .i64 ofs]))
    (hg3 : (w2.alloc ob).grownBy w3 v.ownBlock) (hat : v'.ownBlock = v.ownBlock ∨ v'.ownBlock = some (w2.heap.size + 1))
    (he : ((elems f o q2 (s.data.toList.drop q2)).pre (.one k t kids ofs)).pre acc = elems F o p (s.data.toList.drop p)) :
    ElemsRel F b s p o w v' w3 ∧ s.size - posOf w3 b < s.size - posOf wr b := by
  have hs2 := hgb.size
  have hs := hg.size
  have hne : some b ≠ v.ownBlock := fun e => by have := (hown.lt b e.symm).1; omega
  have hlt := hP2.lt
  have hP3 : PA w3 b s q2 := (hP2.alloc hlt ob).kept (hg3.block b (by simp; omega) hne)
  refine ⟨⟨acc.app (.one k t kids ofs), q2, f, _, by omega, hq2, by omega, ?_, ?_, hP3, gb_new (gb_alloc (gb_trans hg hgb) ob) hg3 (fun g h => (hown.lt g h).1), ?_, push_row hown hrow hb hs hgb hc hr hk hg3 hat, ?_⟩, meas2 hPA.pos hP3.pos (by omega) (by omega)⟩
  · rw [drop_len] at hf ⊢
    omega
  · rw [Fo.len_app]
    simp only [Fo.one, Fo.len]
    omega
  · rw [Fo.len_app]
    exact hown3
  · rw [← Res.pre_pre]
    exact he

set_option maxHeartbeats 4000000 in
theorem elems_says (F : Nat) : ElemsSays F := by
  induction F using Nat.strongRecOn with
  | ind F ih =>
  intro b s p o w h hs hp ho hF
  have IH := Lib.hid ih
  clear ih
  have hb := h.lt
  obtain ⟨i0, hi, hz0, hz1, hz2⟩ := info_parts infoNode
  go_enter Tryd.func49, Tryd.ntmps49
  go_wp2_with (fail)
  go_loopw [5] (fun v wr => ElemsRel F b s p o w v wr) (fun _ wr => s.size - posOf wr b)
  case atStart => exact ⟨.nil, p, F, [], Nat.le_refl _, hp, Nat.le_refl _, hF, by simp [Fo.len], h, World.grownBy.refl _ _, World.ownsRow_nil w _ _ _, rfl, Res.pre_nil _⟩
  case round =>
    obtain ⟨acc, q, f, xs, hpq, hq, hfF, hf, hacc, hPA, hg, hown, hrow, he⟩ := hrel
    obtain ⟨f, rfl⟩ : ∃ f', f = f' + 1 := ⟨f - 1, by omega⟩
    have He := Lib.hid he
    clear he
    have hml : s.size ≤ maxLen := by unfold maxLen; omega
    have hq1 := skip_le s q hq
    have hds := Lib.hid (drop_skip s q)
    go_wp2_with (fail)
    refine (skip_any b s q _ hPA hml hq).mono ?_
    rintro e w1 ⟨rfl, hP1, hg1⟩
    obtain ⟨q1, hq1e⟩ : ∃ q1, q + skipN false (s.data.toList.drop q) = q1 := ⟨_, rfl⟩
    have hqq : q ≤ q1 := by omega
    rw [hq1e] at hP1 hq1
    have Hq1 := Lib.hid hq1e
    clear hq1e
    have hw1 := hg1.size
    have hgw := hg.size
    have hown1 := hown.kept hg1 (by cases hv : u5.ownBlock with | none => exact .inl rfl | some x => exact .inr (by have := (hown.lt x hv).1; simp; omega))
    have hrow1 := hrow.keep (S' := fun x => w.heap.size ≤ x ∧ u5.ownBlock ≠ some x) hw1 (fun x hx hl => ⟨hg1.block x hl (by simp; omega), hx⟩) _
    obtain ⟨A5, c5, rfl, hc5⟩ := own_shape hown1
    by_cases hlt : q1 < s.size
    · have hget := Lib.hid (drop_at s q1 hlt)
      have b0 := byte_lo s[q1]
      have b1 := byte_hi s[q1]
      have d0 := hP1.c0
      have d1 := hP1.c1
      have hdr : Hid ((s.data.toList.drop q).drop (skipN false (s.data.toList.drop q)) = s[q1] :: s.data.toList.drop (q1 + 1)) := by
        have := hds.out
        rw [Hq1.out, hget.out] at this
        exact this
      cases hw : wordB (s[q1].toNat : Int)
      · cases h34 : ((s[q1].toNat : Int) == 34)
        · cases h40 : ((s[q1].toNat : Int) == 40)
          · cases h41 : ((s[q1].toNat : Int) == 41)
            · go_wp2_with (first | (go_at_call 80; refine (atEnd_no b s q1 _ (by exact hP1) hml hlt).mono ?_; rintro e w' ⟨rfl, n1, rfl⟩))
              go_quiet (fail)
              go_wp2_with (first | (go_at_call 82; refine (isWordByte_no _ _ b0 b1 hw).mono ?_; rintro e w' ⟨rfl, rfl⟩))
              go_wp2_with (go_at_call 81; refine (fail_any _ _ _).mono ?_; rintro e w' ⟨rfl, rfl⟩)
              refine ⟨rfl, ?_, gb_drewN (gb_trans hg hg1) _⟩
              have he := He.out
              rw [elems_else Hq1.out hdr.out hw h34 h40 (.inl h41)] at he
              rw [← he]
              rfl
            · by_cases ho0 : 0 < o
              · go_wp2_with (first | (go_at_call 80; refine (atEnd_no b s q1 _ (by exact hP1) hml hlt).mono ?_; rintro e w' ⟨rfl, n1, rfl⟩))
                go_quiet (fail)
                go_wp2_with (first | (go_at_call 82; refine (isWordByte_no _ _ b0 b1 hw).mono ?_; rintro e w' ⟨rfl, rfl⟩))
                go_wp2_with (fail)
                go_ret
                have he := He.out
                rw [elems_close Hq1.out hdr.out h41 ho0] at he
                refine ⟨?_, gb_drewN (gb_trans hg hg1) _⟩
                rw [← he]
                simp only [Res.pre, Fo.app_nil]
                exact ⟨_, rfl, (own_slice hown1 hrow1 (fun x hx => hx.1)).drewN _, hP1⟩
              · go_wp2_with (first | (go_at_call 80; refine (atEnd_no b s q1 _ (by exact hP1) hml hlt).mono ?_; rintro e w' ⟨rfl, n1, rfl⟩))
                go_quiet (fail)
                go_wp2_with (first | (go_at_call 82; refine (isWordByte_no _ _ b0 b1 hw).mono ?_; rintro e w' ⟨rfl, rfl⟩))
                go_wp2_with (go_at_call 81; refine (fail_any _ _ _).mono ?_; rintro e w' ⟨rfl, rfl⟩)
                refine ⟨rfl, ?_, gb_drewN (gb_trans hg hg1) _⟩
                have he := He.out
                rw [elems_else Hq1.out hdr.out hw h34 h40 (.inr (by omega))] at he
                rw [← he]
                rfl
          · go_wp2_with (first | (go_at_call 80; refine (atEnd_no b s q1 _ (by exact hP1) hml hlt).mono ?_; rintro e w' ⟨rfl, n1, rfl⟩))
            go_quiet (fail)
            go_wp2_with (first | (go_at_call 82; refine (isWordByte_no _ _ b0 b1 hw).mono ?_; rintro e w' ⟨rfl, rfl⟩))
            refine (list_any f (IH.out f (by omega)) b s q1 (o + 1) _ (by exact hP1) hs hlt (by omega) (by omega) (by rw [drop_len] at hf ⊢; omega)).mono ?_
            intro e w2 hpost
            unfold ListPost at hpost
            obtain ⟨hpost, hg2⟩ := hpost
            have he := He.out
            rw [elems_list Hq1.out hdr.out h40] at he
            by_cases hbig : 40 < o + 1
            · rw [if_pos hbig] at hpost he
              subst hpost
              refine ⟨rfl, ?_, gb_trans (gb_drewN (gb_trans hg hg1) _) hg2⟩
              rw [← he]
              rfl
            · rw [if_neg hbig] at hpost he
              rcases hel : elems f (o + 1) (q1 + 1) (s.data.toList.drop (q1 + 1)) with ⟨k, a⟩ | ⟨ns, q2⟩
              · rw [hel] at hpost he
                dsimp only at hpost
                subst hpost
                refine ⟨rfl, ?_, gb_trans (gb_drewN (gb_trans hg hg1) _) hg2⟩
                rw [← he]
                rfl
              · rw [hel] at hpost he
                dsimp only at hpost he
                obtain ⟨A, c, ys, rfl, hc, hr, hro, hP2⟩ := hpost
                obtain ⟨p1, p2, p3, p4⟩ := elems_pos _ _ _ _ _ _ hel
                rw [drop_len] at p2 p3
                have p3' := p3 (by omega)
                have He2 := Lib.hid he
                clear he He hel p3
                have hr2 := hr.keep (S' := fun x => wr.heap.size ≤ x) (Nat.le_refl _) (fun x hx _ => ⟨rfl, Nat.le_trans hw1 hx⟩)
                have hro2 := hro.keep (S' := fun x => wr.heap.size ≤ x) (Nat.le_refl _) (fun x hx _ => ⟨rfl, Nat.le_trans hw1 hx⟩) _
                have hs2 : w1.heap.size ≤ w2.heap.size := hg2.size
                have hgb := gb_trans (gb_drewN hg1 _) hg2
                have hown2 := hown.kept hgb (by cases hv : (Value.slice A5 acc.len c5).ownBlock with | none => exact .inl rfl | some x => exact .inr (by have := (hown.lt x hv).1; simp; omega))
                go_wp2_with (at_builtin; refine wpList_append_own_at _ rfl _ _ 22 rfl w.heap.size 31 i0 (.agg #[.int .i64 0, .string ⟨#[]⟩, .slice none 0 0, .int .i64 0]) 4 56 Tryd.underlying22 hi hz0 hz1 hz2 rfl (by decide) _ _ _ rfl (hown2.alloc _) ⟨w2.heap.size, 0, none⟩ 1 1 [.int .i64 3, .string ⟨#[]⟩, .slice A ns.len c, .int .i64 (q1 : Int)] rfl rfl ?c1 ?c2 ?c3 ?c4 ?c5 ?_)
                case c1 => exact cells_new _ _ _
                case c2 => intro u hu; simp at hu; rcases hu with rfl | rfl | rfl | rfl <;> rfl
                case c3 => unfold maxLen; omega
                case c4 => omega
                case c5 => simp; omega
                intro v' w3 hown3 hg3 _ hat
                go_wp2_with (fail)
                refine elems_push (t := []) hb hpq hqq (by omega) (by omega) hfF hf hacc hPA hg hown hrow hgb hP2 hc hr2 hro2 hown3 hg3 hat ?_
                rw [← He2.out, List.drop_drop, show q1 + 1 + (q2 - q1) = q2 + 1 from by omega]
        · go_wp2_with (first | (go_at_call 80; refine (atEnd_no b s q1 _ (by exact hP1) hml hlt).mono ?_; rintro e w' ⟨rfl, n1, rfl⟩))
          go_quiet (fail)
          go_wp2_with (first | (go_at_call 82; refine (isWordByte_no _ _ b0 b1 hw).mono ?_; rintro e w' ⟨rfl, rfl⟩))
          refine (quoted_any b s q1 _ (by exact hP1) hs hlt).mono ?_
          intro e w2 hpost
          unfold QuotPost at hpost
          obtain ⟨hpost, hg2⟩ := hpost
          have he := He.out
          rw [elems_str Hq1.out hdr.out hw h34] at he
          rcases hqt : quot ((s.data.toList.drop (q1 + 1)).length + 1) (s.data.toList.drop (q1 + 1)) with k | ⟨t, n⟩
          · rw [hqt] at hpost he
            subst hpost
            refine ⟨rfl, ?_, gb_trans (gb_drewN (gb_trans hg hg1) _) hg2⟩
            rw [← he]
            rfl
          · rw [hqt] at hpost he
            have hql := quot_len _ _ _ _ hqt
            rw [drop_len] at hql
            dsimp only at hpost he
            by_cases hbig : 2000 < t.length
            · rw [if_pos hbig] at hpost he
              subst hpost
              refine ⟨rfl, ?_, gb_trans (gb_drewN (gb_trans hg hg1) _) hg2⟩
              rw [← he]
              rfl
            · rw [if_neg hbig] at hpost he
              obtain ⟨rfl, hP2⟩ := hpost
              have He2 := Lib.hid he
              clear he He hqt
              have hs2 : w1.heap.size ≤ w2.heap.size := hg2.size
              have hgb := gb_trans (gb_drewN hg1 _) hg2
              have hown2 := hown.kept hgb (by cases hv : (Value.slice A5 acc.len c5).ownBlock with | none => exact .inl rfl | some x => exact .inr (by have := (hown.lt x hv).1; simp; omega))
              go_wp2_with (at_builtin; refine wpList_append_own_at _ rfl _ _ 22 rfl w.heap.size 31 i0 (.agg #[.int .i64 0, .string ⟨#[]⟩, .slice none 0 0, .int .i64 0]) 4 56 Tryd.underlying22 hi hz0 hz1 hz2 rfl (by decide) _ _ _ rfl (hown2.alloc _) ⟨w2.heap.size, 0, none⟩ 1 1 [.int .i64 2, .string ⟨t.toArray⟩, .slice none 0 0, .int .i64 (q1 : Int)] rfl rfl ?c1 ?c2 ?c3 ?c4 ?c5 ?_)
              case c1 => exact cells_new _ _ _
              case c2 => intro u hu; simp at hu; rcases hu with rfl | rfl | rfl | rfl <;> rfl
              case c3 => unfold maxLen; omega
              case c4 => omega
              case c5 => simp; omega
              intro v' w3 hown3 hg3 _ hat
              go_wp2_with (fail)
              refine elems_push (kids := .nil) (A := none) (c := 0) (ys := []) hb hpq hqq (by omega) (by omega) hfF hf hacc hPA hg hown hrow hgb hP2 (Nat.le_refl _) (readsAt.none_ _ _) rfl hown3 hg3 hat ?_
              rw [← He2.out, List.drop_drop]
      · go_wp2_with (first | (go_at_call 80; refine (atEnd_no b s q1 _ (by exact hP1) hml hlt).mono ?_; rintro e w' ⟨rfl, n1, rfl⟩))
        go_quiet (fail)
        go_wp2_with (first | (go_at_call 82; refine (isWordByte_yes _ _ b0 b1 hw).mono ?_; rintro e w' ⟨rfl, rfl⟩))
        refine (word_any b s q1 _ (by exact hP1) (by exact hP1.lt) hs (by omega)).mono ?_
        intro e w2 hpost
        unfold WordPost at hpost
        obtain ⟨hpost, hg2⟩ := hpost
        have he := He.out
        rw [elems_word Hq1.out hdr.out hw, ← hget.out] at he
        by_cases hbig : 24 < wordN (s.data.toList.drop q1)
        · rw [if_pos hbig] at hpost he
          subst hpost
          refine ⟨rfl, ?_, gb_trans (gb_drewN (gb_trans hg hg1) _) hg2⟩
          rw [← he]
          rfl
        · rw [if_neg hbig] at hpost he
          obtain ⟨rfl, hP2⟩ := hpost
          have He2 := Lib.hid he
          clear he He
          have hs2 : w1.heap.size ≤ w2.heap.size := hg2.size
          have hgb := gb_trans (gb_drewN hg1 _) hg2
          have hown2 := hown.kept hgb (by cases hv : (Value.slice A5 acc.len c5).ownBlock with | none => exact .inl rfl | some x => exact .inr (by have := (hown.lt x hv).1; simp; omega))
          go_wp2_with (at_builtin; refine wpList_append_own_at _ rfl _ _ 22 rfl w.heap.size 31 i0 (.agg #[.int .i64 0, .string ⟨#[]⟩, .slice none 0 0, .int .i64 0]) 4 56 Tryd.underlying22 hi hz0 hz1 hz2 rfl (by decide) _ _ _ rfl (hown2.alloc _) ⟨w2.heap.size, 0, none⟩ 1 1 [.int .i64 1, .string ⟨((s.data.toList.drop q1).take (wordN (s.data.toList.drop q1))).toArray⟩, .slice none 0 0, .int .i64 (q1 : Int)] rfl rfl ?c1 ?c2 ?c3 ?c4 ?c5 ?_)
          case c1 => exact cells_new _ _ _
          case c2 => intro u hu; simp at hu; rcases hu with rfl | rfl | rfl | rfl <;> rfl
          case c3 => unfold maxLen; omega
          case c4 => omega
          case c5 => simp; omega
          intro v' w3 hown3 hg3 _ hat
          go_wp2_with (fail)
          have hm1 := wordN_pos (r := s.data.toList.drop (q1 + 1)) hw
          have hm2 := wordN_le (s.data.toList.drop q1)
          rw [drop_len] at hm2
          rw [← hget.out] at hm1
          refine elems_push (kids := .nil) (A := none) (c := 0) (ys := []) hb hpq hqq (by omega) (by omega) hfF hf hacc hPA hg hown hrow hgb hP2 (Nat.le_refl _) (readsAt.none_ _ _) rfl hown3 hg3 hat ?_
          rw [← He2.out, List.drop_drop]
    · have hend := Lib.hid (show q1 = s.size from by omega)
      have hdr : Hid ((s.data.toList.drop q).drop (skipN false (s.data.toList.drop q)) = []) := by
        have := hds.out
        rw [Hq1.out, drop_end s q1 (by have := hend.out; omega)] at this
        exact this
      have he := He.out
      rw [elems_nil Hq1.out hdr.out] at he
      by_cases ho0 : 0 < o
      · rw [if_pos ho0] at he
        have He2 := Lib.hid he
        clear he He
        have d1 := hP1.c1
        go_wp2_with (first | (go_at_call 80; refine (atEnd_yes b s q1 _ (by exact hP1) hml hend.out).mono ?_; rintro e w' ⟨rfl, n1, rfl⟩) | (go_at_call 81; refine (fail_any _ _ _).mono ?_; rintro e w' ⟨rfl, rfl⟩))
        refine ⟨rfl, ?_, gb_drewN (gb_trans hg hg1) _⟩
        rw [← He2.out]
        rfl
      · rw [if_neg ho0] at he
        have He2 := Lib.hid he
        clear he He
        go_wp2_with (first | (go_at_call 80; refine (atEnd_yes b s q1 _ (by exact hP1) hml hend.out).mono ?_; rintro e w' ⟨rfl, n1, rfl⟩))
        go_ret
        refine ⟨?_, gb_drewN (gb_trans hg hg1) _⟩
        rw [← He2.out]
        simp only [Res.pre, Fo.app_nil]
        exact ⟨_, rfl, (own_slice hown1 hrow1 (fun x hx => hx.1)).drewN _, hP1⟩
end Go.Proofs.YtpflfbfbjmoggaaDoor
