/- tellaw2.spoil: the walk. No condition but bounded sizes. -/
import Derived.Test.YtnidngpenhblcaaDoorSq
import Derived.Test.YtnidngpenhblcaaDoorTva
import Derived.Deep.CutBlock
set_option linter.unusedVariables false
set_option linter.unusedSimpArgs false
namespace Go.Proofs.YtnidngpenhblcaaDoor
open Go.RowKit Sx

/-- what spoil answers -/
def SPo (w : World) (S : Nat → Prop) (kids : Fo) (e : Ending) (w' : World) : Prop :=
  ∃ (k' o' : Int) (t' : List UInt8) (kids' : Fo) (A' : Option Addr) (c' : Nat), e = .returned (.agg #[.int .i64 k', .string ⟨t'.toArray⟩, .int .i64 o', .slice A' kids'.len c']) ∧ KS w' (fun x => S x ∨ w.heap.size ≤ x) kids' A' c' ∧ lenT (.one k' t' kids' o') ∧ fsize kids' + 1 ≤ 2 * (fsize kids + 1) ∧ BH w w'
def SPc (M : Nat) : Prop := ∀ (S : Nat → Prop) (k o at_ how n : Int) (t nm : List UInt8) (kids : Fo) (A : Option Addr) (c : Nat) (w : World), (∀ x, S x → x < w.heap.size) → fsize kids < M → fsize kids ≤ 1073741824 → KS w S kids A c → lenT (.one k t kids o) → nm.length ≤ 1048576 → 0 ≤ at_ → at_ ≤ 4294967296 →
  Calls Tryd.prog 28 #[.agg #[.int .i64 k, .string ⟨t.toArray⟩, .int .i64 o, .slice A kids.len c], .int .i64 at_, .int .i64 how, .int .i64 n, .string ⟨nm.toArray⟩] w (SPo w S kids)

theorem SPo.drew {w w' : World} {S : Nat → Prop} {kids : Fo} {e : Ending} (h : SPo w S kids e w') : SPo w S kids e w'.drew := by
  obtain ⟨k', o', t', kids', A', c', rfl, h1, h2, h3, h4⟩ := h
  exact ⟨k', o', t', kids', A', c', rfl, h1.bh (below_drew w'), h2, h3, BH.trans h4 (below_drew w')⟩
theorem SP_box {w wr : World} {S : Nat → Prop} {kids kids' : Fo} {k o : Int} {t : List UInt8} {A : Option Addr} {c : Nat} (hS : ∀ x, S x → x < w.heap.size) (hb : BH w wr) (hk : KS wr (fun x => S x ∨ w.heap.size + 2 ≤ x) kids' A c) (hl : lenT (.one k t kids' o)) (hf : fsize kids' + 1 ≤ 2 * (fsize kids + 1)) :
    SPo w S kids (.returned (.agg #[.int .i64 k, .string ⟨t.toArray⟩, .int .i64 o, .slice A kids'.len c])) ((((wr.setCell ⟨w.heap.size + 1, 0, none⟩ (.int .i64 k)).setCell ⟨w.heap.size + 1, 1, none⟩ (.string ⟨t.toArray⟩)).setCell ⟨w.heap.size + 1, 2, none⟩ (.int .i64 o)).setCell ⟨w.heap.size + 1, 3, none⟩ (.slice A kids'.len c)) := by
  refine ⟨k, o, t, kids', A, c, rfl, hk.keep (by simp [size_set]) (fun x hx hl => ⟨s4_far ?_ _ _ _ _, ?_⟩), hl, hf, below_gb_of (BH.refl w) (s4_gb (gb_below hb (some (w.heap.size + 1))) (by omega) _ _ _ _) (by omega)⟩
  · rcases hx with hx | hx
    · have := hS x hx; omega
    · omega
  · rcases hx with hx | hx
    · exact .inl hx
    · exact .inr (by omega)

set_option maxHeartbeats 8000000 in
set_option maxRecDepth 100000 in
theorem spoil_step (M : Nat) (hR : SPc M) : SPc (M + 1) := by
  intro S k o at_ how n t nm kids A c w hS hM hN hK hL hnm hat0 hat1
  have HR := Lib.hid hR
  have HS := Lib.hid hS
  have HK := Lib.hid hK
  have HL := Lib.hid hL
  have Hnm := Lib.hid hnm
  obtain ⟨i0, hi, hz0, hz1, hz2⟩ := info_parts infoTg
  have hlen := len_le_fsize kids
  obtain ⟨L, hLe⟩ : ∃ L, kids.len = L := ⟨_, rfl⟩
  rw [hLe] at hlen ⊢
  have HLe := Lib.hid hLe
  clear hR hS hK hL hnm hLe
  go_enter Tryd.func28, Tryd.ntmps28
  go_upto_region 3 with (fail)
  obtain ⟨w2, hw2⟩ : ∃ w2, ((w.alloc (.cells #[.int .i64 k, .string ⟨t.toArray⟩, .int .i64 o, .slice A L c] 25)).alloc (.cells #[.int .i64 0, .string ⟨#[]⟩, .int .i64 0, .slice none 0 0] 25)).alloc (.cells #[.int .i64 k, .string ⟨t.toArray⟩, .int .i64 o, .slice none 0 0] 25) = w2 := ⟨_, rfl⟩
  have f0 := bh_alloc (BH.refl w) (.cells #[.int .i64 k, .string ⟨t.toArray⟩, .int .i64 o, .slice A L c] 25)
  have e0 := heap_alloc_new w (.cells #[.int .i64 k, .string ⟨t.toArray⟩, .int .i64 o, .slice A L c] 25)
  generalize hV1 : w.alloc (.cells #[.int .i64 k, .string ⟨t.toArray⟩, .int .i64 o, .slice A L c] 25) = V1 at *
  have z1 : V1.heap.size = w.heap.size + 1 := by rw [← hV1]; simp
  have f1 := bh_alloc (BH.refl V1) (.cells #[.int .i64 0, .string ⟨#[]⟩, .int .i64 0, .slice none 0 0] 25)
  have e1 := heap_alloc_new V1 (.cells #[.int .i64 0, .string ⟨#[]⟩, .int .i64 0, .slice none 0 0] 25)
  generalize hV2 : V1.alloc (.cells #[.int .i64 0, .string ⟨#[]⟩, .int .i64 0, .slice none 0 0] 25) = V2 at *
  have z2 : V2.heap.size = w.heap.size + 1 + 1 := by rw [← hV2]; simp [z1]
  have f2 := bh_alloc (BH.refl V2) (.cells #[.int .i64 k, .string ⟨t.toArray⟩, .int .i64 o, .slice none 0 0] 25)
  have e2 := heap_alloc_new V2 (.cells #[.int .i64 k, .string ⟨t.toArray⟩, .int .i64 o, .slice none 0 0] 25)
  have z3 : (V2.alloc (.cells #[.int .i64 k, .string ⟨t.toArray⟩, .int .i64 o, .slice none 0 0] 25)).heap.size = w.heap.size + 3 := by simp [z2]
  rw [hw2] at f2 e2 z3 ⊢
  rw [z1] at e1
  rw [z2] at e2
  have HB := Lib.hid (BH.trans (BH.trans f0 f1) f2)
  have HT := Lib.hid ((Below.block (BH.trans f1 f2) _ (by omega)).trans e0)
  have HN := Lib.hid ((Below.block f2 _ (by omega)).trans e1)
  have HMx := Lib.hid e2
  have HZ := Lib.hid z3
  clear f0 f1 f2 e0 e1 e2 z1 z2 z3 hV1 hV2 hw2
  obtain ⟨a0, a1, a2, a3, _⟩ := row4 HT.out
  obtain ⟨b0, b1, b2, b3, y0, y1, y2, y3⟩ := row4 HN.out
  obtain ⟨x0, x1, x2, x3, z0, z1, z2, z3⟩ := row4 HMx.out
  by_cases hz : at_ = 0
  · subst hz
    obtain ⟨R, hR5⟩ : ∃ R, modI how 5 = R := ⟨_, rfl⟩
    have hRb := modI_bounds how 5 (by decide)
    rw [hR5] at hRb
    have HM5 : Hid (∀ X, Calls Tryd.prog 29 #[.int .i64 how, .int .i64 5] X fun e w' => e = .returned (.int .i64 R) ∧ X = w') := Lib.hid fun X => (mod_any how 5 X (by decide) (by decide)).mono fun e w' h => ⟨by rw [h.1, hR5], h.2⟩
    clear hR5
    go_wp2_with (fail)
    refine (HM5.out _).mono ?_
    rintro e u ⟨rfl, rfl⟩
    have hcs : R = 0 ∨ R = 1 ∨ R = 2 ∨ R = 3 ∨ R = 4 := by omega
    clear hRb HM5
    rcases hcs with rfl | rfl | rfl | rfl | rfl
    · obtain ⟨r9, hr9⟩ : ∃ r9, modI n 9 = r9 := ⟨_, rfl⟩
      have hr9b := modI_bounds n 9 (by decide)
      rw [hr9] at hr9b
      have hwr : IntKind.i64.wrap (r9 - 1) = r9 - 1 := (IntKind.wrap_i64 _).trans (by omega)
      have HM9 : Hid (∀ X, Calls Tryd.prog 29 #[.int .i64 n, .int .i64 9] X fun e w' => e = .returned (.int .i64 r9) ∧ X = w') := Lib.hid fun X => (mod_any n 9 X (by decide) (by decide)).mono fun e w' h => ⟨by rw [h.1, hr9], h.2⟩
      clear hr9 hr9b
      go_wp2_with (fail)
      refine (HM9.out _).mono ?_
      rintro e u ⟨rfl, rfl⟩
      go_wp2_with (fail)
      have hf := (heap_far (p := ⟨w.heap.size + 1 + 1, 0, none⟩) (show w.heap.size + 1 ≠ w.heap.size + 1 + 1 by omega) (.int .i64 (r9 - 1))).trans ((heap_far (p := ⟨w.heap.size + 1 + 1, 3, none⟩) (show w.heap.size + 1 ≠ w.heap.size + 1 + 1 by omega) (.slice A L c)).trans HN.out)
      obtain ⟨m0, m1, m2, m3, _⟩ := row4 (s4 hf (.int .i64 (r9 - 1)) (.string ⟨t.toArray⟩) (.int .i64 o) (.slice A L c))
      refine bodyPost_ret (v := .agg #[.int .i64 (r9 - 1), .string ⟨t.toArray⟩, .int .i64 o, .slice A L c]) (by simp [results, Tryd.results28, go_sem, m0, m1, m2, m3]) rfl ?_
      have hb := below_gb_of HB.out (gb_setCell (gb_setCell (World.grownBy.refl w2 (some (w.heap.size + 1 + 1))) (.inl rfl) (.slice A L c) (p := ⟨w.heap.size + 1 + 1, 3, none⟩)) (.inl rfl) (.int .i64 (r9 - 1)) (p := ⟨w.heap.size + 1 + 1, 0, none⟩)) (by omega)
      have hk := HK.out.bh hb
      have hLe := HLe.out
      subst hLe
      exact SP_box HS.out hb (hk.keep (Nat.le_refl _) fun x hx _ => ⟨rfl, .inl hx⟩) ⟨HL.out.1, HL.out.2.1, trivial⟩ (by omega)
    · go_wp2_with (fail)
      have hf := (heap_far (p := ⟨w.heap.size + 1 + 1, 2, none⟩) (show w.heap.size + 1 ≠ w.heap.size + 1 + 1 by omega) (.int .i64 n)).trans ((heap_far (p := ⟨w.heap.size + 1 + 1, 3, none⟩) (show w.heap.size + 1 ≠ w.heap.size + 1 + 1 by omega) (.slice A L c)).trans HN.out)
      obtain ⟨m0, m1, m2, m3, _⟩ := row4 (s4 hf (.int .i64 k) (.string ⟨t.toArray⟩) (.int .i64 n) (.slice A L c))
      refine bodyPost_ret (v := .agg #[.int .i64 k, .string ⟨t.toArray⟩, .int .i64 n, .slice A L c]) (by simp [results, Tryd.results28, go_sem, m0, m1, m2, m3]) rfl ?_
      have hb := below_gb_of HB.out (gb_setCell (gb_setCell (World.grownBy.refl w2 (some (w.heap.size + 1 + 1))) (.inl rfl) (.slice A L c) (p := ⟨w.heap.size + 1 + 1, 3, none⟩)) (.inl rfl) (.int .i64 n) (p := ⟨w.heap.size + 1 + 1, 2, none⟩)) (by omega)
      have hk := HK.out.bh hb
      have hLe := HLe.out
      subst hLe
      exact SP_box HS.out hb (hk.keep (Nat.le_refl _) fun x hx _ => ⟨rfl, .inl hx⟩) ⟨HL.out.1, HL.out.2.1, trivial⟩ (by omega)
    · go_wp2_with (fail)
      have hf := (heap_far (p := ⟨w.heap.size + 1 + 1, 1, none⟩) (show w.heap.size + 1 ≠ w.heap.size + 1 + 1 by omega) (.string ⟨nm.toArray⟩)).trans ((heap_far (p := ⟨w.heap.size + 1 + 1, 3, none⟩) (show w.heap.size + 1 ≠ w.heap.size + 1 + 1 by omega) (.slice A L c)).trans HN.out)
      obtain ⟨m0, m1, m2, m3, _⟩ := row4 (s4 hf (.int .i64 k) (.string ⟨nm.toArray⟩) (.int .i64 o) (.slice A L c))
      refine bodyPost_ret (v := .agg #[.int .i64 k, .string ⟨nm.toArray⟩, .int .i64 o, .slice A L c]) (by simp [results, Tryd.results28, go_sem, m0, m1, m2, m3]) rfl ?_
      have hb := below_gb_of HB.out (gb_setCell (gb_setCell (World.grownBy.refl w2 (some (w.heap.size + 1 + 1))) (.inl rfl) (.slice A L c) (p := ⟨w.heap.size + 1 + 1, 3, none⟩)) (.inl rfl) (.string ⟨nm.toArray⟩) (p := ⟨w.heap.size + 1 + 1, 1, none⟩)) (by omega)
      have hk := HK.out.bh hb
      have hLe := HLe.out
      subst hLe
      exact SP_box HS.out hb (hk.keep (Nat.le_refl _) fun x hx _ => ⟨rfl, .inl hx⟩) ⟨Hnm.out, HL.out.2.1, trivial⟩ (by omega)
    · have hLm : L ≤ 1073741824 := by omega
      go_wp2_with (fail)
      obtain ⟨wS, hwS⟩ : ∃ wS, w2.setCell ⟨w.heap.size + 1 + 1, 3, none⟩ (.slice A L c) = wS := ⟨_, rfl⟩
      have hb := below_gb_of HB.out (gb_setCell (World.grownBy.refl w2 (some (w.heap.size + 1 + 1))) (.inl rfl) (.slice A L c) (p := ⟨w.heap.size + 1 + 1, 3, none⟩)) (by omega)
      have hTS := (heap_far (p := ⟨w.heap.size + 1 + 1, 3, none⟩) (show w.heap.size ≠ w.heap.size + 1 + 1 by omega) (.slice A L c)).trans HT.out
      have hNS := (heap_far (p := ⟨w.heap.size + 1 + 1, 3, none⟩) (show w.heap.size + 1 ≠ w.heap.size + 1 + 1 by omega) (.slice A L c)).trans HN.out
      have hMS := heap_set (i := 3) HMx.out (.slice A L c)
      have hzS : (w2.setCell ⟨w.heap.size + 1 + 1, 3, none⟩ (.slice A L c)).heap.size = w.heap.size + 3 := by rw [size_set]; exact HZ.out
      rw [hwS] at hb hTS hNS hMS hzS ⊢
      have HBS := Lib.hid (show BH w wS from hb)
      have HTS := Lib.hid hTS
      have HNS := Lib.hid hNS
      have HMS := Lib.hid hMS
      have HZS := Lib.hid hzS
      have HKS := Lib.hid (HK.out.bh hb)
      obtain ⟨ys, hre, hrow⟩ := HKS.out.rea
      rw [HLe.out] at hre
      have HRe := Lib.hid (And.intro hre hrow)
      clear hb hTS hNS hMS hzS hwS a0 a1 a2 a3 x0 x1 x2 x3 z0 z1 z2 z3 b0 b1 b2 b3 y0 y1 y2 y3 hre hrow
      obtain ⟨a0, a1, a2, a3, _⟩ := row4 HTS.out
      obtain ⟨x0, x1, x2, x3, z0, z1, z2, z3⟩ := row4 HMS.out
      have HX0 := Lib.hid (bh_alloc (BH.refl wS) (.cells #[] 25))
      have HX1 := Lib.hid (bh_alloc (BH.refl wS) (.cells #[.int .i64 k, .string ⟨t.toArray⟩, .int .i64 o, .slice A L c] 25))
      have BXA := Lib.hid (show BH wS (wS.alloc (.cells #[] 25)).drew from BH.trans HX0.out (below_drew _))
      have BXB := Lib.hid (show BH wS ((wS.alloc (.cells #[] 25)).alloc (.cells #[.int .i64 k, .string ⟨t.toArray⟩, .int .i64 o, .slice A L c] 25)).drew from BH.trans (BH.trans HX0.out (bh_alloc (BH.refl _) _)) (below_drew _))
      have BXC := Lib.hid (show BH wS ((wS.alloc (.cells #[.int .i64 k, .string ⟨t.toArray⟩, .int .i64 o, .slice A L c] 25)).alloc (.cells #[] 25)).drew from BH.trans (BH.trans HX1.out (bh_alloc (BH.refl _) _)) (below_drew _))
      have OXA := Lib.hid (show (wS.alloc (.cells #[] 25)).drew.heap[wS.heap.size]? = _ from heap_alloc_new wS _)
      have OXB := Lib.hid (show ((wS.alloc (.cells #[] 25)).alloc (.cells #[.int .i64 k, .string ⟨t.toArray⟩, .int .i64 o, .slice A L c] 25)).drew.heap[wS.heap.size]? = _ from (Below.heap_alloc (wS.alloc _) _ _ (by simp)).trans (heap_alloc_new wS _))
      have EXB := Lib.hid (show ((wS.alloc (.cells #[] 25)).alloc (.cells #[.int .i64 k, .string ⟨t.toArray⟩, .int .i64 o, .slice A L c] 25)).drew.heap[wS.heap.size + 1]? = some (.cells #[.int .i64 k, .string ⟨t.toArray⟩, .int .i64 o, .slice A L c] 25 (0, 0)) from by have h := heap_alloc_new (wS.alloc (.cells #[] 25)) (.cells #[.int .i64 k, .string ⟨t.toArray⟩, .int .i64 o, .slice A L c] 25); rw [World.size_alloc] at h; exact h)
      have OXC := Lib.hid (show ((wS.alloc (.cells #[.int .i64 k, .string ⟨t.toArray⟩, .int .i64 o, .slice A L c] 25)).alloc (.cells #[] 25)).drew.heap[wS.heap.size + 1]? = some (.cells #[] 25 (0, 0)) from by have h := heap_alloc_new (wS.alloc (.cells #[.int .i64 k, .string ⟨t.toArray⟩, .int .i64 o, .slice A L c] 25)) (.cells #[] 25); rw [World.size_alloc] at h; exact h)
      have EXC := Lib.hid (show ((wS.alloc (.cells #[.int .i64 k, .string ⟨t.toArray⟩, .int .i64 o, .slice A L c] 25)).alloc (.cells #[] 25)).drew.heap[wS.heap.size]? = _ from (Below.heap_alloc (wS.alloc _) _ _ (by simp)).trans (heap_alloc_new wS _))
      clear HX0 HX1
      go_region_held3 (fun X => X.cell? ⟨w.heap.size, 0, none⟩ = some (.int .i64 k) ∧ X.cell? ⟨w.heap.size, 1, none⟩ = some (.string ⟨t.toArray⟩) ∧ X.cell? ⟨w.heap.size, 2, none⟩ = some (.int .i64 o) ∧ X.cell? ⟨w.heap.size, 3, none⟩ = some (.slice A L c)) (go_keep) (first
        | (refine step_rea _ (by rfl) _ _ _ (by rfl) wS.heap.size 25 i0 _ 4 56 Tryd.underlying23 hi hz0 hz1 hz2 rfl (by decide) (.slice (some ⟨wS.heap.size, 0, none⟩) 0 0) 0 [] (by rfl) (own0 OXA.out (by omega)) A L c ys (by rfl) (HRe.out.1.bh BXA.out) (by unfold maxLen; omega) (by omega) (Below.size BXA.out) ?_; intro v1 w5 ho1 hg1 ha1; have ho1' : w5.ownsRow wS.heap.size 25 4 v1 L ys := (by simpa using ho1); have hg1' : World.grownBy (wS.alloc (.cells #[] 25)).drew w5 (some (wS.heap.size)) := hg1; have B5 := Lib.hid (show BH wS w5 from below_gb_of BXA.out hg1' (by omega)); have HO := Lib.hid ho1'; obtain ⟨A6, c6, rfl, hc6⟩ := own_shape ho1'; obtain ⟨a0, a1, a2, a3, _⟩ := row4 ((Below.block B5.out _ (heap_lt HTS.out)).trans HTS.out); clear ho1 ho1' hg1 hg1' ha1 hc6)
        | (refine step_rea _ (by rfl) _ _ _ (by rfl) wS.heap.size 25 i0 _ 4 56 Tryd.underlying23 hi hz0 hz1 hz2 rfl (by decide) (.slice (some ⟨wS.heap.size, 0, none⟩) 0 0) 0 [] (by rfl) (own0 OXB.out (by omega)) A L c ys (by rfl) (HRe.out.1.bh BXB.out) (by unfold maxLen; omega) (by omega) (Below.size BXB.out) ?_; intro v1 w5 ho1 hg1 ha1; have ho1' : w5.ownsRow wS.heap.size 25 4 v1 L ys := (by simpa using ho1); have hg1' : World.grownBy ((wS.alloc (.cells #[] 25)).alloc (.cells #[.int .i64 k, .string ⟨t.toArray⟩, .int .i64 o, .slice A L c] 25)).drew w5 (some (wS.heap.size)) := hg1; have B5 := Lib.hid (show BH wS w5 from below_gb_of BXB.out hg1' (by omega)); have E5 := Lib.hid ((hg1'.block (wS.heap.size + 1) (heap_lt EXB.out) (by simp)).trans EXB.out); have HO := Lib.hid ho1'; obtain ⟨A6, c6, rfl, hc6⟩ := own_shape ho1'; obtain ⟨a0, a1, a2, a3, _⟩ := row4 ((Below.block B5.out _ (heap_lt HTS.out)).trans HTS.out); clear ho1 ho1' hg1 hg1' ha1 hc6)
        | (refine step_rea _ (by rfl) _ _ _ (by rfl) wS.heap.size 25 i0 _ 4 56 Tryd.underlying23 hi hz0 hz1 hz2 rfl (by decide) (.slice (some ⟨wS.heap.size + 1, 0, none⟩) 0 0) 0 [] (by rfl) (own0 OXC.out (by omega)) A L c ys (by rfl) (HRe.out.1.bh BXC.out) (by unfold maxLen; omega) (by omega) (Below.size BXC.out) ?_; intro v1 w5 ho1 hg1 ha1; have ho1' : w5.ownsRow wS.heap.size 25 4 v1 L ys := (by simpa using ho1); have hg1' : World.grownBy ((wS.alloc (.cells #[.int .i64 k, .string ⟨t.toArray⟩, .int .i64 o, .slice A L c] 25)).alloc (.cells #[] 25)).drew w5 (some (wS.heap.size + 1)) := hg1; have B5 := Lib.hid (show BH wS w5 from below_gb_of BXC.out hg1' (by omega)); have E5 := Lib.hid ((hg1'.block wS.heap.size (heap_lt EXC.out) (by simp)).trans EXC.out); have HO := Lib.hid ho1'; obtain ⟨A6, c6, rfl, hc6⟩ := own_shape ho1'; obtain ⟨a0, a1, a2, a3, _⟩ := row4 ((Below.block B5.out _ (heap_lt HTS.out)).trans HTS.out); clear ho1 ho1' hg1 hg1' ha1 hc6)
        | (refine step_rea _ (by rfl) _ _ _ (by rfl) wS.heap.size 25 i0 _ 4 56 Tryd.underlying23 hi hz0 hz1 hz2 rfl (by decide) (.slice A6 L c6) L ys (by rfl) (HO.out.alloc _) (some ⟨w5.heap.size, 0, none⟩) 1 1 [.int .i64 k, .string ⟨t.toArray⟩, .int .i64 o, .slice A L c] (by rfl) (rea_one (heap_alloc_new w5 _)) (by unfold maxLen; omega) (by omega) (by have := Below.size B5.out; simp; omega) ?_; intro v2 w6 ho2 hg2 ha2; have ho2' : w6.ownsRow wS.heap.size 25 4 v2 (L + 1) (ys ++ [.int .i64 k, .string ⟨t.toArray⟩, .int .i64 o, .slice A L c]) := (by simpa using ho2); have B6 := Lib.hid (show BH wS w6 from below_own (BH.trans B5.out (bh_alloc (BH.refl w5) _)) HO.out hg2); have HO2 := Lib.hid ho2'; obtain ⟨A8, c8, rfl, hc8⟩ := own_shape ho2'; obtain ⟨x0, x1, x2, x3, z0, z1, z2, z3⟩ := row4 ((Below.block B6.out _ (heap_lt HMS.out)).trans HMS.out); obtain ⟨a0, a1, a2, a3, _⟩ := row4 ((Below.block B6.out _ (heap_lt HTS.out)).trans HTS.out); obtain ⟨s0, s1, s2, s3, _⟩ := row4 ((heap_far (p := ⟨w.heap.size + 1 + 1, 3, none⟩) (show w.heap.size ≠ w.heap.size + 1 + 1 by omega) (.slice A8 (L + 1) c8)).trans ((Below.block B6.out _ (heap_lt HTS.out)).trans HTS.out)); clear ho2 ho2' hg2 ha2 hc8)
        | (refine step_rea _ (by rfl) _ _ _ (by rfl) wS.heap.size 25 i0 _ 4 56 Tryd.underlying23 hi hz0 hz1 hz2 rfl (by decide) (.slice A6 L c6) L ys (by rfl) HO.out (some ⟨wS.heap.size + 1, 0, none⟩) 1 1 [.int .i64 k, .string ⟨t.toArray⟩, .int .i64 o, .slice A L c] (by rfl) (rea_one E5.out) (by unfold maxLen; omega) (by omega) (Below.size B5.out) ?_; intro v2 w6 ho2 hg2 ha2; have ho2' : w6.ownsRow wS.heap.size 25 4 v2 (L + 1) (ys ++ [.int .i64 k, .string ⟨t.toArray⟩, .int .i64 o, .slice A L c]) := (by simpa using ho2); have B6 := Lib.hid (show BH wS w6 from below_own (B5.out) HO.out hg2); have HO2 := Lib.hid ho2'; obtain ⟨A8, c8, rfl, hc8⟩ := own_shape ho2'; obtain ⟨x0, x1, x2, x3, z0, z1, z2, z3⟩ := row4 ((Below.block B6.out _ (heap_lt HMS.out)).trans HMS.out); obtain ⟨a0, a1, a2, a3, _⟩ := row4 ((Below.block B6.out _ (heap_lt HTS.out)).trans HTS.out); obtain ⟨s0, s1, s2, s3, _⟩ := row4 ((heap_far (p := ⟨w.heap.size + 1 + 1, 3, none⟩) (show w.heap.size ≠ w.heap.size + 1 + 1 by omega) (.slice A8 (L + 1) c8)).trans ((Below.block B6.out _ (heap_lt HTS.out)).trans HTS.out)); clear ho2 ho2' hg2 ha2 hc8)
        | (refine step_rea _ (by rfl) _ _ _ (by rfl) wS.heap.size 25 i0 _ 4 56 Tryd.underlying23 hi hz0 hz1 hz2 rfl (by decide) (.slice A6 L c6) L ys (by rfl) HO.out (some ⟨wS.heap.size, 0, none⟩) 1 1 [.int .i64 k, .string ⟨t.toArray⟩, .int .i64 o, .slice A L c] (by rfl) (rea_one E5.out) (by unfold maxLen; omega) (by omega) (Below.size B5.out) ?_; intro v2 w6 ho2 hg2 ha2; have ho2' : w6.ownsRow wS.heap.size 25 4 v2 (L + 1) (ys ++ [.int .i64 k, .string ⟨t.toArray⟩, .int .i64 o, .slice A L c]) := (by simpa using ho2); have B6 := Lib.hid (show BH wS w6 from below_own (B5.out) HO.out hg2); have HO2 := Lib.hid ho2'; obtain ⟨A8, c8, rfl, hc8⟩ := own_shape ho2'; obtain ⟨x0, x1, x2, x3, z0, z1, z2, z3⟩ := row4 ((Below.block B6.out _ (heap_lt HMS.out)).trans HMS.out); obtain ⟨a0, a1, a2, a3, _⟩ := row4 ((Below.block B6.out _ (heap_lt HTS.out)).trans HTS.out); obtain ⟨s0, s1, s2, s3, _⟩ := row4 ((heap_far (p := ⟨w.heap.size + 1 + 1, 3, none⟩) (show w.heap.size ≠ w.heap.size + 1 + 1 by omega) (.slice A8 (L + 1) c8)).trans ((Below.block B6.out _ (heap_lt HTS.out)).trans HTS.out)); clear ho2 ho2' hg2 ha2 hc8))
      all_goals
        obtain ⟨b0, b1, b2, b3, y0, y1, y2, y3⟩ := row4 ((Below.block B6.out _ (heap_lt HNS.out)).trans HNS.out)
        go_wp2_with (fail)
        have hf := (heap_far (p := ⟨w.heap.size + 1 + 1, 3, none⟩) (show w.heap.size + 1 ≠ w.heap.size + 1 + 1 by omega) (.slice A8 (L + 1) c8)).trans ((Below.block B6.out _ (heap_lt HNS.out)).trans HNS.out)
        obtain ⟨m0, m1, m2, m3, _⟩ := row4 (s4 hf (.int .i64 k) (.string ⟨t.toArray⟩) (.int .i64 o) (.slice A8 (L + 1) c8))
        refine bodyPost_ret (v := .agg #[.int .i64 k, .string ⟨t.toArray⟩, .int .i64 o, .slice A8 (L + 1) c8]) (by simp [results, Tryd.results28, go_sem, m0, m1, m2, m3]) rfl ?_
        have hb := below_gb_of (BH.trans HBS.out B6.out) (gb_setCell (World.grownBy.refl w6 (some (w.heap.size + 1 + 1))) (.inl rfl) (.slice A8 (L + 1) c8) (p := ⟨w.heap.size + 1 + 1, 3, none⟩)) (by omega)
        have hlen1 : (kids.app (.one k t kids o)).len = L + 1 := by rw [Fo.len_app, HLe.out]; rfl
        obtain ⟨hkc, ys', hr', hk'⟩ := HKS.out.bh B6.out
        have hrow := rowT.app kids (.one k t kids o) _ (rowT.one hkc hr' hk') ys (HRe.out.2.keep (Below.size B6.out) (fun x hx hl => ⟨Below.block B6.out x hl, hx⟩) kids)
        have hxs : ys ++ [.int .i64 k, .string ⟨t.toArray⟩, .int .i64 o, .slice A kids.len c] = ys ++ [.int .i64 k, .string ⟨t.toArray⟩, .int .i64 o, .slice A L c] := by rw [HLe.out]
        rw [hxs] at hrow
        have hks := KS.own hlen1 HO2.out hrow
        have hzz := HZS.out
        have hk2 : KS (w6.setCell ⟨w.heap.size + 1 + 1, 3, none⟩ (.slice A8 (L + 1) c8)) (fun x => S x ∨ w.heap.size + 2 ≤ x) (kids.app (.one k t kids o)) A8 c8 := hks.keep (by simp [size_set]) fun x hx hl => ⟨heap_far (hx.elim (fun h => (by have := HS.out x h; omega : x ≠ w.heap.size + 1 + 1)) fun h => (by omega : x ≠ w.heap.size + 1 + 1)) _, hx.elim Or.inl fun h => Or.inr (by omega)⟩
        have hfin := SP_box (kids := kids) (k := k) (o := o) (t := t) HS.out hb hk2 ⟨HL.out.1, lenT_app _ _ HL.out.2.1 ⟨HL.out.1, HL.out.2.1, trivial⟩, trivial⟩ (by rw [fsize_app]; simp only [Fo.one, fsize]; omega)
        rw [hlen1] at hfin
        exact hfin
    · obtain ⟨kk, hkk⟩ : ∃ kk : Nat, modI n ((L : Int) + 1) = (kk : Int) := ⟨(modI n ((L : Int) + 1)).toNat, by have := (modI_bounds n ((L : Int) + 1) (by omega)).1; omega⟩
      have hkl : kk ≤ L := by have := (modI_bounds n ((L : Int) + 1) (by omega)).2; omega
      have hLc : L ≤ c := by have := HK.out.1; rw [HLe.out] at this; exact this
      have HMk : Hid (∀ X, Calls Tryd.prog 29 #[.int .i64 n, .int .i64 ((L : Int) + 1)] X fun e w' => e = .returned (.int .i64 (kk : Int)) ∧ X = w') := Lib.hid fun X => (mod_big n ((L : Int) + 1) X (by omega) (by omega)).mono fun e w' h => ⟨by rw [h.1, hkk], h.2⟩
      have hkc : (kk : Int) ≤ (c : Int) := by omega
      have hk0 : (0 : Int) ≤ (kk : Int) := by omega
      have hwl : IntKind.i64.wrap ((L : Int) + 1) = (L : Int) + 1 := (IntKind.wrap_i64 _).trans (by omega)
      have hwl2 : wrap64 ((L : Int) + 1) = (L : Int) + 1 := wrap64_in (by omega) (by omega)
      have HKL := Lib.hid hkl
      clear hkk hkl hLc
      go_wp2_with (fail)
      go_region_law (first
        | (go_simp; go_at_call 29; (refine (HMk.out _).mono ?_); rintro e u ⟨rfl, rfl⟩))
      all_goals
        go_wp2_with (fail)
        have hf := (heap_far (p := ⟨w.heap.size + 1 + 1, 3, none⟩) (show w.heap.size + 1 ≠ w.heap.size + 1 + 1 by omega) (.slice A kk c)).trans ((heap_far (p := ⟨w.heap.size + 1 + 1, 3, none⟩) (show w.heap.size + 1 ≠ w.heap.size + 1 + 1 by omega) (.slice A L c)).trans HN.out)
        obtain ⟨m0, m1, m2, m3, _⟩ := row4 (s4 hf (.int .i64 k) (.string ⟨t.toArray⟩) (.int .i64 o) (.slice A kk c))
        refine bodyPost_ret (v := .agg #[.int .i64 k, .string ⟨t.toArray⟩, .int .i64 o, .slice A kk c]) (by simp [results, Tryd.results28, go_sem, m0, m1, m2, m3]) rfl ?_
        have hb := below_gb_of HB.out (gb_setCell (gb_setCell (World.grownBy.refl w2 (some (w.heap.size + 1 + 1))) (.inl rfl) (.slice A L c) (p := ⟨w.heap.size + 1 + 1, 3, none⟩)) (.inl rfl) (.slice A kk c) (p := ⟨w.heap.size + 1 + 1, 3, none⟩)) (by omega)
        have hkl := HKL.out
        rw [← HLe.out] at hkl
        have hl := takeF_len kk kids hkl
        have hk := ((HK.out.bh hb).take hkl).keep (S' := fun x => S x ∨ w.heap.size + 2 ≤ x) (Nat.le_refl _) fun x hx _ => ⟨rfl, .inl hx⟩
        have hfin := SP_box (kids := kids) (k := k) (o := o) (t := t) HS.out hb hk ⟨HL.out.1, takeF_lenT kk kids HL.out.2.1, trivial⟩ (by have := takeF_size kk kids; omega)
        rw [hl] at hfin
        exact hfin.drew
  · have hz2 : (at_ == 0) = false := by simpa using hz
    have hz3 : decide (at_ = 0) = false := by simpa using hz
    have hwa : IntKind.i64.wrap (at_ - 1) = at_ - 1 := (IntKind.wrap_i64 _).trans (by omega)
    have hza : 0 < at_ := by omega
    clear hz
    go_wp2_with (fail)
    clear hz2 hz3 hwa a0 a1 a2 a3 b0 b1 b2 b3 y0 y1 y2 y3 x0 x1 x2 x3 z0 z1 z2 z3
    go_loopw [12, 1] (fun iv av wr => ∃ (i : Nat) (at1 : Int) (r : Fo) (v : Value) (acc : Fo) (xs : List Value), iv = .int .i64 (i : Int) ∧ av = .int .i64 at1 ∧ -1 ≤ at1 ∧ at1 ≤ 4294967296 ∧ Suf i r kids ∧ RQ w w2 wr S (w.heap.size + 1 + 1) k o t v acc xs ∧ acc.len = i ∧ fsize acc + 2 * fsize r ≤ 2 * fsize kids ∧ lenT acc ∧ lenT r) (fun iv _ _ => L - (match iv with | .int _ x => x.toNat | _ => 0))
    case atStart =>
      exact ⟨0, at_ - 1, kids, .slice none 0 0, .nil, [], rfl, rfl, by omega, by omega, Suf.zero _, ⟨HS.out, HB.out, HMx.out, fun _ _ _ _ => rfl, World.ownsRow_nil _ _ _ _, rfl, ⟨by omega, by rw [HZ.out]; omega⟩, Nat.le_refl _⟩, rfl, by simp [fsize], trivial, HL.out.2.1⟩
    case round =>
      obtain ⟨i, at1, r, v, acc, xs, rfl, rfl, ha0, ha1, hsuf, hrq, hai, hsz, hl1, hl2⟩ := hrel
      have HRQ := Lib.hid hrq
      have hlen' := hsuf.len
      rw [HLe.out] at hlen'
      have HAC := Lib.hid (show acc.len ≤ 1073741824 from by omega)
      have HSZ := Lib.hid (And.intro hai (And.intro hsz (And.intro hl1 hl2)))
      have HT' := Lib.hid ((hrq.old w.heap.size (Nat.le_refl _) (by rw [HZ.out]; omega) (by omega)).trans HT.out)
      have HN' := Lib.hid ((hrq.old (w.heap.size + 1) (by omega) (by rw [HZ.out]; omega) (by omega)).trans HN.out)
      obtain ⟨a0, a1, a2, a3, _⟩ := row4 HT'.out
      obtain ⟨A5, c5, rfl, hc5⟩ := own_shape hrq.own
      clear hrq hai hsz hl1 hc5
      cases r with
      | nil =>
        simp only [Fo.len] at hlen'
        have hge : decide ((i : Int) < (L : Int)) = false := by rw [decide_eq_false_iff_not]; omega
        have hge2 : decide (i < L) = false := by rw [decide_eq_false_iff_not]; omega
        obtain ⟨b0, b1, b2, b3, y0, y1, y2, y3⟩ := row4 HN'.out
        obtain ⟨x0, x1, x2, x3, _⟩ := row4 HRQ.out.blkM
        clear hl2 hsuf hlen'
        go_wp2_with (fail)
        obtain ⟨m0, m1, m2, m3, _⟩ := row4 (s4 HN'.out (.int .i64 k) (.string ⟨t.toArray⟩) (.int .i64 o) (.slice A5 acc.len c5))
        refine bodyPost_ret (v := .agg #[.int .i64 k, .string ⟨t.toArray⟩, .int .i64 o, .slice A5 acc.len c5]) (by simp [results, Tryd.results28, go_sem, m0, m1, m2, m3]) rfl ?_
        obtain ⟨hai, hsz, hl1, hl2⟩ := HSZ.out
        simp only [fsize] at hsz
        exact SP_box HS.out HRQ.out.bel (HRQ.out.out.keep (Nat.le_refl _) fun x hx _ => ⟨rfl, hx.elim Or.inl fun h => Or.inr (by have := HZ.out; omega)⟩) ⟨HL.out.1, hl1, trivial⟩ (by omega)
      | cons k1 t1 kids1 o1 r1 =>
        simp only [Fo.len] at hlen'
        obtain ⟨g, off, A1, c1, rfl, hgl, q0, q1, q2, q3, hk1⟩ := HK.out.get hsuf HRQ.out.bel
        have hkid := hsuf.kid
        have HSuf := Lib.hid hsuf
        have hge : decide ((i : Int) < (L : Int)) = true := by rw [decide_eq_true_eq]; omega
        have hiL : (i : Int) < (L : Int) := by omega
        have hi0 : (0 : Int) ≤ (i : Int) := by omega
        have HK1 := Lib.hid (hk1.keep (Below.size HRQ.out.bel) fun x hx hl => ⟨Below.block HRQ.out.bel x hl, hx⟩)
        have HLk := Lib.hid hl2
        have HKid := Lib.hid hkid.1
        have HGl := Lib.hid hgl
        clear hk1 hsuf hl2 hkid hlen' hgl
        go_wp2_with (fail)
        refine (rsize_any (fsize kids1) k1 o1 t1 kids1 A1 c1 _ (Nat.le_refl _) (by have := HKid.out; omega) HK1.out.kt).mono ?_
        rintro e1 wt ⟨rfl, hbt⟩
        have HRt := Lib.hid (HRQ.out.after hbt)
        have HKt := Lib.hid (HK1.out.bh hbt)
        have HTt := Lib.hid ((Below.block hbt _ (heap_lt HT'.out)).trans HT'.out)
        have Q0 := (Below.cell hbt (p := ⟨g, off + i * 4, none⟩) (Nat.lt_of_lt_of_le HGl.out (Below.size HRQ.out.bel))).trans q0
        have Q1 := (Below.cell hbt (p := ⟨g, off + i * 4 + 1, none⟩) (Nat.lt_of_lt_of_le HGl.out (Below.size HRQ.out.bel))).trans q1
        have Q2 := (Below.cell hbt (p := ⟨g, off + i * 4 + 2, none⟩) (Nat.lt_of_lt_of_le HGl.out (Below.size HRQ.out.bel))).trans q2
        have Q3 := (Below.cell hbt (p := ⟨g, off + i * 4 + 3, none⟩) (Nat.lt_of_lt_of_le HGl.out (Below.size HRQ.out.bel))).trans q3
        clear hbt a0 a1 a2 a3 q0 q1 q2 q3
        obtain ⟨a0, a1, a2, a3, _⟩ := row4 HTt.out
        obtain ⟨g3, z3⟩ := HRt.out.cell
        obtain ⟨s, hs⟩ : ∃ s : Int, (fsize kids1 : Int) + 1 = s := ⟨_, rfl⟩
        rw [hs]
        have Hsz := Lib.hid hs
        clear hs
        by_cases hcs : 0 ≤ at1 ∧ at1 < s
        · obtain ⟨hc1, hc2⟩ := hcs
          have t1d : decide ((0 : Int) ≤ at1) = true := decide_eq_true hc1
          have t2d : decide (at1 < s) = true := decide_eq_true hc2
          go_wp2_with (fail)
          have HRd := Lib.hid HRt.out.drew
          have HKd := Lib.hid (HKt.out.bh (below_drew wt))
          have HCa := Lib.hid (HR.out S k1 o1 at1 how n t1 nm kids1 A1 c1 wt.drew (fun x hx => Nat.lt_of_lt_of_le (HS.out x hx) (Below.size HRd.out.bel)) (by have := HKid.out; omega) (by have := HKid.out; omega) HKd.out ⟨HLk.out.1, HLk.out.2.1, trivial⟩ Hnm.out hc1 ha1)
          clear hc1 hc2
          go_region_law (first
            | (go_simp; go_at_call 28; (refine HCa.out.mono ?_); rintro e w4 ⟨q1, p1, s1, kids2, B1, d1, rfl, u1, u2, u3, u4⟩; have HU := Lib.hid (And.intro u1 (And.intro u2 (And.intro u3 u4))); have HR4 := Lib.hid (HRd.out.after u4); clear u1 u2 u3 u4; obtain ⟨g3, z3⟩ := HR4.out.cell; have g4 := (cell_allocQ HR4.out (.cells #[.int .i64 q1, .string ⟨s1.toArray⟩, .int .i64 p1, .slice B1 kids2.len d1] 25)))
            | (refine step_rea _ (by rfl) _ _ _ (by rfl) w2.heap.size 25 i0 _ 4 56 Tryd.underlying23 hi hz0 hz1 hz2 rfl (by decide) (.slice A5 acc.len c5) acc.len xs (by rfl) (HR4.out.own.alloc _) (some ⟨w4.heap.size, 0, none⟩) 1 1 [.int .i64 q1, .string ⟨s1.toArray⟩, .int .i64 p1, .slice B1 kids2.len d1] (by rfl) (rea_one (heap_alloc_new w4 _)) (by have := HAC.out; unfold maxLen; omega) (by have := HAC.out; omega) (by have := HR4.out.size; simp; omega) ?_; intro v1 w5 ho1 hg1 ha1; obtain ⟨A6, c6, rfl, hc6⟩ := own_shape ho1; have HO := Lib.hid (And.intro ho1 (And.intro hg1 ha1)); obtain ⟨_, _, _, g3, _, _, _, z3⟩ := row4 (HR4.out.boxed hg1); clear ho1 hg1 ha1))
          all_goals
            go_wp2_with (fail)
            obtain ⟨u1, u2, u3, u4⟩ := HU.out
            obtain ⟨hai, hsz, hl1, hl2⟩ := HSZ.out
            obtain ⟨ho1, hg1, ha1⟩ := HO.out
            have hP := HRd.out.push (q1 := q1) (o1 := p1) (t1 := s1) u4 u1 hg1 (by simpa using ha1) ho1
            simp only [fsize] at hsz
            refine ⟨⟨i + 1, -1, r1, _, _, _, rfl, rfl, by omega, by omega, HSuf.out.next, hP, by rw [Fo.len_app, hai]; rfl, ?_, lenT_app _ _ hl1 u2, hl2.2.2⟩, by simp; omega⟩
            rw [fsize_app]
            simp only [Fo.one, fsize]
            omega
        · have hs1 : 1 ≤ s ∧ s ≤ 1073741825 := by have := Hsz.out; have := HKid.out; omega
          have hwr : IntKind.i64.wrap (at1 - s) = at1 - s := (IntKind.wrap_i64 _).trans (by omega)
          by_cases hc1 : 0 ≤ at1
          · have hc2 : ¬ at1 < s := fun h => hcs ⟨hc1, h⟩
            have t1d : decide ((0 : Int) ≤ at1) = true := decide_eq_true hc1
            have t2d : decide (at1 < s) = false := by rw [decide_eq_false_iff_not]; exact hc2
            have t3d : decide (at1 - s < -1) = false := by rw [decide_eq_false_iff_not]; omega
            clear hcs
            go_wp2_with (fail)
            have HRd := Lib.hid HRt.out.drew
            have HKd := Lib.hid ((HKt.out.bh (below_drew wt)).keep (S' := fun x => S x ∨ wt.drew.heap.size ≤ x) (Nat.le_refl _) fun x hx _ => ⟨rfl, .inl hx⟩)
            have g4 := cell_allocQ HRd.out (.cells #[.int .i64 k1, .string ⟨t1.toArray⟩, .int .i64 o1, .slice A1 kids1.len c1] 25)
            have g5 := cell_allocQ HRt.out (.cells #[.int .i64 k1, .string ⟨t1.toArray⟩, .int .i64 o1, .slice A1 kids1.len c1] 25)
            go_region_law ((refine step_rea _ (by rfl) _ _ _ (by rfl) w2.heap.size 25 i0 _ 4 56 Tryd.underlying23 hi hz0 hz1 hz2 rfl (by decide) (.slice A5 acc.len c5) acc.len xs (by rfl) (HRd.out.own.alloc _) (some ⟨wt.drew.heap.size, 0, none⟩) 1 1 [.int .i64 k1, .string ⟨t1.toArray⟩, .int .i64 o1, .slice A1 kids1.len c1] (by rfl) (rea_one (heap_alloc_new wt.drew _)) (by have := HAC.out; unfold maxLen; omega) (by have := HAC.out; omega) (by have := HRt.out.size; simp; omega) ?_; intro v1 w5 ho1 hg1 ha1; obtain ⟨A6, c6, rfl, hc6⟩ := own_shape ho1; have HO := Lib.hid (And.intro ho1 (And.intro hg1 ha1)); obtain ⟨_, _, _, g3, _, _, _, z3⟩ := row4 (HRd.out.boxed hg1); clear ho1 hg1 ha1))
            all_goals
              go_wp2_with (fail)
              obtain ⟨hai, hsz, hl1, hl2⟩ := HSZ.out
              obtain ⟨ho1, hg1, ha1'⟩ := HO.out
              have hP := HRd.out.push (q1 := k1) (o1 := o1) (t1 := t1) (BH.refl _) HKd.out hg1 (by simpa using ha1') ho1
              simp only [fsize] at hsz
              refine ⟨⟨i + 1, at1 - s, r1, _, _, _, rfl, rfl, by omega, by omega, HSuf.out.next, hP, by rw [Fo.len_app, hai]; rfl, ?_, lenT_app _ _ hl1 ⟨hl2.1, hl2.2.1, trivial⟩, hl2.2.2⟩, by simp; omega⟩
              rw [fsize_app]
              simp only [Fo.one, fsize]
              omega
          · have t1d : decide ((0 : Int) ≤ at1) = false := by rw [decide_eq_false_iff_not]; exact hc1
            have t3d : decide (at1 - s < -1) = true := by rw [decide_eq_true_eq]; omega
            clear hcs
            go_wp2_with (fail)
            have HRd := Lib.hid HRt.out.drew
            have HKd := Lib.hid ((HKt.out.bh (below_drew wt)).keep (S' := fun x => S x ∨ wt.drew.heap.size ≤ x) (Nat.le_refl _) fun x hx _ => ⟨rfl, .inl hx⟩)
            have g4 := cell_allocQ HRd.out (.cells #[.int .i64 k1, .string ⟨t1.toArray⟩, .int .i64 o1, .slice A1 kids1.len c1] 25)
            have g5 := cell_allocQ HRt.out (.cells #[.int .i64 k1, .string ⟨t1.toArray⟩, .int .i64 o1, .slice A1 kids1.len c1] 25)
            go_region_law ((refine step_rea _ (by rfl) _ _ _ (by rfl) w2.heap.size 25 i0 _ 4 56 Tryd.underlying23 hi hz0 hz1 hz2 rfl (by decide) (.slice A5 acc.len c5) acc.len xs (by rfl) (HRd.out.own.alloc _) (some ⟨wt.drew.heap.size, 0, none⟩) 1 1 [.int .i64 k1, .string ⟨t1.toArray⟩, .int .i64 o1, .slice A1 kids1.len c1] (by rfl) (rea_one (heap_alloc_new wt.drew _)) (by have := HAC.out; unfold maxLen; omega) (by have := HAC.out; omega) (by have := HRt.out.size; simp; omega) ?_; intro v1 w5 ho1 hg1 ha1; obtain ⟨A6, c6, rfl, hc6⟩ := own_shape ho1; have HO := Lib.hid (And.intro ho1 (And.intro hg1 ha1)); obtain ⟨_, _, _, g3, _, _, _, z3⟩ := row4 (HRd.out.boxed hg1); clear ho1 hg1 ha1))
            all_goals
              go_wp2_with (fail)
              obtain ⟨hai, hsz, hl1, hl2⟩ := HSZ.out
              obtain ⟨ho1, hg1, ha1'⟩ := HO.out
              have hP := HRd.out.push (q1 := k1) (o1 := o1) (t1 := t1) (BH.refl _) HKd.out hg1 (by simpa using ha1') ho1
              simp only [fsize] at hsz
              refine ⟨⟨i + 1, -1, r1, _, _, _, rfl, rfl, by omega, by omega, HSuf.out.next, hP, by rw [Fo.len_app, hai]; rfl, ?_, lenT_app _ _ hl1 ⟨hl2.1, hl2.2.1, trivial⟩, hl2.2.2⟩, by simp; omega⟩
              rw [fsize_app]
              simp only [Fo.one, fsize]
              omega
end Go.Proofs.YtnidngpenhblcaaDoor
