/- typeterm.Compare: the plain comparison. No condition but a bounded size. typeterm.Equal. No condition but a bounded size. hierarchy.sameField, slices.EqualFunc of fields, sameDecl. No condition but bounded sizes. -/
import Derived.Test.YtpkiheenkpcebaaGreatDoorMao
import Derived.StillTailTactics
import Derived.Deep.DeepCutAuto
set_option linter.unusedVariables false
set_option linter.unusedSimpArgs false
namespace Go.Proofs.YtpkiheenkpcebaaGreatDoor
open Go.RowKit Sx

theorem lx_assoc (a b c : Int) : lx a (lx b c) = lx (lx a b) c := by
  unfold lx
  by_cases h : a = 0 <;> simp [h]
theorem lx_4 {a b c d G F : Int} (h : lx a (lx b (lx c (lx d G))) = F) : lx (lx a (lx b (lx c d))) G = F := by
  rw [← h, lx_assoc c d G, lx_assoc b _ G, lx_assoc a _ G]
theorem lx_zero {a b : Int} (h : lx a b = 0) : b = 0 := by
  unfold lx at h
  split at h
  · exact h
  · rename_i h'; exact absurd h h'
theorem len_of_zero {a b c : Int} {L L' : Nat} (h : lx a (lx b (lx c (Lib.compareInt (L : Int) (L' : Int)))) = 0) : L = L' := by
  have := compareInt_zero (lx_zero (lx_zero (lx_zero h)))
  omega

set_option maxHeartbeats 2000000 in
set_option maxRecDepth 100000 in
theorem compare_any (N : Nat) : ∀ (k o k' o' : Int) (t t' : List UInt8) (kids kids' : Fo) (A A' : Option Addr) (c c' : Nat) (w : World), fsize kids ≤ N → fsize kids ≤ 4611686018427387904 → fsize kids' ≤ 4611686018427387904 → KT w kids A c → KT w kids' A' c' →
    Calls Tryz.prog 111 #[.agg #[.int .i64 k, .string ⟨t.toArray⟩, .int .i64 o, .slice A kids.len c], .agg #[.int .i64 k', .string ⟨t'.toArray⟩, .int .i64 o', .slice A' kids'.len c']] w fun e w' => e = .returned (.int .i64 (cmp1 k t o kids k' t' o' kids')) ∧ Below w.heap.size w w' := by
  induction N using Nat.strongRecOn with
  | ind N ih =>
  intro k o k' o' t t' kids kids' A A' c c' w hN hN2 hN3 hK hK'
  have IH := Lib.hid ih
  have HK := Lib.hid hK
  have HK' := Lib.hid hK'
  clear ih hK hK'
  have hlen := len_le_fsize kids
  have hlen2 := len_le_fsize kids'
  obtain ⟨F, hF⟩ : ∃ F, cmp1 k t o kids k' t' o' kids' = F := ⟨_, rfl⟩
  rw [hF]
  unfold cmp1 at hF
  obtain ⟨G, hG⟩ : ∃ G, cmpF kids kids' = G := ⟨_, rfl⟩
  rw [hG] at hF
  have HG := Lib.hid hG
  clear hG
  obtain ⟨L, hL⟩ : ∃ L, kids.len = L := ⟨_, rfl⟩
  obtain ⟨L', hL'⟩ : ∃ L', kids'.len = L' := ⟨_, rfl⟩
  rw [hL, hL'] at hF
  rw [hL] at hlen ⊢
  rw [hL'] at hlen2 ⊢
  have HL := Lib.hid hL
  have HL' := Lib.hid hL'
  have HF := Lib.hid hF
  clear hL hL' hF
  have hbB := heap_alloc_new w (.cells #[.int .i64 k, .string ⟨t.toArray⟩, .int .i64 o, .slice A L c] 34 (0, 0))
  obtain ⟨w1, hw1⟩ : ∃ w1, w.alloc (.cells #[.int .i64 k, .string ⟨t.toArray⟩, .int .i64 o, .slice A L c] 34 (0, 0)) = w1 := ⟨_, rfl⟩
  have hs1 : w1.heap.size = w.heap.size + 1 := by rw [← hw1]; simp
  have hbC := heap_alloc_new w1 (.cells #[.int .i64 k', .string ⟨t'.toArray⟩, .int .i64 o', .slice A' L' c'] 34 (0, 0))
  obtain ⟨w2, hw2⟩ : ∃ w2, w1.alloc (.cells #[.int .i64 k', .string ⟨t'.toArray⟩, .int .i64 o', .slice A' L' c'] 34 (0, 0)) = w2 := ⟨_, rfl⟩
  have hs2 : w2.heap.size = w.heap.size + 2 := by rw [← hw2]; simp [hs1]
  rw [hw1] at hbB
  rw [hw2, hs1] at hbC
  have hbB2 : w2.heap[w.heap.size]? = some (.cells #[.int .i64 k, .string ⟨t.toArray⟩, .int .i64 o, .slice A L c] 34 (0, 0)) := by rw [← hw2]; exact (Below.heap_alloc w1 _ _ (by omega)).trans hbB
  have B2 : Below w.heap.size w w2 := by
    rw [← hw2, ← hw1]
    exact ((Below.refl _ _).alloc (Nat.le_refl _) _).alloc (by simp) _
  obtain ⟨b0, b1, b2, b3, y0, y1, y2, y3⟩ := row4 hbB2
  obtain ⟨d0, d1, d2, d3, z0, z1, z2, z3⟩ := row4 hbC
  have hB2 := Lib.hid B2
  have hBB := Lib.hid hbB2
  have hCC := Lib.hid hbC
  have hW : w2 = (w.alloc (.cells #[.int .i64 k, .string ⟨t.toArray⟩, .int .i64 o, .slice A L c] 34 (0, 0))).alloc (.cells #[.int .i64 k', .string ⟨t'.toArray⟩, .int .i64 o', .slice A' L' c'] 34 (0, 0)) := by rw [← hw2, ← hw1]
  clear hw1 hw2 hbB hbC hbB2 B2
  have HW := Lib.hid hW
  clear hW hs1 w1
  go_enter Tryz.func111, Tryz.ntmps111
  go_upto_region 1 with (fail)
  go_cut [5] (fun s5 wx => s5 = .int .i64 (lx (Lib.compareInt k k') (lx (Lib.compareBytes t t') (lx (Lib.compareInt o o') (Lib.compareInt (L : Int) (L' : Int))))) ∧ Hid (Below (w.heap.size + 2) w2 wx))
  case first =>
    rw [← HW.out]
    go_still_tail 22, (by kernel_rfl)
    still_call (Tryz.cmp_Compare_int _ _ _)
    repeat still_step
    still_call (Tryz.strings_Compare _ _ _)
    repeat still_step
    still_call (Tryz.cmp_Compare_int _ _ _)
    repeat still_step
    still_call (Tryz.cmp_Compare_int _ _ _)
    refine wpStill_nil ?_
    change wpList _ _ _ _ _ w2.drew
    generalize hw3 : w2.drew = w3
    have H3 := Lib.hid hw3
    clear hw3
    go_wp2_with (go_at_call 135; refine (or_new _ _ _ _ _ _).mono ?_; rintro e w4 ⟨rfl, rfl⟩)
    go_meet
    refine ⟨rfl, Lib.hid ?_⟩
    rw [← H3.out]
    exact Below.alloc (show Below (w.heap.size + 2) w2 w2.drew from ⟨rfl, rfl, rfl, Nat.le_refl _, fun _ _ => rfl⟩) (by show w.heap.size + 2 ≤ w2.heap.size; omega) _
  case rest =>
  obtain ⟨rfl, Hbw⟩ := hcut
  have HQ := Lib.hid (lx_4 HF.out)
  have hlen3 := fun h => len_of_zero (a := Lib.compareInt k k') (b := Lib.compareBytes t t') (c := Lib.compareInt o o') (L := L) (L' := L') h
  generalize (lx (Lib.compareInt k k') (lx (Lib.compareBytes t t') (lx (Lib.compareInt o o') (Lib.compareInt (L : Int) (L' : Int))))) = Q at *
  have hlen4 := Lib.hid hlen3
  clear hlen3 HF b0 b1 b2 b3 y0 y1 y2 y3 d0 d1 d2 d3 z0 z1 z2 z3
  obtain ⟨b0, b1, b2, b3, y0, y1, y2, y3⟩ := row4 ((Hbw.out.block _ (by omega)).trans hBB.out)
  obtain ⟨d0, d1, d2, d3, z0, z1, z2, z3⟩ := row4 ((Hbw.out.block _ (by omega)).trans hCC.out)
  by_cases hz : ¬ Q = 0
  · have hz1 : (Q == 0) = false := by simp [hz]
    have hz2 : (Q != 0) = true := by simp [hz]
    go_wp2_with (fail)
    go_ret
    exact ⟨ret_int ((lx_ne hz).symm.trans HQ.out), hB2.out.trans (Hbw.out.mono (by omega))⟩
  obtain rfl : Q = 0 := Decidable.not_not.1 hz
  obtain rfl : L = L' := hlen4.out rfl
  have HF5 := Lib.hid ((lx_0 _).symm.trans HQ.out)
  clear hz
  go_wp2_with (fail)
  go_loopw [4, 5, 6, 37] (fun _ _ _ iv wr => ∃ (i : Nat) (r r' : Fo), iv = .int .i64 (i : Int) ∧ Suf i r kids ∧ Suf i r' kids' ∧ cmpF r r' = F ∧ Below (w.heap.size + 2) w2 wr) (fun _ _ _ iv _ => L - (match iv with | .int _ n => n.toNat | _ => 0))
  case atStart => exact ⟨0, kids, kids', rfl, Suf.zero _, Suf.zero _, HG.out.trans HF5.out, Hbw.out⟩
  case round =>
    obtain ⟨i, r, r', rfl, hs, hs', heq, hbel⟩ := hrel
    have heq' := Lib.hid heq
    clear heq b0 b1 b2 b3 y0 y1 y2 y3 d0 d1 d2 d3 z0 z1 z2 z3
    obtain ⟨b0, b1, b2, b3, y0, y1, y2, y3⟩ := row4 ((hbel.block _ (by omega)).trans hBB.out)
    obtain ⟨d0, d1, d2, d3, z0, z1, z2, z3⟩ := row4 ((hbel.block _ (by omega)).trans hCC.out)
    have hi := hs.len
    have hi' := hs'.len
    rw [HL.out] at hi
    rw [HL'.out] at hi'
    have hbs := hbel.size
    have hbs' : w.heap.size + 2 ≤ wr.heap.size := by omega
    have HB := Lib.hid (hB2.out.trans (hbel.mono (by omega)))
    have hbelH := Lib.hid hbel
    clear hbel hbs
    cases r with
    | nil =>
      cases r' with
      | cons => simp only [Fo.len] at hi hi'; omega
      | nil =>
      simp only [Fo.len] at hi hi'
      have tlt : decide (i < L) = false := by simp; omega
      have Hi := Lib.hid hi
      clear hi hi' hs hs'
      go_wp2_with (fail)
      go_ret
      exact ⟨ret_int (by rw [← heq'.out]; rfl), HB.out⟩
    | cons k1 t1 kids1 o1 r1 =>
      cases r' with
      | nil => simp only [Fo.len] at hi hi'; omega
      | cons k2 t2 kids2 o2 r2 =>
      obtain ⟨g, off, A1, c1, rfl, hgl, a0, a1, a2, a3, hk1⟩ := HK.out.get hs HB.out
      obtain ⟨g', off', A2, c2, rfl, hgl', p0, p1, p2, p3, hk2⟩ := HK'.out.get hs' HB.out
      obtain ⟨hkid, hil⟩ := hs.kid
      obtain ⟨hkid', hil'⟩ := hs'.kid
      rw [HL.out] at hil
      have tlt : decide ((i : Int) < (L : Int)) = true := by simp; omega
      have hiL : (i : Int) < (L : Int) := by omega
      have hi0 : (0 : Int) ≤ (i : Int) := by omega
      have HS := Lib.hid hs
      have HS' := Lib.hid hs'
      clear hi hi' hs hs' hil'
      have hcall : Calls Tryz.prog 111 #[.agg #[.int .i64 k1, .string ⟨t1.toArray⟩, .int .i64 o1, .slice A1 kids1.len c1], .agg #[.int .i64 k2, .string ⟨t2.toArray⟩, .int .i64 o2, .slice A2 kids2.len c2]] wr.drew fun e w' => e = .returned (.int .i64 (cmp1 k1 t1 o1 kids1 k2 t2 o2 kids2)) ∧ Below wr.heap.size wr w' := by
        refine (IH.out (fsize kids1) (by omega) k1 o1 k2 o2 t1 t2 kids1 kids2 A1 A2 c1 c2 _ (Nat.le_refl _) (by omega) (by omega) ((hk1.below HB.out).drew) ((hk2.below HB.out).drew)).mono ?_
        rintro e w' ⟨rfl, hb⟩
        exact ⟨rfl, hb.os, hb.tape, hb.output, hb.size, hb.block⟩
      have HC := Lib.hid hcall
      clear hcall
      obtain ⟨q, hq⟩ : ∃ q, cmp1 k1 t1 o1 kids1 k2 t2 o2 kids2 = q := ⟨_, rfl⟩
      rw [hq] at HC
      have HE := Lib.hid ((cmpF_cons k1 t1 kids1 o1 r1 k2 t2 kids2 o2 r2).symm.trans heq'.out)
      rw [hq] at HE
      clear hq hk1 hk2
      by_cases hz : q = 0
      · subst hz
        go_wp2_with (fail)
        go_region_held3 (fun w' => w'.cell? ⟨w.heap.size, 3, none⟩ = some (.slice (some ⟨g, off, none⟩) L c) ∧ w'.cell? ⟨w.heap.size + 1, 3, none⟩ = some (.slice (some ⟨g', off', none⟩) L c') ∧
            w'.cell? ⟨g, off + i * 4, none⟩ = some (.int .i64 k1) ∧ w'.cell? ⟨g, off + i * 4 + 1, none⟩ = some (.string ⟨t1.toArray⟩) ∧ w'.cell? ⟨g, off + i * 4 + 2, none⟩ = some (.int .i64 o1) ∧ w'.cell? ⟨g, off + i * 4 + 3, none⟩ = some (.slice A1 kids1.len c1) ∧
            w'.cell? ⟨g', off' + i * 4, none⟩ = some (.int .i64 k2) ∧ w'.cell? ⟨g', off' + i * 4 + 1, none⟩ = some (.string ⟨t2.toArray⟩) ∧ w'.cell? ⟨g', off' + i * 4 + 2, none⟩ = some (.int .i64 o2) ∧ w'.cell? ⟨g', off' + i * 4 + 3, none⟩ = some (.slice A2 kids2.len c2))
          (go_keep)
          ((go_at_call 111; refine HC.out.mono ?_; rintro e w4 ⟨rfl, hb4⟩; have HW4 := Lib.hid hb4; have l0 := HB.out.size; have q2 := (hb4.cell (p := ⟨w.heap.size, 3, none⟩) (by exact (show w.heap.size < wr.heap.size by omega))).trans b3; have q2' := (hb4.cell (p := ⟨w.heap.size + 1, 3, none⟩) (by exact (show w.heap.size + 1 < wr.heap.size by omega))).trans d3; have u0 := (hb4.cell (p := ⟨g, _, none⟩) (by exact (show g < wr.heap.size by omega))).trans a0; have u1 := (hb4.cell (p := ⟨g, _, none⟩) (by exact (show g < wr.heap.size by omega))).trans a1; have u2 := (hb4.cell (p := ⟨g, _, none⟩) (by exact (show g < wr.heap.size by omega))).trans a2; have u3 := (hb4.cell (p := ⟨g, _, none⟩) (by exact (show g < wr.heap.size by omega))).trans a3; have v0 := (hb4.cell (p := ⟨g', _, none⟩) (by exact (show g' < wr.heap.size by omega))).trans p0; have v1 := (hb4.cell (p := ⟨g', _, none⟩) (by exact (show g' < wr.heap.size by omega))).trans p1; have v2 := (hb4.cell (p := ⟨g', _, none⟩) (by exact (show g' < wr.heap.size by omega))).trans p2; have v3 := (hb4.cell (p := ⟨g', _, none⟩) (by exact (show g' < wr.heap.size by omega))).trans p3; clear hb4))
        go_wp2_with (fail)
        exact ⟨⟨i + 1, r1, r2, rfl, HS.out.next, HS'.out.next, (lx_0 _).symm.trans HE.out, hbelH.out.trans (HW4.out.mono hbs')⟩, by simp; omega⟩
      · have hz1 : (q == 0) = false := by simp [hz]
        have hz2 : (q != 0) = true := by simp [hz]
        go_wp2_with (fail)
        go_region_held3 (fun w' => w'.cell? ⟨w.heap.size, 3, none⟩ = some (.slice (some ⟨g, off, none⟩) L c) ∧ w'.cell? ⟨w.heap.size + 1, 3, none⟩ = some (.slice (some ⟨g', off', none⟩) L c') ∧
            w'.cell? ⟨g, off + i * 4, none⟩ = some (.int .i64 k1) ∧ w'.cell? ⟨g, off + i * 4 + 1, none⟩ = some (.string ⟨t1.toArray⟩) ∧ w'.cell? ⟨g, off + i * 4 + 2, none⟩ = some (.int .i64 o1) ∧ w'.cell? ⟨g, off + i * 4 + 3, none⟩ = some (.slice A1 kids1.len c1) ∧
            w'.cell? ⟨g', off' + i * 4, none⟩ = some (.int .i64 k2) ∧ w'.cell? ⟨g', off' + i * 4 + 1, none⟩ = some (.string ⟨t2.toArray⟩) ∧ w'.cell? ⟨g', off' + i * 4 + 2, none⟩ = some (.int .i64 o2) ∧ w'.cell? ⟨g', off' + i * 4 + 3, none⟩ = some (.slice A2 kids2.len c2))
          (go_keep)
          ((go_at_call 111; refine HC.out.mono ?_; rintro e w4 ⟨rfl, hb4⟩; have HW4 := Lib.hid hb4; have l0 := HB.out.size; have q2 := (hb4.cell (p := ⟨w.heap.size, 3, none⟩) (by exact (show w.heap.size < wr.heap.size by omega))).trans b3; have q2' := (hb4.cell (p := ⟨w.heap.size + 1, 3, none⟩) (by exact (show w.heap.size + 1 < wr.heap.size by omega))).trans d3; have u0 := (hb4.cell (p := ⟨g, _, none⟩) (by exact (show g < wr.heap.size by omega))).trans a0; have u1 := (hb4.cell (p := ⟨g, _, none⟩) (by exact (show g < wr.heap.size by omega))).trans a1; have u2 := (hb4.cell (p := ⟨g, _, none⟩) (by exact (show g < wr.heap.size by omega))).trans a2; have u3 := (hb4.cell (p := ⟨g, _, none⟩) (by exact (show g < wr.heap.size by omega))).trans a3; have v0 := (hb4.cell (p := ⟨g', _, none⟩) (by exact (show g' < wr.heap.size by omega))).trans p0; have v1 := (hb4.cell (p := ⟨g', _, none⟩) (by exact (show g' < wr.heap.size by omega))).trans p1; have v2 := (hb4.cell (p := ⟨g', _, none⟩) (by exact (show g' < wr.heap.size by omega))).trans p2; have v3 := (hb4.cell (p := ⟨g', _, none⟩) (by exact (show g' < wr.heap.size by omega))).trans p3; clear hb4))
        go_wp2_with (fail)
        go_ret
        exact ⟨ret_int (by rw [← HE.out, lx_ne hz]), HB.out.trans (HW4.out.mono (by omega))⟩
end Go.Proofs.YtpkiheenkpcebaaGreatDoor
namespace Go.Proofs.YtpkiheenkpcebaaGreatDoor
open Go.RowKit Sx
theorem equalT_any (k o k' o' : Int) (t t' : List UInt8) (kids kids' : Fo) (A A' : Option Addr) (c c' : Nat) (w : World) (hN2 : fsize kids ≤ 4611686018427387904) (hN3 : fsize kids' ≤ 4611686018427387904) (hK : KT w kids A c) (hK' : KT w kids' A' c') :
    Calls Tryz.prog 82 #[.agg #[.int .i64 k, .string ⟨t.toArray⟩, .int .i64 o, .slice A kids.len c], .agg #[.int .i64 k', .string ⟨t'.toArray⟩, .int .i64 o', .slice A' kids'.len c']] w fun e w' => e = .returned (.bool (cmp1 k t o kids k' t' o' kids' == 0)) ∧ Below w.heap.size w w' := by
  have B2 : Below w.heap.size w ((w.alloc (.cells #[.int .i64 k, .string ⟨t.toArray⟩, .int .i64 o, .slice A kids.len c] 34 (0, 0))).alloc (.cells #[.int .i64 k', .string ⟨t'.toArray⟩, .int .i64 o', .slice A' kids'.len c'] 34 (0, 0))) :=
    ((Below.refl _ _).alloc (Nat.le_refl _) _).alloc (by simp) _
  have HC := Lib.hid (compare_any (fsize kids) k o k' o' t t' kids kids' A A' c c' _ (Nat.le_refl _) hN2 hN3 (hK.below B2) (hK'.below B2))
  have HB := Lib.hid B2
  clear B2 hK hK'
  go_enter Tryz.func82, Tryz.ntmps82
  go_wp2_with (go_at_call 111; refine HC.out.mono ?_; rintro e w4 ⟨rfl, hb⟩; have HB4 := Lib.hid hb; clear hb)
  go_ret
  exact ⟨rfl, HB.out.trans (HB4.out.mono HB.out.size)⟩
end Go.Proofs.YtpkiheenkpcebaaGreatDoor
namespace Go.Proofs.YtpkiheenkpcebaaGreatDoor.Sx
def cmpT (x y : Tm) : Int := cmp1 x.k x.t x.o x.kids y.k y.t y.o y.kids
def feB : List (List UInt8 × Tm) → List (List UInt8 × Tm) → Bool
  | [], [] => true
  | f :: fs, g :: gs => decide (f.1 = g.1) && ((cmpT f.2 g.2 == 0) && feB fs gs)
  | _, _ => false
def deB (d e : De) : Bool := decide (d.name = e.name) && (decide (d.arity = e.arity) && (decide (d.conc = e.conc) && ((cmpT d.super e.super == 0) && (decide (d.fields.length = e.fields.length) && feB d.fields e.fields))))
theorem feB_take : ∀ (fs gs : List (List UInt8 × Tm)) (i : Nat), fs.length = gs.length → i < fs.length → ∀ f g, fs[i]? = some f → gs[i]? = some g → feB (fs.drop i) (gs.drop i) = (decide (f.1 = g.1) && ((cmpT f.2 g.2 == 0) && feB (fs.drop (i + 1)) (gs.drop (i + 1)))) := by
  intro fs gs i hl hi f g hf hg
  have h1 := List.getElem?_eq_some_iff.1 hf
  have h2 := List.getElem?_eq_some_iff.1 hg
  obtain ⟨h1, e1⟩ := h1
  obtain ⟨h2, e2⟩ := h2
  rw [List.drop_eq_getElem_cons h1, List.drop_eq_getElem_cons h2, e1, e2, feB]
theorem feB_len : ∀ (fs gs : List (List UInt8 × Tm)), fs.length ≠ gs.length → feB fs gs = false := by
  intro fs
  induction fs with
  | nil => intro gs h; cases gs with
    | nil => exact absurd rfl h
    | cons e es => rfl
  | cons d ds ih => intro gs h; cases gs with
    | nil => rfl
    | cons e es => rw [feB, ih es (fun e => h (by simp [e])), Bool.and_false, Bool.and_false]
end Go.Proofs.YtpkiheenkpcebaaGreatDoor.Sx
namespace Go.Proofs.YtpkiheenkpcebaaGreatDoor
open Go.RowKit Sx

set_option maxHeartbeats 4000000 in
set_option maxRecDepth 100000 in
theorem hSameField (n n' t t' : List UInt8) (k k' o o' : Int) (kids kids' : Fo) (A A' : Option Addr) (c c' : Nat) (w : World) (hN : fsize kids ≤ 1073741824) (hN' : fsize kids' ≤ 1073741824) (hK : KT w kids A c) (hK' : KT w kids' A' c') :
    Calls Tryz.prog 84 #[.agg #[.string ⟨n.toArray⟩, .int .i64 k, .string ⟨t.toArray⟩, .int .i64 o, .slice A kids.len c], .agg #[.string ⟨n'.toArray⟩, .int .i64 k', .string ⟨t'.toArray⟩, .int .i64 o', .slice A' kids'.len c']] w
      fun r w' => r = .returned (.bool (decide (n = n') && (cmp1 k t o kids k' t' o' kids' == 0))) ∧ BH w w' := by
  obtain ⟨q, hq⟩ : ∃ q, (cmp1 k t o kids k' t' o' kids' == 0) = q := ⟨_, rfl⟩
  rw [hq]
  have e1 := heap_alloc_new w (.cells #[.string ⟨n.toArray⟩, .int .i64 k, .string ⟨t.toArray⟩, .int .i64 o, .slice A kids.len c] 40)
  have f1 := bh_alloc (BH.refl w) (.cells #[.string ⟨n.toArray⟩, .int .i64 k, .string ⟨t.toArray⟩, .int .i64 o, .slice A kids.len c] 40)
  have e2 := heap_alloc_new (w.alloc (.cells #[.string ⟨n.toArray⟩, .int .i64 k, .string ⟨t.toArray⟩, .int .i64 o, .slice A kids.len c] 40)) (.cells #[.string ⟨n'.toArray⟩, .int .i64 k', .string ⟨t'.toArray⟩, .int .i64 o', .slice A' kids'.len c'] 40)
  have f2 := bh_alloc f1 (.cells #[.string ⟨n'.toArray⟩, .int .i64 k', .string ⟨t'.toArray⟩, .int .i64 o', .slice A' kids'.len c'] 40)
  have e1' := (Below.heap_alloc (w.alloc (.cells #[.string ⟨n.toArray⟩, .int .i64 k, .string ⟨t.toArray⟩, .int .i64 o, .slice A kids.len c] 40)) (.cells #[.string ⟨n'.toArray⟩, .int .i64 k', .string ⟨t'.toArray⟩, .int .i64 o', .slice A' kids'.len c'] 40) w.heap.size (by simp)).trans e1
  rw [World.size_alloc] at e2
  obtain ⟨r0, r1, r2, r3, r4⟩ := row5 e1'
  obtain ⟨s0, s1, s2, s3, s4⟩ := row5 e2
  have HF := Lib.hid f2
  have HE : Hid (∀ X, BH w X → Calls Tryz.prog 82 #[.agg #[.int .i64 k, .string ⟨t.toArray⟩, .int .i64 o, .slice A kids.len c], .agg #[.int .i64 k', .string ⟨t'.toArray⟩, .int .i64 o', .slice A' kids'.len c']] X fun e u => e = .returned (.bool q) ∧ BH X u) := Lib.hid fun X hX => by
    refine (equalT_any k o k' o' t t' kids kids' A A' c c' X (by omega) (by omega) (hK.below hX) (hK'.below hX)).mono ?_
    rintro e u ⟨rfl, hb⟩
    exact ⟨by rw [hq], hb⟩
  clear e1 f1 e2 f2 e1' hq hK hK' hN hN'
  by_cases hn : n = n'
  · subst hn
    go_enter Tryz.func84, Tryz.ntmps84
    go_wp2_with (fail)
    refine (HE.out _ HF.out).mono ?_
    rintro e u ⟨rfl, hb⟩
    have HB := Lib.hid (BH.trans HF.out hb)
    clear hb
    go_wp2_with (fail)
    go_ret
    exact ⟨by simp, HB.out⟩
  · have t1 := tba_ne hn
    have t3 : decide (n = n') = false := by simpa using hn
    have HT := Lib.hid t3
    go_enter Tryz.func84, Tryz.ntmps84
    go_wp2_with (fail)
    go_ret
    exact ⟨by rw [HT.out]; rfl, HF.out⟩

set_option maxHeartbeats 8000000 in
set_option maxRecDepth 100000 in
theorem eqFields (V V' : Int) (fs gs : List (List UInt8 × Tm)) (F G : Option Addr) (x y : Nat) (w : World) (S S' : Nat → Prop) (hok : OkF V fs) (hok' : OkF V' gs) (hF : FlS w S fs F x) (hG : FlS w S' gs G y) :
    Calls Tryz.prog 83 #[.slice F fs.length x, .slice G gs.length y, .func (.func 84) #[] #[]] w fun e w' => e = .returned (.bool (decide (fs.length = gs.length) && feB fs gs)) ∧ BH w w' := by
  obtain ⟨Z, hZ⟩ : ∃ Z, (decide (fs.length = gs.length) && feB fs gs) = Z := ⟨_, rfl⟩
  obtain ⟨L, hl⟩ : ∃ L, fs.length = L := ⟨_, rfl⟩
  obtain ⟨L', hl'⟩ : ∃ L', gs.length = L' := ⟨_, rfl⟩
  obtain ⟨hL, hff⟩ := hok
  obtain ⟨hL', hff'⟩ := hok'
  rw [hZ]
  rw [hl] at hL ⊢
  rw [hl'] at hL' ⊢
  rw [hl, hl'] at hZ
  have HZ := Lib.hid hZ
  have HL := Lib.hid hl
  have HL' := Lib.hid hl'
  have HFF := Lib.hid hff
  have HFF' := Lib.hid hff'
  have HF := Lib.hid hF
  have HG := Lib.hid hG
  clear hZ hl hl' hff hff' hF hG
  by_cases hll : L = L'
  · subst hll
    have hz : Z = feB fs gs := by rw [← HZ.out]; simp
    have Hz := Lib.hid hz
    clear hz
    go_enter Tryz.func83, Tryz.ntmps83
    go_wp2_with (fail)
    go_loopw [17] (fun iv wr => ∃ i : Nat, iv = .int .i64 (i : Int) ∧ i ≤ L ∧ Hid (BH w wr ∧ Z = feB (fs.drop i) (gs.drop i))) (fun iv _ => L - (match iv with | .int _ n => n.toNat | _ => 0))
    case atStart => exact ⟨0, rfl, Nat.zero_le _, Lib.hid ⟨BH.refl _, Hz.out⟩⟩
    case round =>
      obtain ⟨i, rfl, hiL0, hR⟩ := hrel
      by_cases hlt : i < L
      · have hge : decide ((i : Int) < (L : Int)) = true := by rw [decide_eq_true_eq]; omega
        have hiL : (i : Int) < (L : Int) := by omega
        have hi0 : (0 : Int) ≤ (i : Int) := by omega
        obtain ⟨⟨n1, ⟨k1, t1, h1, j1⟩⟩, hy⟩ : ∃ f, fs[i]? = some f := ⟨_, List.getElem?_eq_getElem (by rw [HL.out]; exact hlt)⟩
        obtain ⟨⟨n2, ⟨k2, t2, h2, j2⟩⟩, hy'⟩ : ∃ f, gs[i]? = some f := ⟨_, List.getElem?_eq_getElem (by rw [HL'.out]; exact hlt)⟩
        have hst := feB_take fs gs i (by rw [HL.out, HL'.out]) (by rw [HL.out]; exact hlt) _ _ hy hy'
        obtain ⟨x1, x2⟩ := hR.out
        obtain ⟨g, off, A1, c1, rfl, _, hg, p0, p1, p2, p3, p4, kk1⟩ := (HF.out.bh x1).at hy
        obtain ⟨g', off', A2, c2, rfl, _, hg', q0, q1, q2, q3, q4, kk2⟩ := (HG.out.bh x1).at hy'
        obtain ⟨_, b1, _⟩ := HFF.out _ (List.mem_of_getElem? hy)
        obtain ⟨_, b2, _⟩ := HFF'.out _ (List.mem_of_getElem? hy')
        simp only at p0 p1 p2 p3 p4 q0 q1 q2 q3 q4 kk1 kk2 b1 b2
        obtain ⟨z, hz⟩ : ∃ z, (decide (n1 = n2) && (cmp1 k1 t1 j1 h1 k2 t2 j2 h2 == 0)) = z := ⟨_, rfl⟩
        have hst2 : Z = (z && feB (fs.drop (i + 1)) (gs.drop (i + 1))) := by
          rw [x2, hst, ← hz, Bool.and_assoc]
          rfl
        have eA := heap_alloc_new wr (.cells #[.string ⟨n1.toArray⟩, .int .i64 k1, .string ⟨t1.toArray⟩, .int .i64 j1, .slice A1 h1.len c1] 40)
        have fA := bh_alloc (BH.refl wr) (.cells #[.string ⟨n1.toArray⟩, .int .i64 k1, .string ⟨t1.toArray⟩, .int .i64 j1, .slice A1 h1.len c1] 40)
        have eB := heap_alloc_new (wr.alloc (.cells #[.string ⟨n1.toArray⟩, .int .i64 k1, .string ⟨t1.toArray⟩, .int .i64 j1, .slice A1 h1.len c1] 40)) (.cells #[.string ⟨n2.toArray⟩, .int .i64 k2, .string ⟨t2.toArray⟩, .int .i64 j2, .slice A2 h2.len c2] 40)
        have fB := bh_alloc fA (.cells #[.string ⟨n2.toArray⟩, .int .i64 k2, .string ⟨t2.toArray⟩, .int .i64 j2, .slice A2 h2.len c2] 40)
        have eA' := (Below.heap_alloc (wr.alloc (.cells #[.string ⟨n1.toArray⟩, .int .i64 k1, .string ⟨t1.toArray⟩, .int .i64 j1, .slice A1 h1.len c1] 40)) (.cells #[.string ⟨n2.toArray⟩, .int .i64 k2, .string ⟨t2.toArray⟩, .int .i64 j2, .slice A2 h2.len c2] 40) wr.heap.size (by simp)).trans eA
        rw [World.size_alloc] at eB
        obtain ⟨y0, y1, y2, y3, y4⟩ := row5 eA'
        obtain ⟨z0, z1, z2, z3, z4⟩ := row5 eB
        have hC := hSameField n1 n2 t1 t2 k1 k2 j1 j2 h1 h2 A1 A2 c1 c2 _ b1 b2 (kk1.kt.below fB) (kk2.kt.below fB)
        rw [hz] at hC
        have HC := Lib.hid hC
        have HFB := Lib.hid (BH.trans x1 fB)
        have HST := Lib.hid hst2
        have hgA : (wr.alloc (.cells #[.string ⟨n1.toArray⟩, .int .i64 k1, .string ⟨t1.toArray⟩, .int .i64 j1, .slice A1 h1.len c1] 40)).cell? ⟨g', off' + i * 5, none⟩ = some (.string ⟨n2.toArray⟩) := BH.cell fA q0
        have hgA1 := BH.cell fA q1
        have hgA2 := BH.cell fA q2
        have hgA3 := BH.cell fA q3
        have hgA4 := BH.cell fA q4
        clear hst hst2 x1 x2 hg hg' kk1 kk2 b1 b2 hz eA fA eB fB eA' hC hR hy hy'
        go_wp2_with (fail)
        refine HC.out.mono ?_
        rintro e u ⟨rfl, hb⟩
        have HB := Lib.hid (BH.trans HFB.out hb)
        clear hb y0 y1 y2 y3 y4 z0 z1 z2 z3 z4
        cases z with
        | true =>
          go_wp2_with (fail)
          exact ⟨⟨i + 1, rfl, by omega, Lib.hid ⟨HB.out, by rw [HST.out]; rfl⟩⟩, by simp; omega⟩
        | false =>
          go_wp2_with (fail)
          go_ret
          exact ⟨by rw [HST.out]; rfl, HB.out⟩
      · have hge : decide ((i : Int) < (L : Int)) = false := by rw [decide_eq_false_iff_not]; omega
        have hge2 : decide (i < L) = false := by rw [decide_eq_false_iff_not]; omega
        have hie : i = L := by omega
        have hz : Z = true := by
          rw [hR.out.2, List.drop_of_length_le (by rw [HL.out, hie]; exact Nat.le_refl _), List.drop_of_length_le (by rw [HL'.out, hie]; exact Nat.le_refl _), feB]
        have Hzz := Lib.hid hz
        clear hz hie
        go_wp2_with (fail)
        go_ret
        exact ⟨by rw [Hzz.out]; rfl, hR.out.1⟩
  · have t1 : ¬ ((L : Int) = (L' : Int)) := by omega
    have HT := Lib.hid (show Z = false by rw [← HZ.out]; simp [hll])
    go_enter Tryz.func83, Tryz.ntmps83
    go_wp2_with (fail)
    go_ret
    exact ⟨by rw [HT.out]; rfl, BH.refl _⟩
end Go.Proofs.YtpkiheenkpcebaaGreatDoor
