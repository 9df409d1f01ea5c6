/- telref1.TermCompare. No condition but bounded sizes. tellaw3.check: the example of chapter 3. No condition. -/
import Derived.Test.YtpkiheenkpcebaaGreatDoorMav
import Derived.Test.YtpkiheenkpcebaaGreatDoorMao
set_option linter.unusedVariables false
set_option linter.unusedSimpArgs false
namespace Go.Proofs.YtpkiheenkpcebaaGreatDoor
open Go.RowKit Sx

theorem order_let (b : Bool) (w : World) :
    Calls Tryz.prog 107 #[.bool b] w fun e w' => ∃ z : Int, e = .returned (.int .i64 z) ∧ Hid (z = (if b then (-1 : Int) else 1)) ∧ w' = w := by
  refine (order_any b w).mono ?_
  rintro e w' ⟨rfl, rfl⟩
  exact ⟨_, rfl, Lib.hid rfl, rfl⟩
set_option maxHeartbeats 2000000 in
set_option maxRecDepth 100000 in
theorem rcompare_any (N : Nat) : ∀ (k o k' o' : Int) (t t' : List UInt8) (kids kids' : Fo) (A A' : Option Addr) (c c' : Nat) (w : World), fsize kids ≤ N → fsize kids ≤ 4611686018427387904 → fsize kids' ≤ 4611686018427387904 → KT w kids A c → KT w kids' A' c' →
    Calls Tryz.prog 73 #[.agg #[.int .i64 k, .string ⟨t.toArray⟩, .int .i64 o, .slice A kids.len c], .agg #[.int .i64 k', .string ⟨t'.toArray⟩, .int .i64 o', .slice A' kids'.len c']] w fun e w' => e = .returned (.int .i64 (cmp1 k t o kids k' t' o' kids')) ∧ Below w.heap.size w w' := by
  induction N using Nat.strongRecOn with
  | ind N ih =>
  intro k o k' o' t t' kids kids' A A' c c' w hN hN2 hN3 hK hK'
  have IH := Lib.hid ih
  have HK := Lib.hid hK
  have HK' := Lib.hid hK'
  clear ih hK hK'
  have hlen := len_le_fsize kids
  have hlen2 := len_le_fsize kids'
  obtain ⟨F, hF⟩ : ∃ F, cmp1 k t o kids k' t' o' kids' = F := ⟨_, rfl⟩
  rw [hF]
  unfold cmp1 at hF
  obtain ⟨G, hG⟩ : ∃ G, cmpF kids kids' = G := ⟨_, rfl⟩
  rw [hG] at hF
  have HG := Lib.hid hG
  clear hG
  obtain ⟨L, hL⟩ : ∃ L, kids.len = L := ⟨_, rfl⟩
  obtain ⟨L', hL'⟩ : ∃ L', kids'.len = L' := ⟨_, rfl⟩
  rw [hL, hL'] at hF
  rw [hL] at hlen ⊢
  rw [hL'] at hlen2 ⊢
  have HL := Lib.hid hL
  have HL' := Lib.hid hL'
  have HF := Lib.hid hF
  clear hL hL' hF
  have hbB := heap_alloc_new w (.cells #[.int .i64 k, .string ⟨t.toArray⟩, .int .i64 o, .slice A L c] 34 (0, 0))
  obtain ⟨w1, hw1⟩ : ∃ w1, w.alloc (.cells #[.int .i64 k, .string ⟨t.toArray⟩, .int .i64 o, .slice A L c] 34 (0, 0)) = w1 := ⟨_, rfl⟩
  have hs1 : w1.heap.size = w.heap.size + 1 := by rw [← hw1]; simp
  have hbC := heap_alloc_new w1 (.cells #[.int .i64 k', .string ⟨t'.toArray⟩, .int .i64 o', .slice A' L' c'] 34 (0, 0))
  obtain ⟨w2, hw2⟩ : ∃ w2, w1.alloc (.cells #[.int .i64 k', .string ⟨t'.toArray⟩, .int .i64 o', .slice A' L' c'] 34 (0, 0)) = w2 := ⟨_, rfl⟩
  have hs2 : w2.heap.size = w.heap.size + 2 := by rw [← hw2]; simp [hs1]
  rw [hw1] at hbB
  rw [hw2, hs1] at hbC
  have hbB2 : w2.heap[w.heap.size]? = some (.cells #[.int .i64 k, .string ⟨t.toArray⟩, .int .i64 o, .slice A L c] 34 (0, 0)) := by rw [← hw2]; exact (Below.heap_alloc w1 _ _ (by omega)).trans hbB
  have B2 : Below w.heap.size w w2 := by
    rw [← hw2, ← hw1]
    exact ((Below.refl _ _).alloc (Nat.le_refl _) _).alloc (by simp) _
  obtain ⟨b0, b1, b2, b3, y0, y1, y2, y3⟩ := row4 hbB2
  obtain ⟨d0, d1, d2, d3, z0, z1, z2, z3⟩ := row4 hbC
  have hB2 := Lib.hid B2
  have hBB := Lib.hid hbB2
  have hCC := Lib.hid hbC
  have hW : w2 = (w.alloc (.cells #[.int .i64 k, .string ⟨t.toArray⟩, .int .i64 o, .slice A L c] 34 (0, 0))).alloc (.cells #[.int .i64 k', .string ⟨t'.toArray⟩, .int .i64 o', .slice A' L' c'] 34 (0, 0)) := by rw [← hw2, ← hw1]
  clear hw1 hw2 hbB hbC hbB2 B2
  have HW := Lib.hid hW
  clear hW hs1 w1
  go_enter Tryz.func73, Tryz.ntmps73
  by_cases hk : ¬ k = k'
  · have hk1 : (k == k') = false := by simp [hk]
    have hk2 : (k != k') = true := by simp [hk]
    go_wp2_with (go_at_call 107; refine (order_let _ _).mono ?_; rintro e w4 ⟨z, rfl, hz, rfl⟩)
    go_ret
    exact ⟨ret_int (hz.out.trans (cmp_k hk HF.out)), by have := hB2.out; rw [HW.out] at this; exact this⟩
  obtain rfl : k = k' := Decidable.not_not.1 hk
  have HF2 := Lib.hid (cmp_k0 HF.out)
  by_cases ht : ¬ t = t'
  · have ht1 := tba_ne ht
    have ht2 : (!(t == t')) = true := by simp [ht]
    go_wp2_with (go_at_call 107; refine (order_let _ _).mono ?_; rintro e w4 ⟨z, rfl, hz, rfl⟩)
    go_ret
    exact ⟨ret_int (hz.out.trans (by have := cmp_s ht HF2.out; simpa using this)), by have := hB2.out; rw [HW.out] at this; exact this⟩
  obtain rfl : t = t' := Decidable.not_not.1 ht
  have HF3 := Lib.hid (cmp_s0 HF2.out)
  by_cases ho : ¬ o = o'
  · have hk1 : (o == o') = false := by simp [ho]
    have hk2 : (o != o') = true := by simp [ho]
    go_wp2_with (go_at_call 107; refine (order_let _ _).mono ?_; rintro e w4 ⟨z, rfl, hz, rfl⟩)
    go_ret
    exact ⟨ret_int (hz.out.trans (cmp_k ho HF3.out)), by have := hB2.out; rw [HW.out] at this; exact this⟩
  obtain rfl : o = o' := Decidable.not_not.1 ho
  have HF4 := Lib.hid (cmp_k0 HF3.out)
  by_cases hl : ¬ L = L'
  · have hl1 : ((L : Int) == (L' : Int)) = false := by simp; omega
    have hl2 : ((L : Int) != (L' : Int)) = true := by simp; omega
    go_wp2_with (go_at_call 107; refine (order_let _ _).mono ?_; rintro e w4 ⟨z, rfl, hz, rfl⟩)
    go_ret
    exact ⟨ret_int (hz.out.trans (by have := cmp_k (show ¬ (L : Int) = (L' : Int) by omega) HF4.out; simpa using this)), by have := hB2.out; rw [HW.out] at this; exact this⟩
  obtain rfl : L = L' := Decidable.not_not.1 hl
  have HF5 := Lib.hid (cmp_k0 HF4.out)
  go_wp2_with (fail)
  go_loopw [4, 5, 6] (fun _ iv _ wr => ∃ (i : Nat) (r r' : Fo), iv = .int .i64 (i : Int) ∧ Suf i r kids ∧ Suf i r' kids' ∧ cmpF r r' = F ∧ Below (w.heap.size + 2) w2 wr) (fun _ iv _ _ => L - (match iv with | .int _ n => n.toNat | _ => 0))
  case atStart => exact ⟨0, kids, kids', rfl, Suf.zero _, Suf.zero _, HG.out.trans HF5.out, by rw [← HW.out]; exact Below.refl _ _⟩
  case round =>
    obtain ⟨i, r, r', rfl, hs, hs', heq, hbel⟩ := hrel
    have heq' := Lib.hid heq
    clear heq b0 b1 b2 b3 y0 y1 y2 y3 d0 d1 d2 d3 z0 z1 z2 z3
    obtain ⟨b0, b1, b2, b3, y0, y1, y2, y3⟩ := row4 ((hbel.block _ (by omega)).trans hBB.out)
    obtain ⟨d0, d1, d2, d3, z0, z1, z2, z3⟩ := row4 ((hbel.block _ (by omega)).trans hCC.out)
    have hi := hs.len
    have hi' := hs'.len
    rw [HL.out] at hi
    rw [HL'.out] at hi'
    have hbs := hbel.size
    have hbs' : w.heap.size + 2 ≤ wr.heap.size := by omega
    have HB := Lib.hid (hB2.out.trans (hbel.mono (by omega)))
    have hbelH := Lib.hid hbel
    clear hbel hbs
    cases r with
    | nil =>
      cases r' with
      | cons => simp only [Fo.len] at hi hi'; omega
      | nil =>
      simp only [Fo.len] at hi hi'
      have tlt : decide (i < L) = false := by simp; omega
      have Hi := Lib.hid hi
      clear hi hi' hs hs'
      go_wp2_with (fail)
      go_ret
      exact ⟨ret_int (by rw [← heq'.out]; rfl), HB.out⟩
    | cons k1 t1 kids1 o1 r1 =>
      cases r' with
      | nil => simp only [Fo.len] at hi hi'; omega
      | cons k2 t2 kids2 o2 r2 =>
      obtain ⟨g, off, A1, c1, rfl, hgl, a0, a1, a2, a3, hk1⟩ := HK.out.get hs HB.out
      obtain ⟨g', off', A2, c2, rfl, hgl', p0, p1, p2, p3, hk2⟩ := HK'.out.get hs' HB.out
      obtain ⟨hkid, hil⟩ := hs.kid
      obtain ⟨hkid', hil'⟩ := hs'.kid
      rw [HL.out] at hil
      have tlt : decide ((i : Int) < (L : Int)) = true := by simp; omega
      have hiL : (i : Int) < (L : Int) := by omega
      have hi0 : (0 : Int) ≤ (i : Int) := by omega
      have HS := Lib.hid hs
      have HS' := Lib.hid hs'
      clear hi hi' hs hs' hil'
      have hcall : Calls Tryz.prog 73 #[.agg #[.int .i64 k1, .string ⟨t1.toArray⟩, .int .i64 o1, .slice A1 kids1.len c1], .agg #[.int .i64 k2, .string ⟨t2.toArray⟩, .int .i64 o2, .slice A2 kids2.len c2]] wr.drew fun e w' => e = .returned (.int .i64 (cmp1 k1 t1 o1 kids1 k2 t2 o2 kids2)) ∧ Below wr.heap.size wr w' := by
        refine (IH.out (fsize kids1) (by omega) k1 o1 k2 o2 t1 t2 kids1 kids2 A1 A2 c1 c2 _ (Nat.le_refl _) (by omega) (by omega) ((hk1.below HB.out).drew) ((hk2.below HB.out).drew)).mono ?_
        rintro e w' ⟨rfl, hb⟩
        exact ⟨rfl, hb.os, hb.tape, hb.output, hb.size, hb.block⟩
      have HC := Lib.hid hcall
      clear hcall
      obtain ⟨q, hq⟩ : ∃ q, cmp1 k1 t1 o1 kids1 k2 t2 o2 kids2 = q := ⟨_, rfl⟩
      rw [hq] at HC
      have HE := Lib.hid ((cmpF_cons k1 t1 kids1 o1 r1 k2 t2 kids2 o2 r2).symm.trans heq'.out)
      rw [hq] at HE
      clear hq hk1 hk2
      by_cases hz : q = 0
      · subst hz
        go_wp2_with (fail)
        go_region_held3 (fun w' => w'.cell? ⟨w.heap.size, 3, none⟩ = some (.slice (some ⟨g, off, none⟩) L c) ∧ w'.cell? ⟨w.heap.size + 1, 3, none⟩ = some (.slice (some ⟨g', off', none⟩) L c') ∧
            w'.cell? ⟨g, off + i * 4, none⟩ = some (.int .i64 k1) ∧ w'.cell? ⟨g, off + i * 4 + 1, none⟩ = some (.string ⟨t1.toArray⟩) ∧ w'.cell? ⟨g, off + i * 4 + 2, none⟩ = some (.int .i64 o1) ∧ w'.cell? ⟨g, off + i * 4 + 3, none⟩ = some (.slice A1 kids1.len c1) ∧
            w'.cell? ⟨g', off' + i * 4, none⟩ = some (.int .i64 k2) ∧ w'.cell? ⟨g', off' + i * 4 + 1, none⟩ = some (.string ⟨t2.toArray⟩) ∧ w'.cell? ⟨g', off' + i * 4 + 2, none⟩ = some (.int .i64 o2) ∧ w'.cell? ⟨g', off' + i * 4 + 3, none⟩ = some (.slice A2 kids2.len c2))
          (go_keep)
          ((go_at_call 73; refine HC.out.mono ?_; rintro e w4 ⟨rfl, hb4⟩; have HW4 := Lib.hid hb4; have l0 := HB.out.size; have q2 := (hb4.cell (p := ⟨w.heap.size, 3, none⟩) (by exact (show w.heap.size < wr.heap.size by omega))).trans b3; have q2' := (hb4.cell (p := ⟨w.heap.size + 1, 3, none⟩) (by exact (show w.heap.size + 1 < wr.heap.size by omega))).trans d3; have u0 := (hb4.cell (p := ⟨g, _, none⟩) (by exact (show g < wr.heap.size by omega))).trans a0; have u1 := (hb4.cell (p := ⟨g, _, none⟩) (by exact (show g < wr.heap.size by omega))).trans a1; have u2 := (hb4.cell (p := ⟨g, _, none⟩) (by exact (show g < wr.heap.size by omega))).trans a2; have u3 := (hb4.cell (p := ⟨g, _, none⟩) (by exact (show g < wr.heap.size by omega))).trans a3; have v0 := (hb4.cell (p := ⟨g', _, none⟩) (by exact (show g' < wr.heap.size by omega))).trans p0; have v1 := (hb4.cell (p := ⟨g', _, none⟩) (by exact (show g' < wr.heap.size by omega))).trans p1; have v2 := (hb4.cell (p := ⟨g', _, none⟩) (by exact (show g' < wr.heap.size by omega))).trans p2; have v3 := (hb4.cell (p := ⟨g', _, none⟩) (by exact (show g' < wr.heap.size by omega))).trans p3; clear hb4))
        go_wp2_with (fail)
        exact ⟨⟨i + 1, r1, r2, rfl, HS.out.next, HS'.out.next, (lx_0 _).symm.trans HE.out, hbelH.out.trans (HW4.out.mono hbs')⟩, by simp; omega⟩
      · have hz1 : (q == 0) = false := by simp [hz]
        have hz2 : (q != 0) = true := by simp [hz]
        go_wp2_with (fail)
        go_region_held3 (fun w' => w'.cell? ⟨w.heap.size, 3, none⟩ = some (.slice (some ⟨g, off, none⟩) L c) ∧ w'.cell? ⟨w.heap.size + 1, 3, none⟩ = some (.slice (some ⟨g', off', none⟩) L c') ∧
            w'.cell? ⟨g, off + i * 4, none⟩ = some (.int .i64 k1) ∧ w'.cell? ⟨g, off + i * 4 + 1, none⟩ = some (.string ⟨t1.toArray⟩) ∧ w'.cell? ⟨g, off + i * 4 + 2, none⟩ = some (.int .i64 o1) ∧ w'.cell? ⟨g, off + i * 4 + 3, none⟩ = some (.slice A1 kids1.len c1) ∧
            w'.cell? ⟨g', off' + i * 4, none⟩ = some (.int .i64 k2) ∧ w'.cell? ⟨g', off' + i * 4 + 1, none⟩ = some (.string ⟨t2.toArray⟩) ∧ w'.cell? ⟨g', off' + i * 4 + 2, none⟩ = some (.int .i64 o2) ∧ w'.cell? ⟨g', off' + i * 4 + 3, none⟩ = some (.slice A2 kids2.len c2))
          (go_keep)
          ((go_at_call 73; refine HC.out.mono ?_; rintro e w4 ⟨rfl, hb4⟩; have HW4 := Lib.hid hb4; have l0 := HB.out.size; have q2 := (hb4.cell (p := ⟨w.heap.size, 3, none⟩) (by exact (show w.heap.size < wr.heap.size by omega))).trans b3; have q2' := (hb4.cell (p := ⟨w.heap.size + 1, 3, none⟩) (by exact (show w.heap.size + 1 < wr.heap.size by omega))).trans d3; have u0 := (hb4.cell (p := ⟨g, _, none⟩) (by exact (show g < wr.heap.size by omega))).trans a0; have u1 := (hb4.cell (p := ⟨g, _, none⟩) (by exact (show g < wr.heap.size by omega))).trans a1; have u2 := (hb4.cell (p := ⟨g, _, none⟩) (by exact (show g < wr.heap.size by omega))).trans a2; have u3 := (hb4.cell (p := ⟨g, _, none⟩) (by exact (show g < wr.heap.size by omega))).trans a3; have v0 := (hb4.cell (p := ⟨g', _, none⟩) (by exact (show g' < wr.heap.size by omega))).trans p0; have v1 := (hb4.cell (p := ⟨g', _, none⟩) (by exact (show g' < wr.heap.size by omega))).trans p1; have v2 := (hb4.cell (p := ⟨g', _, none⟩) (by exact (show g' < wr.heap.size by omega))).trans p2; have v3 := (hb4.cell (p := ⟨g', _, none⟩) (by exact (show g' < wr.heap.size by omega))).trans p3; clear hb4))
        go_wp2_with (fail)
        go_ret
        exact ⟨ret_int (by rw [← HE.out, lx_ne hz]), HB.out.trans (HW4.out.mono (by omega))⟩
end Go.Proofs.YtpkiheenkpcebaaGreatDoor
namespace Go.Proofs.YtpkiheenkpcebaaGreatDoor.Sx
theorem vt_any (ar : Int) : vtB 0 [] 0 .nil ar = true := by
  rw [vtB, show free1 0 0 .nil 0 = [] from rfl, setI_nil]
  rfl
theorem vt_list : vtB 2 sList 0 hV1 1 = true := by
  rw [vtB, show free1 2 0 hV1 0 = [0] from by simp [free1, freeL, hV1, freeB, aroundB, Go.RowKit.wrap64], setI_one]
  rfl
theorem vd_list : vdB dList = true := by
  rw [vdB, vsB]
  show (tnB sList && (decide ((0 : Int) ≤ 1) && ((((0 : Int) == 0 || (0 : Int) == 2) && vtB 0 [] 0 .nil 1) && (decide (0 = 0) || (false && avL 1 [] []))))) = true
  rw [vt_any]
  decide
theorem vd_vec : vdB dVec = true := by
  rw [vdB, vsB]
  show (tnB sVec && (decide ((0 : Int) ≤ 1) && ((((2 : Int) == 0 || (2 : Int) == 2) && vtB 2 sList 0 hV1 1) && (decide (0 = 0) || (false && avL 1 [] []))))) = true
  rw [vt_list]
  decide
theorem de_list : declE ds0 dList = 0 := by
  rw [declE, if_neg (by rw [vd_list]; simp), if_neg (by decide)]
  rfl
theorem de_vec : declE (ds0 ++ [dList]) dVec = 0 := by
  rw [declE, if_neg (by rw [vd_vec]; simp), if_neg (by decide)]
  rfl
theorem dd_list : declD ds0 dList = ds0 ++ [dList] := by rw [declD, if_pos ⟨de_list, rfl⟩]
theorem dd_vec : declD (ds0 ++ [dList]) dVec = ds0 ++ [dList] ++ [dVec] := by rw [declD, if_pos ⟨de_vec, rfl⟩]
end Go.Proofs.YtpkiheenkpcebaaGreatDoor.Sx
namespace Go.Proofs.YtpkiheenkpcebaaGreatDoor
open Go.RowKit Sx

theorem okF0 (V : Int) : OkF V [] := ⟨by decide, fun f h => by cases h⟩
theorem good0 : ∀ d ∈ ds0, OkD 1 d := by
  intro d hd
  obtain ⟨s, hs, rfl⟩ := List.mem_map.1 hd
  have key : ∀ s ∈ nm0, s.length ≤ 1048576 := by decide
  exact ⟨key s hs, ⟨by show fsize Fo.nil ≤ _; decide, by show ([] : List UInt8).length ≤ _; decide, trivial, rfl⟩, okF0 1⟩
theorem goodL : OkD 1 dList := ⟨by decide, ⟨by decide, by decide, trivial, by decide⟩, okF0 1⟩
theorem goodV : OkD 1 dVec := ⟨by decide, ⟨by decide, by decide, ⟨by decide, trivial, trivial⟩, by decide⟩, okF0 1⟩
theorem good_app {V : Int} {ds : List De} {d : De} (h : ∀ x ∈ ds, OkD V x) (hd : OkD V d) : ∀ x ∈ ds ++ [d], OkD V x := by
  intro x hx
  rcases List.mem_append.1 hx with hx | hx
  · exact h x hx
  · simp at hx
    subst hx
    exact hd

theorem hTermEq (k o k' o' : Int) (t t' : List UInt8) (kids kids' : Fo) (A A' : Option Addr) (c c' : Nat) (w : World) (hN2 : fsize kids ≤ 4611686018427387904) (hN3 : fsize kids' ≤ 4611686018427387904) (hK : KT w kids A c) (hK' : KT w kids' A' c') :
    Calls Tryz.prog 39 #[.agg #[.int .i64 k, .string ⟨t.toArray⟩, .int .i64 o, .slice A kids.len c], .agg #[.int .i64 k', .string ⟨t'.toArray⟩, .int .i64 o', .slice A' kids'.len c']] w fun e w' => e = .returned (.bool (cmp1 k t o kids k' t' o' kids' == 0)) ∧ Below w.heap.size w w' := by
  have B2 : Below w.heap.size w ((w.alloc (.cells #[.int .i64 k, .string ⟨t.toArray⟩, .int .i64 o, .slice A kids.len c] 34 (0, 0))).alloc (.cells #[.int .i64 k', .string ⟨t'.toArray⟩, .int .i64 o', .slice A' kids'.len c'] 34 (0, 0))) :=
    ((Below.refl _ _).alloc (Nat.le_refl _) _).alloc (by simp) _
  have HC := Lib.hid (rcompare_any (fsize kids) k o k' o' t t' kids kids' A A' c c' _ (Nat.le_refl _) hN2 hN3 (hK.below B2) (hK'.below B2))
  have HB := Lib.hid B2
  clear B2 hK hK'
  go_enter Tryz.func39, Tryz.ntmps39
  go_wp2_with (go_at_call 73; refine HC.out.mono ?_; rintro e w4 ⟨rfl, hb⟩; have HB4 := Lib.hid hb; clear hb)
  go_ret
  exact ⟨rfl, HB.out.trans (HB4.out.mono HB.out.size)⟩

set_option maxHeartbeats 8000000 in
set_option maxRecDepth 100000 in
theorem check3_any (w : World) : Calls Tryz.prog 11 #[] w fun e w' => e = .returned (.bool true) ∧ BH w w' := by
  go_enter Tryz.func11, Tryz.ntmps11
  go_wp2_with (fail)
  refine (hnew_any (fun _ => False) _ (fun _ h => h.elim)).mono ?_
  rintro e u1 ⟨p, b, v, l, rfl, hH, hb⟩
  have HH := Lib.hid hH
  have HB := Lib.hid hb
  clear hH hb
  go_wp2_with (fail)
  refine (hDeclare 1 w.heap.size p b _ v l ds0 dList none none 0 0 u1 HH.out good0 goodL (Below.size HB.out) (by decide) (by decide) (by decide) ⟨Nat.le_refl _, [], reads_nil _ _, rfl⟩ (FlS.nil _ _)).mono ?_
  rintro e u2 ⟨v2, l2, rfl, h1, h2⟩
  rw [de_list]
  rw [dd_list] at h1
  have HH2 := Lib.hid h1
  have HB2 := Lib.hid (Below.trans (show Below w.heap.size w u1 from HB.out) (h2.below HH.out (Below.size HB.out)))
  clear h1 h2 HH HB
  go_wp2_with (fail)
  refine (varC _ _).mono ?_
  rintro e u3 ⟨rfl, h3⟩
  have hA := heap_alloc_new u3 (.cells #[.int .i64 5, .string ⟨#[]⟩, .int .i64 0, .slice none 0 0] 34)
  have f3 := bh_alloc h3 (.cells #[.int .i64 5, .string ⟨#[]⟩, .int .i64 0, .slice none 0 0] 34)
  have hs3 := Below.size h3
  go_wp2_with (fail)
  refine (namedC _ _ _ _ _).mono ?_
  rintro e u4 ⟨rfl, h4⟩
  have hblk := (Below.block h4 _ (heap_lt hA)).trans hA
  have hb4 := BH.trans f3 h4
  have HH4 := Lib.hid (HH2.out.bh hb4)
  have HB4 := Lib.hid (Below.trans (show Below w.heap.size w u2 from HB2.out) (hb4.mono (Below.size HB2.out)))
  obtain ⟨gA, hgA⟩ : ∃ gA, u3.heap.size = gA := ⟨_, rfl⟩
  rw [hgA] at hblk hs3 ⊢
  have hKS : KS u4 (HS p b v2 (fun _ => False)) hV1 (some ⟨gA, 0, none⟩) 1 := by
    have hS : HS p b v2 (fun _ => False) gA := ⟨⟨by have := heap_lt HH2.out.blk; omega, by have := HH2.out.map.lt; omega, fun e => by have := (HH2.out.own.lt gA e).2; omega⟩, fun h => h⟩
    refine ⟨Nat.le_refl _, [.int .i64 5, .string ⟨#[]⟩, .int .i64 0, .slice none 0 0], fun _ => ⟨gA, 0, rfl, hS, heap_lt hblk, fun j u hu => ?_⟩, none, 0, [], [], rfl, Nat.le_refl _, reads_nil _ _, rfl, rfl⟩
    rw [Nat.zero_add, cell_of_row _ _ j _ _ _ hblk]
    simpa using hu
  have HKS := Lib.hid hKS
  clear hgA hA f3 h3 h4 hblk hb4 hKS hs3 HH2 HB2
  go_wp2_with (fail)
  refine (hDeclare 1 w.heap.size p b _ v2 l2 (ds0 ++ [dList]) dVec (some ⟨gA, 0, none⟩) none 1 0 u4 HH4.out (good_app good0 goodL) goodV (Below.size HB4.out) (by decide) (by decide) (by decide) HKS.out (FlS.nil _ _)).mono ?_
  rintro e u5 ⟨v5, l5, rfl, h1, h2⟩
  rw [de_vec]
  rw [dd_vec] at h1
  have HH5 := Lib.hid h1
  have HB5 := Lib.hid (Below.trans (show Below w.heap.size w u4 from HB4.out) (h2.below HH4.out (Below.size HB4.out)))
  clear h1 h2 HH4 HB4 HKS
  go_wp2_with (fail)
  refine (namedC _ _ _ _ _).mono ?_
  rintro e u6 ⟨rfl, h6⟩
  have hA := heap_alloc_new u6 (.cells #[.int .i64 2, .string ⟨#[73, 110, 116]⟩, .int .i64 0, .slice none 0 0] 34)
  have f6 := bh_alloc h6 (.cells #[.int .i64 2, .string ⟨#[73, 110, 116]⟩, .int .i64 0, .slice none 0 0] 34)
  go_wp2_with (fail)
  refine (namedC _ _ _ _ _).mono ?_
  rintro e u7 ⟨rfl, h7⟩
  have hk := kt1 (k := 2) (t := sInt) (o := 0) (kids := .nil) (A := none) (c := 0) ((Below.block h7 _ (heap_lt hA)).trans hA) (kt0 _)
  have hb7 := BH.trans f6 h7
  obtain ⟨gA, hgA⟩ : ∃ gA, u6.heap.size = gA := ⟨_, rfl⟩
  rw [hgA] at hk ⊢
  have HH7 := Lib.hid (HH5.out.bh hb7)
  have HB7 := Lib.hid (Below.trans (show Below w.heap.size w u5 from HB5.out) (hb7.mono (Below.size HB5.out)))
  have HK7 := Lib.hid hk
  clear hgA hA f6 h6 h7 hk hb7 HH5 HB5
  go_wp2_with (fail)
  refine (hSuper_vec w.heap.size p b _ v5 l5 (ds0 ++ [dList] ++ [dVec]) (some ⟨gA, 0, none⟩) 1 u7 HH7.out rfl HK7.out).mono ?_
  rintro e u8 ⟨A8, c8, rfl, hk8, hb8⟩
  have HH8 := Lib.hid (HH7.out.bh hb8)
  have HB8 := Lib.hid (Below.trans (show Below w.heap.size w u7 from HB7.out) (hb8.mono (Below.size HB7.out)))
  have HK8 := Lib.hid hk8
  clear hk8 hb8 HH7 HB7 HK7
  go_upto_region 5 with (fail)
  refine gen_wp _ (fun X => Hier X w.heap.size p b (fun _ => False) v5 l5 (ds0 ++ [dList] ++ [dVec]) ∧ BH w X ∧ X.heap[u8.heap.size]? = some (.cells #[.int .i64 2, .string ⟨#[76, 105, 115, 116]⟩, .int .i64 0, .slice A8 1 c8] 34 (0, 0)) ∧ KT X hI1 A8 c8) ?_ ?_
  · have f1 := bh_alloc (BH.refl u8) (.cells #[.int .i64 2, .string ⟨#[76, 105, 115, 116]⟩, .int .i64 0, .slice A8 1 c8] 34)
    exact ⟨HH8.out.bh f1, Below.trans (show Below w.heap.size w u8 from HB8.out) (f1.mono (Below.size HB8.out)), heap_alloc_new u8 _, HK8.out.below f1⟩
  rintro X ⟨x1, x2, x3, x4⟩
  obtain ⟨g2, hg2⟩ : ∃ g2, u8.heap.size = g2 := ⟨_, rfl⟩
  rw [hg2] at x3 ⊢
  clear hg2 HH8 HB8 HK8
  obtain ⟨b0, b1, b2, b3, _⟩ := row4 x3
  have CE : Hid (∀ Y A c, BH X Y → KT Y hI1 A c → Calls Tryz.prog 39 #[.agg #[.int .i64 2, .string ⟨#[76, 105, 115, 116]⟩, .int .i64 0, .slice A8 1 c8], .agg #[.int .i64 2, .string ⟨#[76, 105, 115, 116]⟩, .int .i64 0, .slice A 1 c]] Y fun e u => e = .returned (.bool true) ∧ BH Y u) := Lib.hid fun Y A c hY hk => by
    refine (hTermEq 2 0 2 0 sList sList hI1 hI1 A8 A c8 c Y (by decide) (by decide) (x4.below hY) hk).mono ?_
    rintro e u ⟨rfl, hb⟩
    exact ⟨by rw [cmp1_self]; rfl, hb⟩
  have CD : Hid (∀ Y, BH X Y → Calls Tryz.prog 12 #[.pointer (some ⟨p, 0, none⟩)] Y fun e u => (∃ A c, e = .returned (.slice A 6 c)) ∧ BH Y u) := Lib.hid fun Y hY => by
    refine (hDecls_any 1 w.heap.size p b _ v5 l5 (ds0 ++ [dList] ++ [dVec]) Y (x1.bh hY) (good_app (good_app good0 goodL) goodV) (Below.size (BH.trans x2 hY)) (by decide) (by decide) (by decide)).mono ?_
    rintro e u ⟨A, c, rfl, _, hb⟩
    exact ⟨⟨A, c, rfl⟩, hb⟩
  have HPn := Lib.hid (below_drew X)
  have HX2 := Lib.hid x2
  have HG2 := Lib.hid x3
  clear x1 x2 x3 x4
  go_region_held3 (fun Y => Y.cell? ⟨g2, 0, none⟩ = some (.int .i64 2) ∧ Y.cell? ⟨g2, 1, none⟩ = some (.string ⟨#[76, 105, 115, 116]⟩) ∧ Y.cell? ⟨g2, 2, none⟩ = some (.int .i64 0) ∧ Y.cell? ⟨g2, 3, none⟩ = some (.slice A8 1 c8)) (go_keep)
    (first
      | (go_at_call 17; refine (namedC _ _ _ _ _).mono ?_; rintro e u ⟨rfl, hb⟩; (first | (have HPn := Lib.hid (BH.trans HPn.out hb)) | (have HBk := Lib.hid ((Below.block hb _ (heap_lt (heap_alloc_new _ _))).trans (heap_alloc_new _ _)); have HPn := Lib.hid (BH.trans HPn.out (BH.trans (bh_alloc (BH.refl _) _) hb)))); clear hb; obtain ⟨b0, b1, b2, b3, _⟩ := row4 ((Below.block HPn.out _ (heap_lt HG2.out)).trans HG2.out))
      | (go_at_call 39; refine (CE.out _ _ _ HPn.out (kt1 (t := sInt) (kids := .nil) HBk.out (kt0 _))).mono ?_; rintro e u ⟨rfl, hb⟩; have HPn := Lib.hid (BH.trans HPn.out hb); clear hb; obtain ⟨b0, b1, b2, b3, _⟩ := row4 ((Below.block HPn.out _ (heap_lt HG2.out)).trans HG2.out))
      | (go_at_call 12; refine (CD.out _ HPn.out).mono ?_; rintro e u ⟨⟨A9, c9, rfl⟩, hb⟩; have HPn := Lib.hid (BH.trans HPn.out hb); clear hb; obtain ⟨b0, b1, b2, b3, _⟩ := row4 ((Below.block HPn.out _ (heap_lt HG2.out)).trans HG2.out)))
  all_goals
    go_wp2_with (fail)
    go_ret
    exact ⟨rfl, BH.trans HX2.out HPn.out⟩
end Go.Proofs.YtpkiheenkpcebaaGreatDoor
