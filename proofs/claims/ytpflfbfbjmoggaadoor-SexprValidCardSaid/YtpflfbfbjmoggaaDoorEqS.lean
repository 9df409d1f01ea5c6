/- telpher/sexpr.Equal: equal nodes but for the offsets. No condition but a bounded size. -/
import Derived.Test.YtpflfbfbjmoggaaDoorEqP
import Derived.Test.YtpflfbfbjmoggaaDoorAnyA
set_option linter.unusedVariables false
set_option linter.unusedSimpArgs false
namespace Go.Proofs.YtpflfbfbjmoggaaDoor
open Go.RowKit Sx

set_option maxHeartbeats 4000000 in
set_option maxRecDepth 100000 in
theorem equal_any (N : Nat) : ∀ (k o k' o' : Int) (t t' : List UInt8) (kids kids' : Fo) (A A' : Option Addr) (c c' : Nat) (ys ys' : List Value) (S S' : Nat → Prop) (w : World), fsize kids ≤ N → fsize kids ≤ 1073741824 → fsize kids' ≤ 1073741824 → readsAt w S A kids.len ys → rowOf w S kids ys → readsAt w S' A' kids'.len ys' → rowOf w S' kids' ys' →
    Calls Tryd.prog 20 #[.agg #[.int .i64 k, .string ⟨t.toArray⟩, .slice A kids.len c, .int .i64 o], .agg #[.int .i64 k', .string ⟨t'.toArray⟩, .slice A' kids'.len c', .int .i64 o']] w fun e w' => e = .returned (.bool (eqN k k' t t' kids kids')) ∧ Below w.heap.size w w' := by
  induction N using Nat.strongRecOn with
  | ind N ih =>
  intro k o k' o' t t' kids kids' A A' c c' ys ys' S S' w hN hN2 hN3 hra hxa hra' hxa'
  have IH := Lib.hid ih
  clear ih
  have hrow := rowAt_start hra hxa
  have hrow' := rowAt_start hra' hxa'
  have hlen := len_le_fsize kids
  have hlen2 := len_le_fsize kids'
  obtain ⟨L, hLL⟩ : ∃ L, kids.len = L := ⟨_, rfl⟩
  obtain ⟨L', hLL'⟩ : ∃ L', kids'.len = L' := ⟨_, rfl⟩
  have hA : 0 < L → ∃ g off : Nat, A = some ⟨g, off, none⟩ ∧ g < w.heap.size := fun h => by rw [← hLL] at h; obtain ⟨g, off, h, _, hl, _⟩ := hra h; exact ⟨g, off, h, hl⟩
  have hA' : 0 < L' → ∃ g off : Nat, A' = some ⟨g, off, none⟩ ∧ g < w.heap.size := fun h => by rw [← hLL'] at h; obtain ⟨g, off, h, _, hl, _⟩ := hra' h; exact ⟨g, off, h, hl⟩
  clear hra hra'
  rw [hLL, hLL']
  have HL := Lib.hid hLL
  have HL' := Lib.hid hLL'
  have HX := Lib.hid hxa
  have HR := Lib.hid hrow
  have HX' := Lib.hid hxa'
  have HR' := Lib.hid hrow'
  clear hxa hrow hxa' hrow'
  have hlen' : L ≤ fsize kids := by have := HL.out; omega
  have hlen2' : L' ≤ fsize kids' := by have := HL'.out; omega
  clear hlen hLL hlen2 hLL'
  have hbB := heap_alloc_new w (.cells #[.int .i64 k, .string ⟨t.toArray⟩, .slice A L c, .int .i64 o] 31 (0, 0))
  obtain ⟨w1, hw1⟩ : ∃ w1, w.alloc (.cells #[.int .i64 k, .string ⟨t.toArray⟩, .slice A L c, .int .i64 o] 31 (0, 0)) = w1 := ⟨_, rfl⟩
  have hs1 : w1.heap.size = w.heap.size + 1 := by rw [← hw1]; simp
  have hbC := heap_alloc_new w1 (.cells #[.int .i64 k', .string ⟨t'.toArray⟩, .slice A' L' c', .int .i64 o'] 31 (0, 0))
  obtain ⟨w2, hw2⟩ : ∃ w2, w1.alloc (.cells #[.int .i64 k', .string ⟨t'.toArray⟩, .slice A' L' c', .int .i64 o'] 31 (0, 0)) = w2 := ⟨_, rfl⟩
  have hs2 : w2.heap.size = w.heap.size + 2 := by rw [← hw2]; simp [hs1]
  rw [hw1] at hbB
  rw [hw2, hs1] at hbC
  have hbB2 : w2.heap[w.heap.size]? = some (.cells #[.int .i64 k, .string ⟨t.toArray⟩, .slice A L c, .int .i64 o] 31 (0, 0)) := by rw [← hw2]; exact (Below.heap_alloc w1 _ _ (by omega)).trans hbB
  have B2 : Below w.heap.size w w2 := by
    rw [← hw2, ← hw1]
    exact ((Below.refl _ _).alloc (Nat.le_refl _) _).alloc (by simp) _
  obtain ⟨b0, b1, b2, b3, y0, y1, y2, y3⟩ := row4 hbB2
  obtain ⟨d0, d1, d2, d3, z0, z1, z2, z3⟩ := row4 hbC
  have hB2 := Lib.hid B2
  have hBB := Lib.hid hbB2
  have hCC := Lib.hid hbC
  have hW : w2 = (w.alloc (.cells #[.int .i64 k, .string ⟨t.toArray⟩, .slice A L c, .int .i64 o] 31 (0, 0))).alloc (.cells #[.int .i64 k', .string ⟨t'.toArray⟩, .slice A' L' c', .int .i64 o'] 31 (0, 0)) := by rw [← hw2, ← hw1]
  clear hw1 hw2 hbB hbC hbB2 B2
  have HW := Lib.hid hW
  clear hW hs1 w1
  go_enter Tryd.func20, Tryd.ntmps20
  by_cases hk : ¬ k = k'
  · have hk1 : (k == k') = false := by simp [hk]
    have hk2 : (k != k') = true := by simp [hk]
    rw [eqN_k hk]
    go_wp2_with (fail)
    go_ret
    exact ⟨rfl, by have := hB2.out; rw [HW.out] at this; exact this⟩
  obtain rfl : k = k' := Decidable.not_not.1 hk
  by_cases ht : ¬ t = t'
  · have ht1 := ba_ne ht
    rw [eqN_t ht]
    go_wp2_with (fail)
    go_ret
    exact ⟨rfl, by have := hB2.out; rw [HW.out] at this; exact this⟩
  obtain rfl : t = t' := Decidable.not_not.1 ht
  by_cases hl : ¬ L = L'
  · have hl1 : ((L : Int) == (L' : Int)) = false := by simp; omega
    have hl2 : ((L : Int) != (L' : Int)) = true := by simp; omega
    rw [eqN_l (by rw [HL.out, HL'.out]; exact hl)]
    go_wp2_with (fail)
    go_ret
    exact ⟨rfl, by have := hB2.out; rw [HW.out] at this; exact this⟩
  obtain rfl : L = L' := Decidable.not_not.1 hl
  rw [eqN_rest]
  go_wp2_with (fail)
  go_loopw [5, 30] (fun _ iv wr => ∃ (i : Nat) (r r' : Fo) (xs xs' : List Value), iv = .int .i64 (i : Int) ∧ i + r.len = L ∧ i + r'.len = L ∧ eqF r r' = eqF kids kids' ∧ fsize r ≤ fsize kids ∧ fsize r' ≤ fsize kids' ∧ rowOf w S r xs ∧ rowAt w A i xs ∧ rowOf w S' r' xs' ∧ rowAt w A' i xs' ∧ Below (w.heap.size + 2) w2 wr) (fun _ iv _ => L - (match iv with | .int _ n => n.toNat | _ => 0))
  case atStart => exact ⟨0, kids, kids', ys, ys', rfl, by rw [HL.out]; omega, by rw [HL'.out]; omega, rfl, Nat.le_refl _, Nat.le_refl _, HX.out, HR.out, HX'.out, HR'.out, by rw [← HW.out]; exact Below.refl _ _⟩
  case round =>
    obtain ⟨i, r, r', xs, xs', rfl, hi, hi', heq, hsz, hsz', hx, hcx, hx', hcx', hbel⟩ := hrel
    have heq' := Lib.hid heq
    clear heq b0 b1 b2 b3 y0 y1 y2 y3 d0 d1 d2 d3 z0 z1 z2 z3
    obtain ⟨b0, b1, b2, b3, y0, y1, y2, y3⟩ := row4 ((hbel.block _ (by omega)).trans hBB.out)
    obtain ⟨d0, d1, d2, d3, z0, z1, z2, z3⟩ := row4 ((hbel.block _ (by omega)).trans hCC.out)
    have hbs := hbel.size
    have hbs' : w.heap.size + 2 ≤ wr.heap.size := by omega
    have HB := Lib.hid (hB2.out.trans (hbel.mono (by omega)))
    have hbelH := Lib.hid hbel
    clear hbel hbs
    cases r with
    | nil =>
      cases r' with
      | cons => simp only [Fo.len] at hi hi'; omega
      | nil =>
      simp only [Fo.len] at hi hi'
      have tlt : decide (i < L) = false := by simp; omega
      have Hi := Lib.hid hi
      clear hi hi'
      go_wp2_with (fail)
      go_ret
      exact ⟨ret_bool (by rw [← heq'.out]; rfl), HB.out⟩
    | cons k1 t1 kids1 o1 r1 =>
      cases r' with
      | nil => simp only [Fo.len] at hi hi'; omega
      | cons k2 t2 kids2 o2 r2 =>
      obtain ⟨A1, c1, ys1, zs1, rfl, hc1, hr1, hk1, hrest1⟩ := hx
      obtain ⟨A2, c2, ys2, zs2, rfl, hc2, hr2, hk2, hrest2⟩ := hx'
      simp only [Fo.len, fsize] at hi hi' hsz hsz'
      obtain ⟨g, off, rfl, hgl⟩ := hA (by omega)
      obtain ⟨g', off', rfl, hgl'⟩ := hA' (by omega)
      have tlt : decide ((i : Int) < (L : Int)) = true := by simp; omega
      have a0 := (HB.out.cell (p := ⟨g, _, none⟩) (by exact hgl)).trans (hcx g off rfl 0 _ rfl)
      have a1 := (HB.out.cell (p := ⟨g, _, none⟩) (by exact hgl)).trans (hcx g off rfl 1 _ rfl)
      have a2 := (HB.out.cell (p := ⟨g, _, none⟩) (by exact hgl)).trans (hcx g off rfl 2 _ rfl)
      have a3 := (HB.out.cell (p := ⟨g, _, none⟩) (by exact hgl)).trans (hcx g off rfl 3 _ rfl)
      have p0 := (HB.out.cell (p := ⟨g', _, none⟩) (by exact hgl')).trans (hcx' g' off' rfl 0 _ rfl)
      have p1 := (HB.out.cell (p := ⟨g', _, none⟩) (by exact hgl')).trans (hcx' g' off' rfl 1 _ rfl)
      have p2 := (HB.out.cell (p := ⟨g', _, none⟩) (by exact hgl')).trans (hcx' g' off' rfl 2 _ rfl)
      have p3 := (HB.out.cell (p := ⟨g', _, none⟩) (by exact hgl')).trans (hcx' g' off' rfl 3 _ rfl)
      simp only [Nat.add_zero] at a0 p0
      have hiL : (i : Int) < (L : Int) := by omega
      have hi0 : (0 : Int) ≤ (i : Int) := by omega
      have Hi := Lib.hid hi
      have Hi' := Lib.hid hi'
      clear hi hi'
      have hcall : Calls Tryd.prog 20 #[.agg #[.int .i64 k1, .string ⟨t1.toArray⟩, .slice A1 kids1.len c1, .int .i64 o1], .agg #[.int .i64 k2, .string ⟨t2.toArray⟩, .slice A2 kids2.len c2, .int .i64 o2]] wr.drew fun e w' => e = .returned (.bool (eqN k1 k2 t1 t2 kids1 kids2)) ∧ Below wr.heap.size wr w' := by
        refine (IH.out (fsize kids1) (by omega) k1 o1 k2 o2 t1 t2 kids1 kids2 A1 A2 c1 c2 ys1 ys2 S S' _ (Nat.le_refl _) (by omega) (by omega) (hr1.keep (w' := wr.drew) HB.out.size fun x hx hl => ⟨HB.out.block x hl, hx⟩) (hk1.keep (w' := wr.drew) HB.out.size (fun x hx hl => ⟨HB.out.block x hl, hx⟩) _)
          (hr2.keep (w' := wr.drew) HB.out.size fun x hx hl => ⟨HB.out.block x hl, hx⟩) (hk2.keep (w' := wr.drew) HB.out.size (fun x hx hl => ⟨HB.out.block x hl, hx⟩) _)).mono ?_
        rintro e w' ⟨rfl, hb⟩
        exact ⟨rfl, hb.os, hb.tape, hb.output, hb.size, hb.block⟩
      have HC := Lib.hid hcall
      clear hcall
      cases hq : eqN k1 k2 t1 t2 kids1 kids2
      · rw [hq] at HC
        go_wp2_with (fail)
        go_region_held3 (fun w' => w'.cell? ⟨w.heap.size, 2, none⟩ = some (.slice (some ⟨g, off, none⟩) L c) ∧ w'.cell? ⟨w.heap.size + 1, 2, none⟩ = some (.slice (some ⟨g', off', none⟩) L c') ∧
            w'.cell? ⟨g, off + i * 4, none⟩ = some (.int .i64 k1) ∧ w'.cell? ⟨g, off + i * 4 + 1, none⟩ = some (.string ⟨t1.toArray⟩) ∧ w'.cell? ⟨g, off + i * 4 + 2, none⟩ = some (.slice A1 kids1.len c1) ∧ w'.cell? ⟨g, off + i * 4 + 3, none⟩ = some (.int .i64 o1) ∧
            w'.cell? ⟨g', off' + i * 4, none⟩ = some (.int .i64 k2) ∧ w'.cell? ⟨g', off' + i * 4 + 1, none⟩ = some (.string ⟨t2.toArray⟩) ∧ w'.cell? ⟨g', off' + i * 4 + 2, none⟩ = some (.slice A2 kids2.len c2) ∧ w'.cell? ⟨g', off' + i * 4 + 3, none⟩ = some (.int .i64 o2))
          (go_keep)
          ((go_at_call 20; refine HC.out.mono ?_; rintro e w4 ⟨rfl, hb4⟩; have HW4 := Lib.hid hb4; have l0 := HB.out.size; have q2 := (hb4.cell (p := ⟨w.heap.size, 2, none⟩) (by exact (show w.heap.size < wr.heap.size by omega))).trans b2; have q2' := (hb4.cell (p := ⟨w.heap.size + 1, 2, none⟩) (by exact (show w.heap.size + 1 < wr.heap.size by omega))).trans d2; have u0 := (hb4.cell (p := ⟨g, _, none⟩) (by exact (show g < wr.heap.size by omega))).trans a0; have u1 := (hb4.cell (p := ⟨g, _, none⟩) (by exact (show g < wr.heap.size by omega))).trans a1; have u2 := (hb4.cell (p := ⟨g, _, none⟩) (by exact (show g < wr.heap.size by omega))).trans a2; have u3 := (hb4.cell (p := ⟨g, _, none⟩) (by exact (show g < wr.heap.size by omega))).trans a3; have v0 := (hb4.cell (p := ⟨g', _, none⟩) (by exact (show g' < wr.heap.size by omega))).trans p0; have v1 := (hb4.cell (p := ⟨g', _, none⟩) (by exact (show g' < wr.heap.size by omega))).trans p1; have v2 := (hb4.cell (p := ⟨g', _, none⟩) (by exact (show g' < wr.heap.size by omega))).trans p2; have v3 := (hb4.cell (p := ⟨g', _, none⟩) (by exact (show g' < wr.heap.size by omega))).trans p3; clear hb4))
        go_wp2_with (fail)
        go_ret
        exact ⟨ret_bool (by rw [← heq'.out]; have h := hq; unfold eqN at h; simp only [eqF, h, Bool.false_and]), HB.out.trans (HW4.out.mono (by omega))⟩
      · rw [hq] at HC
        go_wp2_with (fail)
        go_region_held3 (fun w' => w'.cell? ⟨w.heap.size, 2, none⟩ = some (.slice (some ⟨g, off, none⟩) L c) ∧ w'.cell? ⟨w.heap.size + 1, 2, none⟩ = some (.slice (some ⟨g', off', none⟩) L c') ∧
            w'.cell? ⟨g, off + i * 4, none⟩ = some (.int .i64 k1) ∧ w'.cell? ⟨g, off + i * 4 + 1, none⟩ = some (.string ⟨t1.toArray⟩) ∧ w'.cell? ⟨g, off + i * 4 + 2, none⟩ = some (.slice A1 kids1.len c1) ∧ w'.cell? ⟨g, off + i * 4 + 3, none⟩ = some (.int .i64 o1) ∧
            w'.cell? ⟨g', off' + i * 4, none⟩ = some (.int .i64 k2) ∧ w'.cell? ⟨g', off' + i * 4 + 1, none⟩ = some (.string ⟨t2.toArray⟩) ∧ w'.cell? ⟨g', off' + i * 4 + 2, none⟩ = some (.slice A2 kids2.len c2) ∧ w'.cell? ⟨g', off' + i * 4 + 3, none⟩ = some (.int .i64 o2))
          (go_keep)
          ((go_at_call 20; refine HC.out.mono ?_; rintro e w4 ⟨rfl, hb4⟩; have HW4 := Lib.hid hb4; have l0 := HB.out.size; have q2 := (hb4.cell (p := ⟨w.heap.size, 2, none⟩) (by exact (show w.heap.size < wr.heap.size by omega))).trans b2; have q2' := (hb4.cell (p := ⟨w.heap.size + 1, 2, none⟩) (by exact (show w.heap.size + 1 < wr.heap.size by omega))).trans d2; have u0 := (hb4.cell (p := ⟨g, _, none⟩) (by exact (show g < wr.heap.size by omega))).trans a0; have u1 := (hb4.cell (p := ⟨g, _, none⟩) (by exact (show g < wr.heap.size by omega))).trans a1; have u2 := (hb4.cell (p := ⟨g, _, none⟩) (by exact (show g < wr.heap.size by omega))).trans a2; have u3 := (hb4.cell (p := ⟨g, _, none⟩) (by exact (show g < wr.heap.size by omega))).trans a3; have v0 := (hb4.cell (p := ⟨g', _, none⟩) (by exact (show g' < wr.heap.size by omega))).trans p0; have v1 := (hb4.cell (p := ⟨g', _, none⟩) (by exact (show g' < wr.heap.size by omega))).trans p1; have v2 := (hb4.cell (p := ⟨g', _, none⟩) (by exact (show g' < wr.heap.size by omega))).trans p2; have v3 := (hb4.cell (p := ⟨g', _, none⟩) (by exact (show g' < wr.heap.size by omega))).trans p3; clear hb4))
        go_wp2_with (fail)
        have hi := Hi.out
        have hi' := Hi'.out
        exact ⟨⟨i + 1, r1, r2, zs1, zs2, rfl, by omega, by omega, by rw [← heq'.out]; have h := hq; unfold eqN at h; simp only [eqF, h, Bool.true_and], by omega, by omega, hrest1, rowAt_next hcx, hrest2, rowAt_next hcx', hbelH.out.trans (HW4.out.mono hbs')⟩, by simp; omega⟩
end Go.Proofs.YtpflfbfbjmoggaaDoor
