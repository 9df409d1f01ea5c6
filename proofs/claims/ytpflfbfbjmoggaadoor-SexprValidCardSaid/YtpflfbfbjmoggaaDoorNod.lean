/- telmake.Node: the same node again, in memory of its own. No condition but a bounded size. -/
import Derived.Test.YtpflfbfbjmoggaaDoorNodA
set_option linter.unusedVariables false
set_option linter.unusedSimpArgs false
namespace Go.Proofs.YtpflfbfbjmoggaaDoor
open Go.RowKit Sx

set_option maxHeartbeats 4000000 in
set_option maxRecDepth 100000 in
theorem node_any (N : Nat) : ∀ (k o : Int) (t : List UInt8) (kids : Fo) (A : Option Addr) (c : Nat) (ys : List Value) (S : Nat → Prop) (w : World), fsize kids ≤ N → fsize kids ≤ 1073741824 → kids.len ≤ c → readsAt w S A kids.len ys → rowOf w S kids ys →
    Calls Tryd.prog 18 #[.agg #[.int .i64 k, .string ⟨t.toArray⟩, .slice A kids.len c, .int .i64 o]] w (NodePost k o t kids w) := by
  induction N using Nat.strongRecOn with
  | ind N ih =>
  intro k o t kids A c ys S w hN hN2 hc hra hxa
  have IH := Lib.hid ih
  clear ih
  obtain ⟨i0, hi, hz0, hz1, hz2⟩ := info_parts infoSNode
  have hrow := rowAt_start hra hxa
  have hlen := len_le_fsize kids
  obtain ⟨L, hLL⟩ : ∃ L, kids.len = L := ⟨_, rfl⟩
  have hA : 0 < L → ∃ g off : Nat, A = some ⟨g, off, none⟩ ∧ g < w.heap.size := fun h => by rw [← hLL] at h; obtain ⟨g, off, h, _, hl, _⟩ := hra h; exact ⟨g, off, h, hl⟩
  clear hra
  rw [hLL] at hc ⊢
  have HL := Lib.hid hLL
  have HX := Lib.hid hxa
  have HR := Lib.hid hrow
  clear hxa hrow
  have hlen' : L ≤ fsize kids := by have := HL.out; omega
  clear hlen hLL
  have hbB := heap_alloc_new w (.cells #[.int .i64 k, .string ⟨t.toArray⟩, .slice A L c, .int .i64 o] 39 (0, 0))
  obtain ⟨w1, hw1⟩ : ∃ w1, w.alloc (.cells #[.int .i64 k, .string ⟨t.toArray⟩, .slice A L c, .int .i64 o] 39 (0, 0)) = w1 := ⟨_, rfl⟩
  have hs1 : w1.heap.size = w.heap.size + 1 := by rw [← hw1]; simp
  have hbR := heap_alloc_new w1 (.cells #[.int .i64 0, .string ⟨#[]⟩, .slice none 0 0, .int .i64 0] 31 (0, 0))
  obtain ⟨w2, hw2⟩ : ∃ w2, w1.alloc (.cells #[.int .i64 0, .string ⟨#[]⟩, .slice none 0 0, .int .i64 0] 31 (0, 0)) = w2 := ⟨_, rfl⟩
  have hs2 : w2.heap.size = w.heap.size + 2 := by rw [← hw2]; simp [hs1]
  have hbM := heap_alloc_new w2 (.cells #[.int .i64 k, .string ⟨t.toArray⟩, .slice none 0 0, .int .i64 o] 31 (0, 0))
  obtain ⟨w3, hw3⟩ : ∃ w3, w2.alloc (.cells #[.int .i64 k, .string ⟨t.toArray⟩, .slice none 0 0, .int .i64 o] 31 (0, 0)) = w3 := ⟨_, rfl⟩
  have hs3 : w3.heap.size = w.heap.size + 3 := by rw [← hw3]; simp [hs2]
  rw [hw1] at hbB
  rw [hw2, hs1] at hbR
  rw [hw3, hs2] at hbM
  have e2 : ∀ x, x < w1.heap.size → w2.heap[x]? = w1.heap[x]? := fun x hx => by rw [← hw2]; exact Below.heap_alloc w1 _ x hx
  have e3 : ∀ x, x < w2.heap.size → w3.heap[x]? = w2.heap[x]? := fun x hx => by rw [← hw3]; exact Below.heap_alloc w2 _ x hx
  have B3 : Below w.heap.size w w3 := by
    rw [← hw3, ← hw2, ← hw1]
    exact (((Below.refl _ _).alloc (Nat.le_refl _) _).alloc (by simp) _).alloc (by simp; omega) _
  have hB0 : w2.heap[w.heap.size]? = some (.cells #[.int .i64 k, .string ⟨t.toArray⟩, .slice A L c, .int .i64 o] 39 (0, 0)) := (e2 _ (by omega)).trans hbB
  have H0 : NRnd w w3 w3 k o t (.slice A L c) (.slice none 0 0) .nil [] :=
    ⟨B3, (e3 _ (by omega)).trans hB0, (e3 _ (by omega)).trans hbR, hbM, World.ownsRow_nil _ _ _ _, rfl, Nat.le_refl _, hs3⟩
  obtain ⟨b0, b1, b2, b3, y0, y1, y2, y3⟩ := row4 hbB
  obtain ⟨d0, d1, d2, d3, z0, z1, z2, z3⟩ := row4 hB0
  have HH0 := Lib.hid H0
  have HE := Lib.hid (And.intro e2 e3)
  clear H0 e2 e3 hbB hbR hbM hB0 B3
  go_enter Tryd.func18, Tryd.ntmps18
  go_wp2_with (fail)
  go_loopw [4] (fun iv wr => ∃ (v : Value) (acc r : Fo) (xs zs : List Value), iv = .int .i64 (acc.len : Int) ∧ acc.len + r.len = L ∧ acc.app r = kids ∧ fsize r ≤ fsize kids ∧ rowOf w S r zs ∧ rowAt w A acc.len zs ∧ NRnd w w3 wr k o t (.slice A L c) v acc xs) (fun iv _ => L - (match iv with | .int _ n => n.toNat | _ => 0))
  case atStart => exact ⟨_, .nil, kids, [], ys, rfl, by rw [HL.out]; simp [Fo.len], rfl, Nat.le_refl _, HX.out, HR.out, by subst hw3; subst hw2; subst hw1; exact HH0.out⟩
  case round =>
    obtain ⟨v, acc, r, xs, zs, rfl, hir, happ, hsz, hx, hcx, hR⟩ := hrel
    obtain ⟨A5, c5, rfl, hc5⟩ := own_shape hR.own
    clear b0 b1 b2 b3 y0 y1 y2 y3 d0 d1 d2 d3 z0 z1 z2 z3
    obtain ⟨b0, b1, b2, b3, y0, y1, y2, y3⟩ := row4 hR.blkB
    obtain ⟨e0, e1, e2, e3, x0, x1, x2, x3⟩ := row4 hR.blkR
    obtain ⟨d0, d1, d2, d3, z0, z1, z2, z3⟩ := row4 hR.blkM
    have hRH := Lib.hid hR
    clear hR
    have happ' := Lib.hid happ
    clear happ
    cases r with
    | nil =>
      simp only [Fo.len] at hir
      have tlt : decide (acc.len < L) = false := by simp; omega
      have Hir := Lib.hid hir
      clear hir
      go_wp2_with (fail)
      obtain ⟨m0, m1, m2, m3, _, _, _, _⟩ := row4 (set4 hRH.out.blkR (.int .i64 k) (.string ⟨t.toArray⟩) (.slice A5 acc.len c5) (.int .i64 o))
      have hk : acc = kids := by have := happ'.out; rw [Fo.app_nil] at this; exact this
      refine bodyPost_ret (v := .agg #[.int .i64 k, .string ⟨t.toArray⟩, .slice A5 acc.len c5, .int .i64 o]) (by simp [results, Tryd.results18, go_sem, m0, m1, m2, m3]) rfl ?_
      rw [← hk]
      exact hRH.out.out
    | cons k1 t1 kids1 o1 r1 =>
      obtain ⟨A1, c1, ys1, zs1, rfl, hc1, hr1, hk1, hrest1⟩ := hx
      simp only [Fo.len, fsize] at hir hsz
      obtain ⟨g, off, rfl, hgl⟩ := hA (by omega)
      have tlt : decide ((acc.len : Int) < (L : Int)) = true := by simp; omega
      have hbel := hRH.out.bel
      have hs0 := hRH.out.size
      have a0 := (hbel.cell (p := ⟨g, _, none⟩) (by exact hgl)).trans (hcx g off rfl 0 _ rfl)
      have a1 := (hbel.cell (p := ⟨g, _, none⟩) (by exact hgl)).trans (hcx g off rfl 1 _ rfl)
      have a2 := (hbel.cell (p := ⟨g, _, none⟩) (by exact hgl)).trans (hcx g off rfl 2 _ rfl)
      have a3 := (hbel.cell (p := ⟨g, _, none⟩) (by exact hgl)).trans (hcx g off rfl 3 _ rfl)
      simp only [Nat.add_zero] at a0
      have hiL : (acc.len : Int) < (L : Int) := by omega
      have hi0 : (0 : Int) ≤ (acc.len : Int) := by omega
      have hm2 : acc.len + 1 ≤ maxLen := by unfold maxLen; omega
      have hN3 : L ≤ 1073741824 := by omega
      have hcall : Calls Tryd.prog 18 #[.agg #[.int .i64 k1, .string ⟨t1.toArray⟩, .slice A1 kids1.len c1, .int .i64 o1]] wr.drew fun e w4 => ∃ (A : Option Addr) (c' : Nat) (ys : List Value),
          e = .returned (.agg #[.int .i64 k1, .string ⟨t1.toArray⟩, .slice A kids1.len c', .int .i64 o1]) ∧ w4.cell? ⟨w.heap.size + 2, 2, none⟩ = some (.slice A5 acc.len c5) ∧ w4.frozen? ⟨w.heap.size + 2, 2, none⟩ = false ∧
          (w4.alloc (.cells #[.int .i64 k1, .string ⟨t1.toArray⟩, .slice A kids1.len c', .int .i64 o1] 31)).cell? ⟨w.heap.size + 2, 2, none⟩ = some (.slice A5 acc.len c5) ∧
          NAfter w w3 wr w4 k o t (.slice (some ⟨g, off, none⟩) L c) (.slice A5 acc.len c5) acc xs k1 o1 t1 kids1 A c' ys := by
        refine (IH.out (fsize kids1) (by omega) k1 o1 t1 kids1 A1 c1 ys1 S _ (Nat.le_refl _) (by omega) hc1 (hr1.keep (w' := wr.drew) hbel.size fun x hx hl => ⟨hbel.block x hl, hx⟩) (hk1.keep (w' := wr.drew) hbel.size (fun x hx hl => ⟨hbel.block x hl, hx⟩) _)).mono ?_
        rintro e w4 ⟨A, c', ys, rfl, hkc, hkr, hkw, hb4⟩
        have hb4' : Below wr.heap.size wr w4 := ⟨hb4.os, hb4.tape, hb4.output, hb4.size, hb4.block⟩
        have HA := hRH.out.to_after (k1 := k1) (o1 := o1) (t1 := t1) hb4' hkc hkr hkw
        obtain ⟨p0, p1, p2, p3, q0, q1, q2, q3⟩ := row4 HA.rnd.blkM
        exact ⟨A, c', ys, rfl, p2, q2, (World.cell?_of_block (Below.heap_alloc w4 _ _ (heap_lt HA.rnd.blkM))).trans p2, HA⟩
      have HC := Lib.hid hcall
      clear hcall
      go_wp2_with (fail)
      go_region_law (first
        | (go_simp; go_at_call 18; refine HC.out.mono ?_; rintro e w4 ⟨Ak, ck, yk, rfl, p2, q2, p2n, hA'⟩; have HA := Lib.hid hA'; clear hA')
        | (refine step_append_lies _ (by rfl) _ _ _ (by rfl) w3.heap.size 31 i0 _ 4 56 Tryd.underlying22 hi hz0 hz1 hz2 rfl (by omega) (.slice A5 acc.len c5) acc.len xs (by rfl) (HA.out.rnd.own.alloc _)
             ⟨w4.heap.size, 0, none⟩ 1 1 [.int .i64 k1, .string ⟨t1.toArray⟩, .slice Ak kids1.len ck, .int .i64 o1] (by rfl) (by rfl) (World.news_of_block (cs := #[.int .i64 k1, .string ⟨t1.toArray⟩, .slice Ak kids1.len ck, .int .i64 o1]) (t := 31) (fr := (0, 0)) (heap_alloc_new w4 _)) (by simp [Value.oneCell'])
             (by omega) hm2 (by omega) (by simp; have := HA.out.rnd.size; omega) (w4.heap.size + 1) (by simp) ?_; intro gg cp w5 hown5 hgrow hat hlt5; have HO := Lib.hid hown5; have HGR := Lib.hid hgrow; have HAT := Lib.hid hat; clear hown5 hat; obtain ⟨f0, f1, f2, f3, u0, u1, u2, u3⟩ := row4 (HA.out.cell hgrow); clear hgrow))
      all_goals
        go_wp2_with (fail)
        exact ⟨⟨_, _, r1, _, zs1, by simp [Fo.len_app, Fo.one, Fo.len], by simp only [Fo.len_app, Fo.one, Fo.len]; omega, by rw [Fo.app_app]; exact happ'.out, by omega, hrest1, by simp only [Fo.len_app, Fo.one, Fo.len]; exact rowAt_next hcx, HA.out.done HGR.out HAT.out HO.out⟩, by simp; omega⟩
end Go.Proofs.YtpflfbfbjmoggaaDoor
