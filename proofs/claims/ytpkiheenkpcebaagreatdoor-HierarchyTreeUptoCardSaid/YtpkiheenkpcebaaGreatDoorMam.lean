/- typeterm.Instantiate. No condition but bounded sizes. -/
import Derived.Test.YtpkiheenkpcebaaGreatDoorMal
set_option linter.unusedVariables false
set_option linter.unusedSimpArgs false
namespace Go.Proofs.YtpkiheenkpcebaaGreatDoor
open Go.RowKit Sx

set_option maxHeartbeats 8000000 in
set_option maxRecDepth 100000 in
theorem repc_ins (i L L1 : Nat) (k o k1 o1 b : Int) (t t1 : List UInt8) (A A1 : Option Addr) (c c1 p p1 p2 p3 : Nat) (X : World) (x : Tm) (hb0 : 0 ≤ b) (hb1 : b ≤ 1152921504606846976)
    (h1 : X.heap[p1]? = some (.cells #[.int .i64 k, .string ⟨t.toArray⟩, .int .i64 o, .slice A L c] 34 (0, 0))) (h2 : X.heap[p2]? = some (.cells #[.int .i64 b] 3 (0, 0))) (h3 : X.heap[p3]? = some (.cells #[.func (.func 105) #[] #[.pointer (some ⟨p, 0, none⟩)]] 134 (0, 0)))
    (hC : ∀ Y, BH X Y → Calls Tryz.prog 104 #[.agg #[.int .i64 k1, .string ⟨t1.toArray⟩, .int .i64 o1, .slice A1 L1 c1], .int .i64 (aroundB k i b), .func (.func 105) #[] #[.pointer (some ⟨p, 0, none⟩)]] Y (SbP Y NS x)) :
    Calls Tryz.prog 126 #[.int .i64 (i : Int), .agg #[.int .i64 k1, .string ⟨t1.toArray⟩, .int .i64 o1, .slice A1 L1 c1], .pointer (some ⟨p1, 0, none⟩), .pointer (some ⟨p2, 0, none⟩), .pointer (some ⟨p3, 0, none⟩)] X (SbP X NS x) := by
  have f1 := bh_alloc (BH.refl X) (.cells #[.int .i64 k1, .string ⟨t1.toArray⟩, .int .i64 o1, .slice A1 L1 c1] 34)
  have g1 := heap_alloc_new X (.cells #[.int .i64 k1, .string ⟨t1.toArray⟩, .int .i64 o1, .slice A1 L1 c1] 34)
  have f2 := bh_alloc f1 (.cells #[.int .i64 0, .string ⟨#[]⟩, .int .i64 0, .slice none 0 0] 34)
  have g2 := heap_alloc_new (X.alloc (.cells #[.int .i64 k1, .string ⟨t1.toArray⟩, .int .i64 o1, .slice A1 L1 c1] 34)) (.cells #[.int .i64 0, .string ⟨#[]⟩, .int .i64 0, .slice none 0 0] 34)
  rw [World.size_alloc] at g2
  have g1' := (Below.heap_alloc (X.alloc (.cells #[.int .i64 k1, .string ⟨t1.toArray⟩, .int .i64 o1, .slice A1 L1 c1] 34)) (.cells #[.int .i64 0, .string ⟨#[]⟩, .int .i64 0, .slice none 0 0] 34) _ (by simp)).trans g1
  have HC := Lib.hid hC
  have HQ := Lib.hid (And.intro g1' (And.intro g2 f2))
  have H1 := Lib.hid h1
  have H2 := Lib.hid h2
  have H3 := Lib.hid h3
  clear f1 g1 f2 g2 g1' hC h1 h2 h3
  go_enter Tryz.func126, Tryz.ntmps126
  go_wp2_with (fail)
  refine gen_wp _ (fun Y => Y.heap[X.heap.size]? = some (.cells #[.int .i64 k1, .string ⟨t1.toArray⟩, .int .i64 o1, .slice A1 L1 c1] 34 (0, 0)) ∧ Y.heap[X.heap.size + 1]? = some (.cells #[.int .i64 0, .string ⟨#[]⟩, .int .i64 0, .slice none 0 0] 34 (0, 0)) ∧ BH X Y) HQ.out ?_
  rintro W5 ⟨hN1, hN2, hP5⟩
  obtain ⟨g5, hg5⟩ : ∃ g5, X.heap.size = g5 := ⟨_, rfl⟩
  have HG5 := Lib.hid hg5
  rw [hg5] at hN1 hN2 ⊢
  obtain ⟨d0, d1, d2, d3, _⟩ := row4 hN1
  obtain ⟨a0, a1, a2, a3, _⟩ := row4 ((Below.block hP5 _ (heap_lt H1.out)).trans H1.out)
  obtain ⟨j2, _⟩ := row1 ((Below.block hP5 _ (heap_lt H2.out)).trans H2.out)
  obtain ⟨j3, _⟩ := row1 ((Below.block hP5 _ (heap_lt H3.out)).trans H3.out)
  have hl1 := heap_lt H1.out
  have hl2 := heap_lt H2.out
  have hl3 := heap_lt H3.out
  have r1 : ¬ p1 = g5 + 1 := by omega
  have r2 : ¬ p2 = g5 + 1 := by omega
  have r3 : ¬ p3 = g5 + 1 := by omega
  have HN2 := Lib.hid hN2
  have HP5 := Lib.hid hP5
  have KSs : ∀ Y, BH W5 Y → Y.cell? ⟨g5, 0, none⟩ = some (.int .i64 k1) ∧ Y.cell? ⟨g5, 1, none⟩ = some (.string ⟨t1.toArray⟩) ∧ Y.cell? ⟨g5, 2, none⟩ = some (.int .i64 o1) ∧ Y.cell? ⟨g5, 3, none⟩ = some (.slice A1 L1 c1) ∧
      Y.cell? ⟨p1, 0, none⟩ = some (.int .i64 k) ∧ Y.cell? ⟨p1, 1, none⟩ = some (.string ⟨t.toArray⟩) ∧ Y.cell? ⟨p1, 2, none⟩ = some (.int .i64 o) ∧ Y.cell? ⟨p1, 3, none⟩ = some (.slice A L c) ∧ Y.cell? ⟨p2, 0, none⟩ = some (.int .i64 b) ∧ Y.cell? ⟨p3, 0, none⟩ = some (.func (.func 105) #[] #[.pointer (some ⟨p, 0, none⟩)]) :=
    fun Y h => ⟨h.cell d0, h.cell d1, h.cell d2, h.cell d3, h.cell a0, h.cell a1, h.cell a2, h.cell a3, h.cell j2, h.cell j3⟩
  have hBA : ∀ Y, BH W5 Y → Calls Tryz.prog 127 #[.agg #[.int .i64 k, .string ⟨t.toArray⟩, .int .i64 o, .slice A L c], .int .i64 (i : Int), .int .i64 b] Y fun e u => e = .returned (.int .i64 (aroundB k i b)) ∧ BH W5 u := fun Y hY =>
    (around_any k o b i t A L c Y hb0 (by omega)).mono fun e u h => ⟨h.1, BH.trans hY h.2⟩
  have HKS := Lib.hid KSs
  have HBA := Lib.hid hBA
  have HPe := Lib.hid (BH.drew W5)
  clear KSs hBA hN1 hN2 hP5 HQ H1 H2 H3 hg5 hl1 hl2 hl3
  go_region_held3 (fun w' => w'.cell? ⟨g5, 0, none⟩ = some (.int .i64 k1) ∧ w'.cell? ⟨g5, 1, none⟩ = some (.string ⟨t1.toArray⟩) ∧ w'.cell? ⟨g5, 2, none⟩ = some (.int .i64 o1) ∧ w'.cell? ⟨g5, 3, none⟩ = some (.slice A1 L1 c1) ∧
      w'.cell? ⟨p1, 0, none⟩ = some (.int .i64 k) ∧ w'.cell? ⟨p1, 1, none⟩ = some (.string ⟨t.toArray⟩) ∧ w'.cell? ⟨p1, 2, none⟩ = some (.int .i64 o) ∧ w'.cell? ⟨p1, 3, none⟩ = some (.slice A L c) ∧ w'.cell? ⟨p2, 0, none⟩ = some (.int .i64 b) ∧ w'.cell? ⟨p3, 0, none⟩ = some (.func (.func 105) #[] #[.pointer (some ⟨p, 0, none⟩)])) (first | exact HFz.out | go_keep)
    (first
      | (go_at_call 104; refine (HC.out _ (BH.trans HP5.out HPu.out)).mono ?_; rintro e u2 ⟨A2, c2, rfl, v1, v2⟩; have HU2 := Lib.hid (And.intro v1 v2); have HN3 := Lib.hid ((Below.block (BH.trans HPu.out v2) _ (heap_lt HN2.out)).trans HN2.out); obtain ⟨x0, x1, x2, x3, x4, x5, x6, x7, x8, x9⟩ := HKS.out _ (BH.trans HPu.out v2); have HFz := Lib.hid (s4_keep10 (.int .i64 x.k) (.string ⟨x.t.toArray⟩) (.int .i64 x.o) (.slice A2 x.kids.len c2) (show g5 ≠ g5 + 1 by omega) r1 r2 r3 (HKS.out _ (BH.trans HPu.out v2))); clear v1 v2; obtain ⟨b0, b1, b2, b3, y0, y1, y2, y3⟩ := row4 HN3.out)
      | (go_at_call 127; refine (HBA.out _ HPe.out).mono ?_; rintro e u ⟨rfl, hpu⟩; have HPu := Lib.hid hpu; obtain ⟨x0, x1, x2, x3, x4, x5, x6, x7, x8, x9⟩ := HKS.out _ hpu; clear hpu))
  all_goals
    go_wp2_with (fail)
    obtain ⟨m0, m1, m2, m3, _⟩ := row4 (s4 HN3.out (.int .i64 x.k) (.string ⟨x.t.toArray⟩) (.int .i64 x.o) (.slice A2 x.kids.len c2))
    refine bodyPost_ret (v := .agg #[.int .i64 x.k, .string ⟨x.t.toArray⟩, .int .i64 x.o, .slice A2 x.kids.len c2]) (by simp [results, Tryz.results126, go_sem, m0, m1, m2, m3]) rfl ?_
    obtain ⟨v1, v2⟩ := HU2.out
    have hg := HG5.out
    have hs5 := heap_lt HN2.out
    have hsu := Below.size HPu.out
    exact SbP.box (x := x) (N := g5 + 1) (fun y hy => hy.elim) (by omega) (BH.trans HP5.out (BH.trans HPu.out v2)) (v1.keep (S' := fun y => (NS y ∨ X.heap.size ≤ y) ∧ y ≠ g5 + 1) (Nat.le_refl _) fun y hy _ => ⟨rfl, hy.elim (fun h => h.elim) fun h => ⟨.inr (by omega), by omega⟩⟩)
def RFT_ins (p : Nat) (J : World → Prop) (G : Int → Option Tm) (sh : Int → Int) (V : Int) (M : Nat) : Prop :=
  ∀ (k o b : Int) (t : List UInt8) (kids : Fo) (A : Option Addr) (c : Nat) (w : World), fsize kids < M → wid kids → KT w kids A c → J w → 0 ≤ b → b + fsize kids ≤ 1152921504606846976 → closed1 k o kids (b + V) = true →
    Calls Tryz.prog 104 #[.agg #[.int .i64 k, .string ⟨t.toArray⟩, .int .i64 o, .slice A kids.len c], .int .i64 b, .func (.func 105) #[] #[.pointer (some ⟨p, 0, none⟩)]] w (SbP w NS (rep1 G sh k t o kids b))

theorem repargs_ins {p : Nat} {J : World → Prop} {G : Int → Option Tm} {sh : Int → Int} {V : Int} {M : Nat} (hJ : ∀ X Y, J X → BH X Y → J Y) (hR : RFT_ins p J G sh V M)
    (k o b : Int) (t : List UInt8) (kids : Fo) (A : Option Addr) (c p1 p2 p3 : Nat) (W : World) (hM : fsize kids < M + 1) (hN : wid kids) (hK : KT W kids A c) (hJW : J W) (hb0 : 0 ≤ b) (hb1 : b + fsize kids ≤ 1152921504606846976) (hcl : closedL k 0 (b + V) kids = true)
    (h1 : W.heap[p1]? = some (.cells #[.int .i64 k, .string ⟨t.toArray⟩, .int .i64 o, .slice A kids.len c] 34 (0, 0))) (h2 : W.heap[p2]? = some (.cells #[.int .i64 b] 3 (0, 0))) (h3 : W.heap[p3]? = some (.cells #[.func (.func 105) #[] #[.pointer (some ⟨p, 0, none⟩)]] 134 (0, 0))) :
    Calls Tryz.prog 125 #[.agg #[.int .i64 k, .string ⟨t.toArray⟩, .int .i64 o, .slice A kids.len c], .func (.func 126) #[] #[.pointer (some ⟨p1, 0, none⟩), .pointer (some ⟨p2, 0, none⟩), .pointer (some ⟨p3, 0, none⟩)]] W (SbP W NS ⟨k, t, repL G sh k 0 b kids, o⟩) := by
  have hl := len_le_fsize kids
  have h := withArgs_rep (fun i k1 t1 kids1 o1 => rep1 G sh k1 t1 o1 kids1 (aroundB k i b)) NS k o t kids A c p1 p2 p3 W (fun y hy => hy.elim) hN.1 hK ?_
  · rwa [← repL_map] at h
  · intro i k1 o1 t1 kids1 r1 A1 c1 X hsuf hX hK1
    obtain ⟨ab0, ab1⟩ := aroundB_bounds k b i
    have hkid := hsuf.kid.1
    refine repc_ins i kids.len kids1.len k o k1 o1 b t t1 A A1 c c1 p p1 p2 p3 X _ hb0 (by omega) ((Below.block hX _ (heap_lt h1)).trans h1) ((Below.block hX _ (heap_lt h2)).trans h2) ((Below.block hX _ (heap_lt h3)).trans h3) fun Y hY => ?_
    exact hR k1 o1 (aroundB k i b) t1 kids1 A1 c1 Y (by omega) (wid_suf hN hsuf) (hK1.below hY) (hJ _ _ (hJ _ _ hJW hX) hY) (by omega) (by omega) (by rw [← around_add]; exact closedL_suf hcl hsuf)

set_option maxHeartbeats 8000000 in
set_option maxRecDepth 100000 in
theorem replace_ins {p : Nat} {J : World → Prop} {G : Int → Option Tm} {sh : Int → Int} {V : Int} (hJ : ∀ X Y, J X → BH X Y → J Y) (hG : ∀ f x, G f = some x → fsize x.kids ≤ 1099511627776) (hCh : ChT 105 p J G sh) (hV0 : 0 ≤ V) (hV1 : V ≤ 1152921504606846976)
    (M : Nat) (hR : RFT_ins p J G sh V M) : RFT_ins p J G sh V (M + 1) := by
  intro k o b t kids A c w hM hN hK hJw hb0 hb1 hcl
  have HR := Lib.hid hR
  have HK := Lib.hid hK
  have HJ := Lib.hid hJ
  have HJw := Lib.hid hJw
  have HCl := Lib.hid hcl
  have HCh := Lib.hid hCh
  have HG := Lib.hid hG
  have hll := len_le_fsize kids
  clear hR hK hJ hJw hcl hCh hG
  go_enter Tryz.func104, Tryz.ntmps104
  go_wp2_with (fail)
  have f1 := bh_alloc (BH.refl w) (.cells #[.int .i64 k, .string ⟨t.toArray⟩, .int .i64 o, .slice A kids.len c] 34)
  have g1 := heap_alloc_new w (.cells #[.int .i64 k, .string ⟨t.toArray⟩, .int .i64 o, .slice A kids.len c] 34)
  generalize hW1 : w.alloc (.cells #[.int .i64 k, .string ⟨t.toArray⟩, .int .i64 o, .slice A kids.len c] 34) = W1 at *
  have z1 : W1.heap.size = w.heap.size + 1 := by rw [← hW1]; simp
  have f2 := bh_alloc (BH.refl W1) (.cells #[.int .i64 b] 3)
  have g2 := heap_alloc_new W1 (.cells #[.int .i64 b] 3)
  generalize hW2 : W1.alloc (.cells #[.int .i64 b] 3) = W2 at *
  have z2 : W2.heap.size = w.heap.size + 2 := by rw [← hW2]; simp [z1]
  have f3 := bh_alloc (BH.refl W2) (.cells #[.func (.func 105) #[] #[.pointer (some ⟨p, 0, none⟩)]] 134)
  have g3 := heap_alloc_new W2 (.cells #[.func (.func 105) #[] #[.pointer (some ⟨p, 0, none⟩)]] 134)
  generalize hW3 : W2.alloc (.cells #[.func (.func 105) #[] #[.pointer (some ⟨p, 0, none⟩)]] 134) = W3 at *
  have z3 : W3.heap.size = w.heap.size + 3 := by rw [← hW3]; simp [z2]
  have f4 := bh_alloc (BH.refl W3) (.cells #[.int .i64 0, .string ⟨#[]⟩, .int .i64 0, .slice none 0 0] 34)
  have g4 := heap_alloc_new W3 (.cells #[.int .i64 0, .string ⟨#[]⟩, .int .i64 0, .slice none 0 0] 34)
  rw [z1] at g2
  rw [z2] at g3
  rw [z3] at g4
  generalize hW4 : W3.alloc (.cells #[.int .i64 0, .string ⟨#[]⟩, .int .i64 0, .slice none 0 0] 34) = W4 at *
  have hq : ∀ X, BH W4 X → X.heap[w.heap.size]? = some (.cells #[.int .i64 k, .string ⟨t.toArray⟩, .int .i64 o, .slice A kids.len c] 34 (0, 0)) ∧ X.heap[w.heap.size + 1]? = some (.cells #[.int .i64 b] 3 (0, 0)) ∧
      X.heap[w.heap.size + 2]? = some (.cells #[.func (.func 105) #[] #[.pointer (some ⟨p, 0, none⟩)]] 134 (0, 0)) ∧ X.heap[w.heap.size + 3]? = some (.cells #[.int .i64 0, .string ⟨#[]⟩, .int .i64 0, .slice none 0 0] 34 (0, 0)) ∧ BH w X := by
    intro X hX
    have h34 := BH.trans f4 hX
    have h234 := BH.trans f3 h34
    have h1234 := BH.trans f2 h234
    exact ⟨(Below.block h1234 _ (heap_lt g1)).trans g1, (Below.block h234 _ (heap_lt g2)).trans g2, (Below.block h34 _ (heap_lt g3)).trans g3, (Below.block hX _ (heap_lt g4)).trans g4, BH.trans f1 h1234⟩
  have hs4 : W4.heap.size = w.heap.size + 4 := by rw [← hW4]; simp [z3]
  have HQ := Lib.hid hq
  have HS4 := Lib.hid hs4
  -- the answer through the result's box
  have hfin : ∀ (x : Tm) (A2 : Option Addr) (c2 B : Nat) (Y : World), w.heap.size + 4 ≤ B → BH w Y → KS Y (fun y => NS y ∨ B ≤ y) x.kids A2 c2 →
      SbP w NS x (.returned (.agg #[.int .i64 x.k, .string ⟨x.t.toArray⟩, .int .i64 x.o, .slice A2 x.kids.len c2])) ((((Y.setCell ⟨w.heap.size + 3, 0, none⟩ (.int .i64 x.k)).setCell ⟨w.heap.size + 3, 1, none⟩ (.string ⟨x.t.toArray⟩)).setCell ⟨w.heap.size + 3, 2, none⟩ (.int .i64 x.o)).setCell ⟨w.heap.size + 3, 3, none⟩ (.slice A2 x.kids.len c2)) := by
    intro x A2 c2 B Y hB hY hk
    exact SbP.box (x := x) (N := w.heap.size + 3) (fun y hy => hy.elim) (by omega) hY (hk.keep (Nat.le_refl _) fun y hy _ => ⟨rfl, hy.elim (fun h => h.elim) fun h => ⟨.inr (by omega), by omega⟩⟩)
  have HFin := Lib.hid hfin
  clear f1 g1 hW1 z1 f2 g2 hW2 z2 f3 g3 hW3 z3 f4 g4 hW4 hq hs4 hfin W1 W2 W3
  cases hfr : freeB k o b with
  | false =>
    refine (isFree_any k o b t A kids.len c W4 hfr).mono ?_
    rintro e w1 ⟨rfl, hb⟩
    obtain ⟨e1, e2, e3, e4, hbw⟩ := HQ.out w1 hb
    have HEq := Lib.hid (rep1_bound (G := G) (sh := sh) (t := t) (kids := kids) hfr)
    obtain ⟨b0, b1, b2, b3, y0, y1, y2, y3⟩ := row4 e1
    have hA := repargs_ins (A := A) (c := c) HJ.out HR.out k o b t kids w.heap.size (w.heap.size + 1) (w.heap.size + 2) w1 hM hN (HK.out.below hbw) (HJ.out _ _ HJw.out hbw) hb0 hb1 (closed_kids HCl.out) e1 e2 e3
    have HA := Lib.hid hA
    have HB := Lib.hid hb
    clear hA hb hbw e1 e2 e3 e4 hfr
    go_wp2_with (fail)
    refine HA.out.mono ?_
    rintro e w2 ⟨A2, c2, rfl, u1, u2⟩
    have HN2 := Lib.hid (HQ.out w2 (BH.trans HB.out u2)).2.2.2.1
    have HF := Lib.hid (HFin.out ⟨k, t, repL G sh k 0 b kids, o⟩ A2 c2 _ w2 (by have := Below.size HB.out; have := HS4.out; omega) (HQ.out w2 (BH.trans HB.out u2)).2.2.2.2 u1)
    clear u1 u2 b0 b1 b2 b3 y0 y1 y2 y3
    obtain ⟨b0, b1, b2, b3, y0, y1, y2, y3⟩ := row4 HN2.out
    go_wp2_with (fail)
    obtain ⟨m0, m1, m2, m3, _⟩ := row4 (s4 HN2.out (.int .i64 k) (.string ⟨t.toArray⟩) (.int .i64 o) (.slice A2 (repL G sh k 0 b kids).len c2))
    exact bodyPost_ret (v := .agg #[.int .i64 k, .string ⟨t.toArray⟩, .int .i64 o, .slice A2 (repL G sh k 0 b kids).len c2]) (by simp [results, Tryz.results104, go_sem, m0, m1, m2, m3]) rfl (by rw [HEq.out]; exact HF.out)
  | true =>
    obtain ⟨rfl, hbo, hov⟩ := free_in HCl.out hfr
    refine (isFree_any 5 o b t A kids.len c W4 hfr).mono ?_
    rintro e w1 ⟨rfl, hb⟩
    obtain ⟨e1, e2, e3, e4, hbw⟩ := HQ.out w1 hb
    obtain ⟨b0, b1, b2, b3, y0, y1, y2, y3⟩ := row4 e1
    obtain ⟨j2, _⟩ := row1 e2
    obtain ⟨j3, _⟩ := row1 e3
    have hchoice := HCh.out w1 5 o (o - b) t kids.len A c (HJ.out _ _ HJw.out hbw) (by omega) (by omega) (by omega)
    have HB := Lib.hid hb
    clear hb hbw e1 e2 e3 e4
    cases hGv : G (o - b) with
    | some x =>
      obtain ⟨xk, xt, xkids, xo⟩ := x
      have HC := Lib.hid (hchoice.1 _ hGv)
      have HGx := Lib.hid (HG.out _ _ hGv)
      have HEq := Lib.hid (rep1_some (G := G) (sh := sh) (t := t) (kids := kids) hfr hGv)
      clear hchoice hGv hfr
      go_wp2_with (fail)
      refine HC.out.mono ?_
      rintro e w2 ⟨A1, c1, rfl, hk1, hb2⟩
      have HK1 := Lib.hid hk1
      have HB2 := Lib.hid (BH.trans HB.out hb2)
      clear hk1 hb2 b0 b1 b2 b3 y0 y1 y2 y3 j2 j3
      go_wp2_with (fail)
      have hX := bh_alloc (BH.refl w2) (.cells #[.int .i64 xk, .string ⟨xt.toArray⟩, .int .i64 xo, .slice A1 xkids.len c1] 34)
      refine (copy_any NS _ xk xo xt xkids A1 c1 _ (Nat.le_refl _) HGx.out (HK1.out.below hX) (fun y hy => hy.elim)).mono ?_
      rintro e w3 ⟨A3, c3, rfl, v1, v2⟩
      have HN2 := Lib.hid (HQ.out w3 (BH.trans HB2.out (BH.trans hX v2))).2.2.2.1
      have HF := Lib.hid (HFin.out ⟨xk, xt, xkids, xo⟩ A3 c3 _ w3 (by have := Below.size HB2.out; have := HS4.out; simp; omega) (HQ.out w3 (BH.trans HB2.out (BH.trans hX v2))).2.2.2.2 v1)
      clear hX v1 v2
      obtain ⟨b0, b1, b2, b3, y0, y1, y2, y3⟩ := row4 HN2.out
      go_wp2_with (fail)
      obtain ⟨m0, m1, m2, m3, _⟩ := row4 (s4 HN2.out (.int .i64 xk) (.string ⟨xt.toArray⟩) (.int .i64 xo) (.slice A3 xkids.len c3))
      exact bodyPost_ret (v := .agg #[.int .i64 xk, .string ⟨xt.toArray⟩, .int .i64 xo, .slice A3 xkids.len c3]) (by simp [results, Tryz.results104, go_sem, m0, m1, m2, m3]) rfl (by rw [HEq.out]; exact HF.out)
    | none =>
      have HC := Lib.hid (hchoice.2 hGv)
      have hEq := rep1_none (G := G) (sh := sh) (t := t) (kids := kids) hfr hGv
      obtain ⟨q, hq⟩ : ∃ q, sh o = q := ⟨_, rfl⟩
      rw [hq] at HC hEq
      have HEq := Lib.hid hEq
      clear hchoice hGv hfr hq hEq
      go_wp2_with (fail)
      refine HC.out.mono ?_
      rintro e w2 ⟨rfl, hb2⟩
      have HB2 := Lib.hid (BH.trans HB.out hb2)
      obtain ⟨e1, e2, e3, e4, hbw⟩ := HQ.out w2 HB2.out
      clear hb2 b0 b1 b2 b3 y0 y1 y2 y3 j2 j3
      have E1 := Lib.hid e1
      obtain ⟨b0, b1, b2, b3, y0, y1, y2, y3⟩ := row4 e1
      have HX := Lib.hid (bh_alloc (BH.refl w2) (.cells #[.int .i64 5, .string ⟨t.toArray⟩, .int .i64 q, .slice A kids.len c] 34))
      have HE := Lib.hid (And.intro e2 (And.intro e3 (And.intro e4 hbw)))
      clear e1 e2 e3 e4 hbw
      obtain ⟨x0, x1, x2, x3, z0, z1, z2, z3⟩ := row4 ((Below.block HX.out _ (heap_lt E1.out)).trans E1.out)
      go_wp2_with (fail)
      have hX1 := (Below.block HX.out _ (heap_lt E1.out)).trans E1.out
      obtain ⟨e2, e3, e4, hbw⟩ := HE.out
      have hX2 := (Below.block HX.out _ (heap_lt e2)).trans e2
      have hX3 := (Below.block HX.out _ (heap_lt e3)).trans e3
      have hX4 := (Below.block HX.out _ (heap_lt e4)).trans e4
      have hbX := BH.trans hbw HX.out
      have hsX : w.heap.size + 4 ≤ (w2.alloc (.cells #[.int .i64 5, .string ⟨t.toArray⟩, .int .i64 q, .slice A kids.len c] 34)).heap.size := by have h1 := Below.size HB2.out; have h2 := HS4.out; simp; omega
      obtain ⟨X, hXX⟩ : ∃ X, w2.alloc (.cells #[.int .i64 5, .string ⟨t.toArray⟩, .int .i64 q, .slice A kids.len c] 34) = X := ⟨_, rfl⟩
      rw [hXX] at hX1 hX2 hX3 hX4 hbX hsX ⊢
      have y1 := s4 hX1 (.int .i64 5) (.string ⟨t.toArray⟩) (.int .i64 q) (.slice A kids.len c)
      have y2 := (s4_far (show w.heap.size + 1 ≠ w.heap.size by omega) (.int .i64 5) (.string ⟨t.toArray⟩) (.int .i64 q) (.slice A kids.len c)).trans hX2
      have y3 := (s4_far (show w.heap.size + 2 ≠ w.heap.size by omega) (.int .i64 5) (.string ⟨t.toArray⟩) (.int .i64 q) (.slice A kids.len c)).trans hX3
      have y4 := (s4_far (show w.heap.size + 3 ≠ w.heap.size by omega) (.int .i64 5) (.string ⟨t.toArray⟩) (.int .i64 q) (.slice A kids.len c)).trans hX4
      have hY := below_gb_of (BH.refl w) (s4_gb (gb_below hbX (some w.heap.size)) (Nat.le_refl _) (.int .i64 5) (.string ⟨t.toArray⟩) (.int .i64 q) (.slice A kids.len c)) (Nat.le_refl _)
      have hsY : w.heap.size + 4 ≤ ((((X.setCell ⟨w.heap.size, 0, none⟩ (.int .i64 5)).setCell ⟨w.heap.size, 1, none⟩ (.string ⟨t.toArray⟩)).setCell ⟨w.heap.size, 2, none⟩ (.int .i64 q)).setCell ⟨w.heap.size, 3, none⟩ (.slice A kids.len c)).heap.size := by simp [size_set]; omega
      obtain ⟨Y, hYY⟩ : ∃ Y, (((X.setCell ⟨w.heap.size, 0, none⟩ (.int .i64 5)).setCell ⟨w.heap.size, 1, none⟩ (.string ⟨t.toArray⟩)).setCell ⟨w.heap.size, 2, none⟩ (.int .i64 q)).setCell ⟨w.heap.size, 3, none⟩ (.slice A kids.len c) = Y := ⟨_, rfl⟩
      rw [hYY] at y1 y2 y3 y4 hY hsY ⊢
      have hY' : BH w Y := hY
      refine (repargs_ins (A := A) (c := c) HJ.out HR.out 5 q b t kids w.heap.size (w.heap.size + 1) (w.heap.size + 2) Y hM hN (HK.out.below hY') (HJ.out _ _ HJw.out hY') hb0 hb1 (closed_kids HCl.out) y1 y2 y3).mono ?_
      rintro e w3 ⟨A2, c2, rfl, u1, u2⟩
      have HN2 := Lib.hid ((Below.block u2 _ (heap_lt y4)).trans y4)
      have HF := Lib.hid (HFin.out ⟨5, t, repL G sh 5 0 b kids, q⟩ A2 c2 _ w3 hsY (BH.trans hY' u2) u1)
      clear u1 u2 b0 b1 b2 b3 x0 x1 x2 x3 z0 z1 z2 z3 hX1 hX2 hX3 hX4 hbX hsX hXX y1 y2 y3 y4 hY hY' hsY hYY e2 e3 e4 hbw
      obtain ⟨b0, b1, b2, b3, y0, y1, y2, y3⟩ := row4 HN2.out
      go_wp2_with (fail)
      obtain ⟨m0, m1, m2, m3, _⟩ := row4 (s4 HN2.out (.int .i64 5) (.string ⟨t.toArray⟩) (.int .i64 q) (.slice A2 (repL G sh 5 0 b kids).len c2))
      exact bodyPost_ret (v := .agg #[.int .i64 5, .string ⟨t.toArray⟩, .int .i64 q, .slice A2 (repL G sh 5 0 b kids).len c2]) (by simp [results, Tryz.results104, go_sem, m0, m1, m2, m3]) rfl (by rw [HEq.out]; exact HF.out)

theorem replaceFree_ins {p : Nat} {J : World → Prop} {G : Int → Option Tm} {sh : Int → Int} {V : Int} (hJ : ∀ X Y, J X → BH X Y → J Y) (hG : ∀ f x, G f = some x → fsize x.kids ≤ 1099511627776) (hCh : ChT 105 p J G sh) (hV0 : 0 ≤ V) (hV1 : V ≤ 1152921504606846976) : ∀ M, RFT_ins p J G sh V M := by
  intro M
  induction M with
  | zero => intro k o b t kids A c w hM; exact absurd hM (Nat.not_lt_zero _)
  | succ M ih => exact replace_ins hJ hG hCh hV0 hV1 M ih
set_option maxHeartbeats 4000000 in
theorem cho_ins (p : Nat) (L : Fo) (A : Option Addr) (c : Nat) (hL : L.len ≤ 1099511627776) : ChT 105 p (JI p L A c) (Gi L) shi := by
  intro X k o f t n A' c' hJ hf0 hfo ho
  obtain ⟨hp, hk⟩ := hJ
  have HK := Lib.hid hk
  have HP := Lib.hid hp
  have f1 := bh_alloc (BH.refl X) (.cells #[.int .i64 k, .string ⟨t.toArray⟩, .int .i64 o, .slice A' n c'] 34)
  have F1 := Lib.hid f1
  have F2 := Lib.hid (bh_alloc f1 (.cells #[.int .i64 0, .string ⟨#[]⟩, .int .i64 0, .slice none 0 0] 34))
  obtain ⟨a0, _⟩ := row1 ((Below.block f1 _ (heap_lt HP.out)).trans HP.out)
  obtain ⟨b0, _⟩ := row1 ((Below.block F2.out _ (heap_lt HP.out)).trans HP.out)
  obtain ⟨i, rfl⟩ : ∃ i : Nat, f = (i : Int) := ⟨f.toNat, by omega⟩
  clear hk hp f1
  obtain ⟨N, hN⟩ : ∃ N, L.len = N := ⟨_, rfl⟩
  have HN := Lib.hid hN
  rw [hN] at a0 b0 hL
  clear hN
  refine ⟨fun y hy => ?_, fun hn => ?_⟩
  · have hy' : nthF L i = some y := by simpa [Gi] using hy
    have hlt := nthF_lt L i y hy'
    obtain ⟨r, hsuf⟩ := nthF_suf L i y hy'
    obtain ⟨yk, yt, ykids, yo⟩ := y
    obtain ⟨g, off, A1, c1, rfl, hgl, q0, q1, q2, q3, hk1⟩ := HK.out.get hsuf F1.out
    obtain ⟨g', off', A1', c1', e', _, p0, p1, p2, p3, hk2⟩ := HK.out.get hsuf F2.out
    cases e'
    rw [HN.out] at hlt
    have t1 : decide ((i : Int) < (N : Int)) = true := by rw [decide_eq_true_eq]; omega
    have hi0 : (0 : Int) ≤ (i : Int) := by omega
    have hiN : (i : Int) < (N : Int) := by omega
    have f2 := bh_alloc F1.out (.cells #[.int .i64 yk, .string ⟨yt.toArray⟩, .int .i64 yo, .slice A1' ykids.len c1'] 34)
    have HF := Lib.hid f2
    have HK1 := Lib.hid hk2
    clear f2 hy hy' hsuf hk1 hk2
    go_enter Tryz.func105, Tryz.ntmps105
    go_wp2_with (fail)
    obtain ⟨m0, m1, m2, m3, _⟩ := row4 (heap_alloc_new (X.alloc (.cells #[.int .i64 k, .string ⟨t.toArray⟩, .int .i64 o, .slice A' n c'] 34)) (.cells #[.int .i64 yk, .string ⟨yt.toArray⟩, .int .i64 yo, .slice A1' ykids.len c1'] 34))
    rw [World.size_alloc] at m0 m1 m2 m3
    exact bodyPost_ret (v := .tuple #[.agg #[.int .i64 yk, .string ⟨yt.toArray⟩, .int .i64 yo, .slice A1' ykids.len c1'], .bool true]) (by simp [results, Tryz.results105, go_sem, m0, m1, m2, m3]) rfl ⟨_, _, rfl, HK1.out.below HF.out, HF.out⟩
  · have hn' : nthF L i = none := by simpa [Gi] using hn
    have hge := nthF_none L i hn'
    rw [HN.out] at hge
    have t1 : decide ((i : Int) < (N : Int)) = false := by rw [decide_eq_false_iff_not]; omega
    have t2 : decide (i < N) = false := by rw [decide_eq_false_iff_not]; omega
    have f2 := bh_alloc F1.out (.cells #[.int .i64 k, .string ⟨t.toArray⟩, .int .i64 o, .slice A' n c'] 34)
    have HF := Lib.hid f2
    clear hn hn' f2
    go_enter Tryz.func105, Tryz.ntmps105
    go_wp2_with (fail)
    obtain ⟨m0, m1, m2, m3, _⟩ := row4 (heap_alloc_new (X.alloc (.cells #[.int .i64 k, .string ⟨t.toArray⟩, .int .i64 o, .slice A' n c'] 34)) (.cells #[.int .i64 k, .string ⟨t.toArray⟩, .int .i64 o, .slice A' n c'] 34))
    rw [World.size_alloc] at m0 m1 m2 m3
    exact bodyPost_ret (v := .tuple #[.agg #[.int .i64 k, .string ⟨t.toArray⟩, .int .i64 o, .slice A' n c'], .bool false]) (by simp [results, Tryz.results105, go_sem, m0, m1, m2, m3]) rfl ⟨rfl, HF.out⟩

set_option maxHeartbeats 2000000 in
theorem instantiate_any (V : Int) (k o : Int) (t : List UInt8) (kids : Fo) (A : Option Addr) (c : Nat) (x : Fo) (A' : Option Addr) (c' : Nat) (w : World) (hV0 : 0 ≤ V) (hV1 : V ≤ 1152921504606846976) (hN : fsize kids ≤ 1152921504606846976) (hW : wid kids) (hNx : fsize x ≤ 1099511627776) (hK : KT w kids A c) (hX : KT w x A' c') (hcl : closed1 k o kids V = true) :
    Calls Tryz.prog 70 #[.agg #[.int .i64 k, .string ⟨t.toArray⟩, .int .i64 o, .slice A kids.len c], .slice A' x.len c'] w (SbP w NS (rep1 (Gi x) shi k t o kids 0)) := by
  have f1 := bh_alloc (BH.refl w) (.cells #[.int .i64 k, .string ⟨t.toArray⟩, .int .i64 o, .slice A kids.len c] 34)
  have f2 := bh_alloc f1 (.cells #[.slice A' x.len c'] 32)
  have g2 := heap_alloc_new (w.alloc (.cells #[.int .i64 k, .string ⟨t.toArray⟩, .int .i64 o, .slice A kids.len c] 34)) (.cells #[.slice A' x.len c'] 32)
  have f3 := bh_alloc f2 (.cells #[.int .i64 0, .string ⟨#[]⟩, .int .i64 0, .slice none 0 0] 34)
  have g3 := heap_alloc_new ((w.alloc (.cells #[.int .i64 k, .string ⟨t.toArray⟩, .int .i64 o, .slice A kids.len c] 34)).alloc (.cells #[.slice A' x.len c'] 32)) (.cells #[.int .i64 0, .string ⟨#[]⟩, .int .i64 0, .slice none 0 0] 34)
  have g2' := (Below.heap_alloc _ (.cells #[.int .i64 0, .string ⟨#[]⟩, .int .i64 0, .slice none 0 0] 34) _ (heap_lt g2)).trans g2
  rw [World.size_alloc] at g2'
  rw [World.size_alloc, World.size_alloc] at g3
  have hJ : JI (w.heap.size + 1) x A' c' _ := ⟨g2', hX.below f3⟩
  have hR := replaceFree_ins (p := w.heap.size + 1) (V := V) JI.bh (fun f y hy => by have := nthF_size x _ y hy; omega) (cho_ins (w.heap.size + 1) x A' c' (by have := len_le_fsize x; omega)) hV0 hV1 (fsize kids + 1) k o 0 t kids A c _ (by omega) hW (hK.below f3) hJ (Int.le_refl 0) (by omega) (by simpa using hcl)
  obtain ⟨y, hy⟩ : ∃ y, rep1 (Gi x) shi k t o kids 0 = y := ⟨_, rfl⟩
  rw [hy] at hR ⊢
  have HR := Lib.hid hR
  have HE := Lib.hid g3
  have HF := Lib.hid f3
  clear f1 f2 g2 f3 g3 g2' hJ hR hK hX hy
  go_enter Tryz.func70, Tryz.ntmps70
  go_wp2_with (fail)
  refine HR.out.mono ?_
  rintro e w2 ⟨A2, c2, rfl, u1, u2⟩
  have HN2 := Lib.hid ((Below.block u2 (w.heap.size + 1 + 1) (by simp)).trans HE.out)
  have HFin := Lib.hid (SbP.box (x := y) (N := w.heap.size + 1 + 1) (S := NS) (w := w) (fun y hy => hy.elim) (by omega) (BH.trans HF.out u2) (u1.keep (S' := fun y => (NS y ∨ w.heap.size ≤ y) ∧ y ≠ w.heap.size + 1 + 1) (Nat.le_refl _) fun y hy _ => ⟨rfl, hy.elim (fun h => h.elim) fun h => ⟨.inr (by simp at h; omega), by simp at h; omega⟩⟩))
  clear u1 u2
  obtain ⟨b0, b1, b2, b3, y0, y1, y2, y3⟩ := row4 HN2.out
  go_wp2_with (fail)
  obtain ⟨m0, m1, m2, m3, _⟩ := row4 (s4 HN2.out (.int .i64 y.k) (.string ⟨y.t.toArray⟩) (.int .i64 y.o) (.slice A2 y.kids.len c2))
  exact bodyPost_ret (v := .agg #[.int .i64 y.k, .string ⟨y.t.toArray⟩, .int .i64 y.o, .slice A2 y.kids.len c2]) (by simp [results, Tryz.results70, go_sem, m0, m1, m2, m3]) rfl HFin.out
end Go.Proofs.YtpkiheenkpcebaaGreatDoor
