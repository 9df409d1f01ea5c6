/- typeterm.Substitute. No condition but bounded sizes. -/
import Derived.Test.YtddfpbcdopcdhaaSbA
set_option linter.unusedVariables false
set_option linter.unusedSimpArgs false
namespace Go.Proofs.Ytddfpbcdopcdhaa
open Go.RowKit Sx

/-- no block -/
def NS : Nat → Prop := fun _ => False
/-- what the closure 'choose' (function F, what it captured in block p) answers for the free variable f -/
def ChT (F : Nat) (p : Nat) (J : World → Prop) (G : Int → Option Tm) (sh : Int → Int) : Prop :=
  ∀ (X : World) (k o f : Int) (t : List UInt8) (n : Nat) (A : Option Addr) (c : Nat), J X → 0 ≤ f → f ≤ o → o ≤ 2305843009213693952 →
    (∀ x, G f = some x → Calls Try.prog F #[.agg #[.int .i64 k, .string ⟨t.toArray⟩, .int .i64 o, .slice A n c], .int .i64 f, .pointer (some ⟨p, 0, none⟩)] X fun e u =>
      ∃ A' c', e = .returned (.tuple #[.agg #[.int .i64 x.k, .string ⟨x.t.toArray⟩, .int .i64 x.o, .slice A' x.kids.len c'], .bool true]) ∧ KT u x.kids A' c' ∧ BH X u) ∧
    (G f = none → Calls Try.prog F #[.agg #[.int .i64 k, .string ⟨t.toArray⟩, .int .i64 o, .slice A n c], .int .i64 f, .pointer (some ⟨p, 0, none⟩)] X fun e u =>
      e = .returned (.tuple #[.agg #[.int .i64 k, .string ⟨t.toArray⟩, .int .i64 (sh o), .slice A n c], .bool false]) ∧ BH X u)
theorem s4_keep10 {w : World} {N a b1 b2 b3 : Nat} {v0 v1 v2 v3 v4 v5 v6 v7 v8 v9 : Value} (p q r s : Value) (ha : a ≠ N) (h1 : ¬ b1 = N) (h2 : ¬ b2 = N) (h3 : ¬ b3 = N)
    (h : w.cell? ⟨a, 0, none⟩ = some v0 ∧ w.cell? ⟨a, 1, none⟩ = some v1 ∧ w.cell? ⟨a, 2, none⟩ = some v2 ∧ w.cell? ⟨a, 3, none⟩ = some v3 ∧ w.cell? ⟨b1, 0, none⟩ = some v4 ∧ w.cell? ⟨b1, 1, none⟩ = some v5 ∧ w.cell? ⟨b1, 2, none⟩ = some v6 ∧ w.cell? ⟨b1, 3, none⟩ = some v7 ∧ w.cell? ⟨b2, 0, none⟩ = some v8 ∧ w.cell? ⟨b3, 0, none⟩ = some v9) :
    ((((w.setCell ⟨N, 0, none⟩ p).setCell ⟨N, 1, none⟩ q).setCell ⟨N, 2, none⟩ r).setCell ⟨N, 3, none⟩ s).cell? ⟨a, 0, none⟩ = some v0 ∧ ((((w.setCell ⟨N, 0, none⟩ p).setCell ⟨N, 1, none⟩ q).setCell ⟨N, 2, none⟩ r).setCell ⟨N, 3, none⟩ s).cell? ⟨a, 1, none⟩ = some v1 ∧
    ((((w.setCell ⟨N, 0, none⟩ p).setCell ⟨N, 1, none⟩ q).setCell ⟨N, 2, none⟩ r).setCell ⟨N, 3, none⟩ s).cell? ⟨a, 2, none⟩ = some v2 ∧ ((((w.setCell ⟨N, 0, none⟩ p).setCell ⟨N, 1, none⟩ q).setCell ⟨N, 2, none⟩ r).setCell ⟨N, 3, none⟩ s).cell? ⟨a, 3, none⟩ = some v3 ∧
    ((((w.setCell ⟨N, 0, none⟩ p).setCell ⟨N, 1, none⟩ q).setCell ⟨N, 2, none⟩ r).setCell ⟨N, 3, none⟩ s).cell? ⟨b1, 0, none⟩ = some v4 ∧ ((((w.setCell ⟨N, 0, none⟩ p).setCell ⟨N, 1, none⟩ q).setCell ⟨N, 2, none⟩ r).setCell ⟨N, 3, none⟩ s).cell? ⟨b1, 1, none⟩ = some v5 ∧
    ((((w.setCell ⟨N, 0, none⟩ p).setCell ⟨N, 1, none⟩ q).setCell ⟨N, 2, none⟩ r).setCell ⟨N, 3, none⟩ s).cell? ⟨b1, 2, none⟩ = some v6 ∧ ((((w.setCell ⟨N, 0, none⟩ p).setCell ⟨N, 1, none⟩ q).setCell ⟨N, 2, none⟩ r).setCell ⟨N, 3, none⟩ s).cell? ⟨b1, 3, none⟩ = some v7 ∧
    ((((w.setCell ⟨N, 0, none⟩ p).setCell ⟨N, 1, none⟩ q).setCell ⟨N, 2, none⟩ r).setCell ⟨N, 3, none⟩ s).cell? ⟨b2, 0, none⟩ = some v8 ∧ ((((w.setCell ⟨N, 0, none⟩ p).setCell ⟨N, 1, none⟩ q).setCell ⟨N, 2, none⟩ r).setCell ⟨N, 3, none⟩ s).cell? ⟨b3, 0, none⟩ = some v9 := by
  obtain ⟨c0, c1, c2, c3, c4, c5, c6, c7, c8, c9⟩ := h
  have f : ∀ x j, x ≠ N → ((((w.setCell ⟨N, 0, none⟩ p).setCell ⟨N, 1, none⟩ q).setCell ⟨N, 2, none⟩ r).setCell ⟨N, 3, none⟩ s).cell? ⟨x, j, none⟩ = w.cell? ⟨x, j, none⟩ := fun x j hx => World.cell?_of_block (a := ⟨x, j, none⟩) (s4_far hx p q r s)
  exact ⟨(f _ _ ha).trans c0, (f _ _ ha).trans c1, (f _ _ ha).trans c2, (f _ _ ha).trans c3, (f _ _ h1).trans c4, (f _ _ h1).trans c5, (f _ _ h1).trans c6, (f _ _ h1).trans c7, (f _ _ h2).trans c8, (f _ _ h3).trans c9⟩

set_option maxHeartbeats 8000000 in
set_option maxRecDepth 100000 in
theorem repc_sub (i L L1 : Nat) (k o k1 o1 b : Int) (t t1 : List UInt8) (A A1 : Option Addr) (c c1 p p1 p2 p3 : Nat) (X : World) (x : Tm) (hb0 : 0 ≤ b) (hb1 : b ≤ 1152921504606846976)
    (h1 : X.heap[p1]? = some (.cells #[.int .i64 k, .string ⟨t.toArray⟩, .int .i64 o, .slice A L c] 24 (0, 0))) (h2 : X.heap[p2]? = some (.cells #[.int .i64 b] 3 (0, 0))) (h3 : X.heap[p3]? = some (.cells #[.func (.func 18) #[] #[.pointer (some ⟨p, 0, none⟩)]] 37 (0, 0)))
    (hC : ∀ Y, BH X Y → Calls Try.prog 17 #[.agg #[.int .i64 k1, .string ⟨t1.toArray⟩, .int .i64 o1, .slice A1 L1 c1], .int .i64 (aroundB k i b), .func (.func 18) #[] #[.pointer (some ⟨p, 0, none⟩)]] Y (SbP Y NS x)) :
    Calls Try.prog 32 #[.int .i64 (i : Int), .agg #[.int .i64 k1, .string ⟨t1.toArray⟩, .int .i64 o1, .slice A1 L1 c1], .pointer (some ⟨p1, 0, none⟩), .pointer (some ⟨p2, 0, none⟩), .pointer (some ⟨p3, 0, none⟩)] X (SbP X NS x) := by
  have f1 := bh_alloc (BH.refl X) (.cells #[.int .i64 k1, .string ⟨t1.toArray⟩, .int .i64 o1, .slice A1 L1 c1] 24)
  have g1 := heap_alloc_new X (.cells #[.int .i64 k1, .string ⟨t1.toArray⟩, .int .i64 o1, .slice A1 L1 c1] 24)
  have f2 := bh_alloc f1 (.cells #[.int .i64 0, .string ⟨#[]⟩, .int .i64 0, .slice none 0 0] 24)
  have g2 := heap_alloc_new (X.alloc (.cells #[.int .i64 k1, .string ⟨t1.toArray⟩, .int .i64 o1, .slice A1 L1 c1] 24)) (.cells #[.int .i64 0, .string ⟨#[]⟩, .int .i64 0, .slice none 0 0] 24)
  rw [World.size_alloc] at g2
  have g1' := (Below.heap_alloc (X.alloc (.cells #[.int .i64 k1, .string ⟨t1.toArray⟩, .int .i64 o1, .slice A1 L1 c1] 24)) (.cells #[.int .i64 0, .string ⟨#[]⟩, .int .i64 0, .slice none 0 0] 24) _ (by simp)).trans g1
  have HC := Lib.hid hC
  have HQ := Lib.hid (And.intro g1' (And.intro g2 f2))
  have H1 := Lib.hid h1
  have H2 := Lib.hid h2
  have H3 := Lib.hid h3
  clear f1 g1 f2 g2 g1' hC h1 h2 h3
  go_enter Try.func32, Try.ntmps32
  go_wp2_with (fail)
  refine gen_wp _ (fun Y => Y.heap[X.heap.size]? = some (.cells #[.int .i64 k1, .string ⟨t1.toArray⟩, .int .i64 o1, .slice A1 L1 c1] 24 (0, 0)) ∧ Y.heap[X.heap.size + 1]? = some (.cells #[.int .i64 0, .string ⟨#[]⟩, .int .i64 0, .slice none 0 0] 24 (0, 0)) ∧ BH X Y) HQ.out ?_
  rintro W5 ⟨hN1, hN2, hP5⟩
  obtain ⟨g5, hg5⟩ : ∃ g5, X.heap.size = g5 := ⟨_, rfl⟩
  have HG5 := Lib.hid hg5
  rw [hg5] at hN1 hN2 ⊢
  obtain ⟨d0, d1, d2, d3, _⟩ := row4 hN1
  obtain ⟨a0, a1, a2, a3, _⟩ := row4 ((Below.block hP5 _ (heap_lt H1.out)).trans H1.out)
  obtain ⟨j2, _⟩ := row1 ((Below.block hP5 _ (heap_lt H2.out)).trans H2.out)
  obtain ⟨j3, _⟩ := row1 ((Below.block hP5 _ (heap_lt H3.out)).trans H3.out)
  have hl1 := heap_lt H1.out
  have hl2 := heap_lt H2.out
  have hl3 := heap_lt H3.out
  have r1 : ¬ p1 = g5 + 1 := by omega
  have r2 : ¬ p2 = g5 + 1 := by omega
  have r3 : ¬ p3 = g5 + 1 := by omega
  have HN2 := Lib.hid hN2
  have HP5 := Lib.hid hP5
  have KSs : ∀ Y, BH W5 Y → Y.cell? ⟨g5, 0, none⟩ = some (.int .i64 k1) ∧ Y.cell? ⟨g5, 1, none⟩ = some (.string ⟨t1.toArray⟩) ∧ Y.cell? ⟨g5, 2, none⟩ = some (.int .i64 o1) ∧ Y.cell? ⟨g5, 3, none⟩ = some (.slice A1 L1 c1) ∧
      Y.cell? ⟨p1, 0, none⟩ = some (.int .i64 k) ∧ Y.cell? ⟨p1, 1, none⟩ = some (.string ⟨t.toArray⟩) ∧ Y.cell? ⟨p1, 2, none⟩ = some (.int .i64 o) ∧ Y.cell? ⟨p1, 3, none⟩ = some (.slice A L c) ∧ Y.cell? ⟨p2, 0, none⟩ = some (.int .i64 b) ∧ Y.cell? ⟨p3, 0, none⟩ = some (.func (.func 18) #[] #[.pointer (some ⟨p, 0, none⟩)]) :=
    fun Y h => ⟨h.cell d0, h.cell d1, h.cell d2, h.cell d3, h.cell a0, h.cell a1, h.cell a2, h.cell a3, h.cell j2, h.cell j3⟩
  have hBA : ∀ Y, BH W5 Y → Calls Try.prog 33 #[.agg #[.int .i64 k, .string ⟨t.toArray⟩, .int .i64 o, .slice A L c], .int .i64 (i : Int), .int .i64 b] Y fun e u => e = .returned (.int .i64 (aroundB k i b)) ∧ BH W5 u := fun Y hY =>
    (around_any k o b i t A L c Y hb0 (by omega)).mono fun e u h => ⟨h.1, BH.trans hY h.2⟩
  have HKS := Lib.hid KSs
  have HBA := Lib.hid hBA
  have HPe := Lib.hid (BH.drew W5)
  clear KSs hBA hN1 hN2 hP5 HQ H1 H2 H3 hg5 hl1 hl2 hl3
  go_region_held3 (fun w' => w'.cell? ⟨g5, 0, none⟩ = some (.int .i64 k1) ∧ w'.cell? ⟨g5, 1, none⟩ = some (.string ⟨t1.toArray⟩) ∧ w'.cell? ⟨g5, 2, none⟩ = some (.int .i64 o1) ∧ w'.cell? ⟨g5, 3, none⟩ = some (.slice A1 L1 c1) ∧
      w'.cell? ⟨p1, 0, none⟩ = some (.int .i64 k) ∧ w'.cell? ⟨p1, 1, none⟩ = some (.string ⟨t.toArray⟩) ∧ w'.cell? ⟨p1, 2, none⟩ = some (.int .i64 o) ∧ w'.cell? ⟨p1, 3, none⟩ = some (.slice A L c) ∧ w'.cell? ⟨p2, 0, none⟩ = some (.int .i64 b) ∧ w'.cell? ⟨p3, 0, none⟩ = some (.func (.func 18) #[] #[.pointer (some ⟨p, 0, none⟩)])) (first | exact HFz.out | go_keep)
    (first
      | (go_at_call 17; refine (HC.out _ (BH.trans HP5.out HPu.out)).mono ?_; rintro e u2 ⟨A2, c2, rfl, v1, v2⟩; have HU2 := Lib.hid (And.intro v1 v2); have HN3 := Lib.hid ((Below.block (BH.trans HPu.out v2) _ (heap_lt HN2.out)).trans HN2.out); obtain ⟨x0, x1, x2, x3, x4, x5, x6, x7, x8, x9⟩ := HKS.out _ (BH.trans HPu.out v2); have HFz := Lib.hid (s4_keep10 (.int .i64 x.k) (.string ⟨x.t.toArray⟩) (.int .i64 x.o) (.slice A2 x.kids.len c2) (show g5 ≠ g5 + 1 by omega) r1 r2 r3 (HKS.out _ (BH.trans HPu.out v2))); clear v1 v2; obtain ⟨b0, b1, b2, b3, y0, y1, y2, y3⟩ := row4 HN3.out)
      | (go_at_call 33; refine (HBA.out _ HPe.out).mono ?_; rintro e u ⟨rfl, hpu⟩; have HPu := Lib.hid hpu; obtain ⟨x0, x1, x2, x3, x4, x5, x6, x7, x8, x9⟩ := HKS.out _ hpu; clear hpu))
  all_goals
    go_wp2_with (fail)
    obtain ⟨m0, m1, m2, m3, _⟩ := row4 (s4 HN3.out (.int .i64 x.k) (.string ⟨x.t.toArray⟩) (.int .i64 x.o) (.slice A2 x.kids.len c2))
    refine bodyPost_ret (v := .agg #[.int .i64 x.k, .string ⟨x.t.toArray⟩, .int .i64 x.o, .slice A2 x.kids.len c2]) (by simp [results, Try.results32, go_sem, m0, m1, m2, m3]) rfl ?_
    obtain ⟨v1, v2⟩ := HU2.out
    have hg := HG5.out
    have hs5 := heap_lt HN2.out
    have hsu := Below.size HPu.out
    exact SbP.box (x := x) (N := g5 + 1) (fun y hy => hy.elim) (by omega) (BH.trans HP5.out (BH.trans HPu.out v2)) (v1.keep (S' := fun y => (NS y ∨ X.heap.size ≤ y) ∧ y ≠ g5 + 1) (Nat.le_refl _) fun y hy _ => ⟨rfl, hy.elim (fun h => h.elim) fun h => ⟨.inr (by omega), by omega⟩⟩)

end Go.Proofs.Ytddfpbcdopcdhaa
namespace Go.Proofs.Ytddfpbcdopcdhaa
open Go.RowKit Sx

def RFT_sub (p : Nat) (J : World → Prop) (G : Int → Option Tm) (sh : Int → Int) (V : Int) (M : Nat) : Prop :=
  ∀ (k o b : Int) (t : List UInt8) (kids : Fo) (A : Option Addr) (c : Nat) (w : World), fsize kids < M → wid kids → KT w kids A c → J w → 0 ≤ b → b + fsize kids ≤ 1152921504606846976 → closed1 k o kids (b + V) = true →
    Calls Try.prog 17 #[.agg #[.int .i64 k, .string ⟨t.toArray⟩, .int .i64 o, .slice A kids.len c], .int .i64 b, .func (.func 18) #[] #[.pointer (some ⟨p, 0, none⟩)]] w (SbP w NS (rep1 G sh k t o kids b))

theorem repargs_sub {p : Nat} {J : World → Prop} {G : Int → Option Tm} {sh : Int → Int} {V : Int} {M : Nat} (hJ : ∀ X Y, J X → BH X Y → J Y) (hR : RFT_sub p J G sh V M)
    (k o b : Int) (t : List UInt8) (kids : Fo) (A : Option Addr) (c p1 p2 p3 : Nat) (W : World) (hM : fsize kids < M + 1) (hN : wid kids) (hK : KT W kids A c) (hJW : J W) (hb0 : 0 ≤ b) (hb1 : b + fsize kids ≤ 1152921504606846976) (hcl : closedL k 0 (b + V) kids = true)
    (h1 : W.heap[p1]? = some (.cells #[.int .i64 k, .string ⟨t.toArray⟩, .int .i64 o, .slice A kids.len c] 24 (0, 0))) (h2 : W.heap[p2]? = some (.cells #[.int .i64 b] 3 (0, 0))) (h3 : W.heap[p3]? = some (.cells #[.func (.func 18) #[] #[.pointer (some ⟨p, 0, none⟩)]] 37 (0, 0))) :
    Calls Try.prog 31 #[.agg #[.int .i64 k, .string ⟨t.toArray⟩, .int .i64 o, .slice A kids.len c], .func (.func 32) #[] #[.pointer (some ⟨p1, 0, none⟩), .pointer (some ⟨p2, 0, none⟩), .pointer (some ⟨p3, 0, none⟩)]] W (SbP W NS ⟨k, t, repL G sh k 0 b kids, o⟩) := by
  have hl := len_le_fsize kids
  have h := withArgs_rep (fun i k1 t1 kids1 o1 => rep1 G sh k1 t1 o1 kids1 (aroundB k i b)) NS k o t kids A c p1 p2 p3 W (fun y hy => hy.elim) hN.1 hK ?_
  · rwa [← repL_map] at h
  · intro i k1 o1 t1 kids1 r1 A1 c1 X hsuf hX hK1
    obtain ⟨ab0, ab1⟩ := aroundB_bounds k b i
    have hkid := hsuf.kid.1
    refine repc_sub i kids.len kids1.len k o k1 o1 b t t1 A A1 c c1 p p1 p2 p3 X _ hb0 (by omega) ((Below.block hX _ (heap_lt h1)).trans h1) ((Below.block hX _ (heap_lt h2)).trans h2) ((Below.block hX _ (heap_lt h3)).trans h3) fun Y hY => ?_
    exact hR k1 o1 (aroundB k i b) t1 kids1 A1 c1 Y (by omega) (wid_suf hN hsuf) (hK1.below hY) (hJ _ _ (hJ _ _ hJW hX) hY) (by omega) (by omega) (by rw [← around_add]; exact closedL_suf hcl hsuf)

set_option maxHeartbeats 8000000 in
set_option maxRecDepth 100000 in
theorem replace_sub {p : Nat} {J : World → Prop} {G : Int → Option Tm} {sh : Int → Int} {V : Int} (hJ : ∀ X Y, J X → BH X Y → J Y) (hG : ∀ f x, G f = some x → fsize x.kids ≤ 1099511627776) (hCh : ChT 18 p J G sh) (hV0 : 0 ≤ V) (hV1 : V ≤ 1152921504606846976)
    (M : Nat) (hR : RFT_sub p J G sh V M) : RFT_sub p J G sh V (M + 1) := by
  intro k o b t kids A c w hM hN hK hJw hb0 hb1 hcl
  have HR := Lib.hid hR
  have HK := Lib.hid hK
  have HJ := Lib.hid hJ
  have HJw := Lib.hid hJw
  have HCl := Lib.hid hcl
  have HCh := Lib.hid hCh
  have HG := Lib.hid hG
  have hll := len_le_fsize kids
  clear hR hK hJ hJw hcl hCh hG
  go_enter Try.func17, Try.ntmps17
  go_wp2_with (fail)
  have f1 := bh_alloc (BH.refl w) (.cells #[.int .i64 k, .string ⟨t.toArray⟩, .int .i64 o, .slice A kids.len c] 24)
  have g1 := heap_alloc_new w (.cells #[.int .i64 k, .string ⟨t.toArray⟩, .int .i64 o, .slice A kids.len c] 24)
  generalize hW1 : w.alloc (.cells #[.int .i64 k, .string ⟨t.toArray⟩, .int .i64 o, .slice A kids.len c] 24) = W1 at *
  have z1 : W1.heap.size = w.heap.size + 1 := by rw [← hW1]; simp
  have f2 := bh_alloc (BH.refl W1) (.cells #[.int .i64 b] 3)
  have g2 := heap_alloc_new W1 (.cells #[.int .i64 b] 3)
  generalize hW2 : W1.alloc (.cells #[.int .i64 b] 3) = W2 at *
  have z2 : W2.heap.size = w.heap.size + 2 := by rw [← hW2]; simp [z1]
  have f3 := bh_alloc (BH.refl W2) (.cells #[.func (.func 18) #[] #[.pointer (some ⟨p, 0, none⟩)]] 37)
  have g3 := heap_alloc_new W2 (.cells #[.func (.func 18) #[] #[.pointer (some ⟨p, 0, none⟩)]] 37)
  generalize hW3 : W2.alloc (.cells #[.func (.func 18) #[] #[.pointer (some ⟨p, 0, none⟩)]] 37) = W3 at *
  have z3 : W3.heap.size = w.heap.size + 3 := by rw [← hW3]; simp [z2]
  have f4 := bh_alloc (BH.refl W3) (.cells #[.int .i64 0, .string ⟨#[]⟩, .int .i64 0, .slice none 0 0] 24)
  have g4 := heap_alloc_new W3 (.cells #[.int .i64 0, .string ⟨#[]⟩, .int .i64 0, .slice none 0 0] 24)
  rw [z1] at g2
  rw [z2] at g3
  rw [z3] at g4
  generalize hW4 : W3.alloc (.cells #[.int .i64 0, .string ⟨#[]⟩, .int .i64 0, .slice none 0 0] 24) = W4 at *
  have hq : ∀ X, BH W4 X → X.heap[w.heap.size]? = some (.cells #[.int .i64 k, .string ⟨t.toArray⟩, .int .i64 o, .slice A kids.len c] 24 (0, 0)) ∧ X.heap[w.heap.size + 1]? = some (.cells #[.int .i64 b] 3 (0, 0)) ∧
      X.heap[w.heap.size + 2]? = some (.cells #[.func (.func 18) #[] #[.pointer (some ⟨p, 0, none⟩)]] 37 (0, 0)) ∧ X.heap[w.heap.size + 3]? = some (.cells #[.int .i64 0, .string ⟨#[]⟩, .int .i64 0, .slice none 0 0] 24 (0, 0)) ∧ BH w X := by
    intro X hX
    have h34 := BH.trans f4 hX
    have h234 := BH.trans f3 h34
    have h1234 := BH.trans f2 h234
    exact ⟨(Below.block h1234 _ (heap_lt g1)).trans g1, (Below.block h234 _ (heap_lt g2)).trans g2, (Below.block h34 _ (heap_lt g3)).trans g3, (Below.block hX _ (heap_lt g4)).trans g4, BH.trans f1 h1234⟩
  have hs4 : W4.heap.size = w.heap.size + 4 := by rw [← hW4]; simp [z3]
  have HQ := Lib.hid hq
  have HS4 := Lib.hid hs4
  -- the answer through the result's box
  have hfin : ∀ (x : Tm) (A2 : Option Addr) (c2 B : Nat) (Y : World), w.heap.size + 4 ≤ B → BH w Y → KS Y (fun y => NS y ∨ B ≤ y) x.kids A2 c2 →
      SbP w NS x (.returned (.agg #[.int .i64 x.k, .string ⟨x.t.toArray⟩, .int .i64 x.o, .slice A2 x.kids.len c2])) ((((Y.setCell ⟨w.heap.size + 3, 0, none⟩ (.int .i64 x.k)).setCell ⟨w.heap.size + 3, 1, none⟩ (.string ⟨x.t.toArray⟩)).setCell ⟨w.heap.size + 3, 2, none⟩ (.int .i64 x.o)).setCell ⟨w.heap.size + 3, 3, none⟩ (.slice A2 x.kids.len c2)) := by
    intro x A2 c2 B Y hB hY hk
    exact SbP.box (x := x) (N := w.heap.size + 3) (fun y hy => hy.elim) (by omega) hY (hk.keep (Nat.le_refl _) fun y hy _ => ⟨rfl, hy.elim (fun h => h.elim) fun h => ⟨.inr (by omega), by omega⟩⟩)
  have HFin := Lib.hid hfin
  clear f1 g1 hW1 z1 f2 g2 hW2 z2 f3 g3 hW3 z3 f4 g4 hW4 hq hs4 hfin W1 W2 W3
  cases hfr : freeB k o b with
  | false =>
    refine (isFree_any k o b t A kids.len c W4 hfr).mono ?_
    rintro e w1 ⟨rfl, hb⟩
    obtain ⟨e1, e2, e3, e4, hbw⟩ := HQ.out w1 hb
    have HEq := Lib.hid (rep1_bound (G := G) (sh := sh) (t := t) (kids := kids) hfr)
    obtain ⟨b0, b1, b2, b3, y0, y1, y2, y3⟩ := row4 e1
    have hA := repargs_sub (A := A) (c := c) HJ.out HR.out k o b t kids w.heap.size (w.heap.size + 1) (w.heap.size + 2) w1 hM hN (HK.out.below hbw) (HJ.out _ _ HJw.out hbw) hb0 hb1 (closed_kids HCl.out) e1 e2 e3
    have HA := Lib.hid hA
    have HB := Lib.hid hb
    clear hA hb hbw e1 e2 e3 e4 hfr
    go_wp2_with (fail)
    refine HA.out.mono ?_
    rintro e w2 ⟨A2, c2, rfl, u1, u2⟩
    have HN2 := Lib.hid (HQ.out w2 (BH.trans HB.out u2)).2.2.2.1
    have HF := Lib.hid (HFin.out ⟨k, t, repL G sh k 0 b kids, o⟩ A2 c2 _ w2 (by have := Below.size HB.out; have := HS4.out; omega) (HQ.out w2 (BH.trans HB.out u2)).2.2.2.2 u1)
    clear u1 u2 b0 b1 b2 b3 y0 y1 y2 y3
    obtain ⟨b0, b1, b2, b3, y0, y1, y2, y3⟩ := row4 HN2.out
    go_wp2_with (fail)
    obtain ⟨m0, m1, m2, m3, _⟩ := row4 (s4 HN2.out (.int .i64 k) (.string ⟨t.toArray⟩) (.int .i64 o) (.slice A2 (repL G sh k 0 b kids).len c2))
    exact bodyPost_ret (v := .agg #[.int .i64 k, .string ⟨t.toArray⟩, .int .i64 o, .slice A2 (repL G sh k 0 b kids).len c2]) (by simp [results, Try.results17, go_sem, m0, m1, m2, m3]) rfl (by rw [HEq.out]; exact HF.out)
  | true =>
    obtain ⟨rfl, hbo, hov⟩ := free_in HCl.out hfr
    refine (isFree_any 5 o b t A kids.len c W4 hfr).mono ?_
    rintro e w1 ⟨rfl, hb⟩
    obtain ⟨e1, e2, e3, e4, hbw⟩ := HQ.out w1 hb
    obtain ⟨b0, b1, b2, b3, y0, y1, y2, y3⟩ := row4 e1
    obtain ⟨j2, _⟩ := row1 e2
    obtain ⟨j3, _⟩ := row1 e3
    have hchoice := HCh.out w1 5 o (o - b) t kids.len A c (HJ.out _ _ HJw.out hbw) (by omega) (by omega) (by omega)
    have HB := Lib.hid hb
    clear hb hbw e1 e2 e3 e4
    cases hGv : G (o - b) with
    | some x =>
      obtain ⟨xk, xt, xkids, xo⟩ := x
      have HC := Lib.hid (hchoice.1 _ hGv)
      have HGx := Lib.hid (HG.out _ _ hGv)
      have HEq := Lib.hid (rep1_some (G := G) (sh := sh) (t := t) (kids := kids) hfr hGv)
      clear hchoice hGv hfr
      go_wp2_with (fail)
      refine HC.out.mono ?_
      rintro e w2 ⟨A1, c1, rfl, hk1, hb2⟩
      have HK1 := Lib.hid hk1
      have HB2 := Lib.hid (BH.trans HB.out hb2)
      clear hk1 hb2 b0 b1 b2 b3 y0 y1 y2 y3 j2 j3
      go_wp2_with (fail)
      have hX := bh_alloc (BH.refl w2) (.cells #[.int .i64 xk, .string ⟨xt.toArray⟩, .int .i64 xo, .slice A1 xkids.len c1] 24)
      refine (copy_any NS _ xk xo xt xkids A1 c1 _ (Nat.le_refl _) HGx.out (HK1.out.below hX) (fun y hy => hy.elim)).mono ?_
      rintro e w3 ⟨A3, c3, rfl, v1, v2⟩
      have HN2 := Lib.hid (HQ.out w3 (BH.trans HB2.out (BH.trans hX v2))).2.2.2.1
      have HF := Lib.hid (HFin.out ⟨xk, xt, xkids, xo⟩ A3 c3 _ w3 (by have := Below.size HB2.out; have := HS4.out; simp; omega) (HQ.out w3 (BH.trans HB2.out (BH.trans hX v2))).2.2.2.2 v1)
      clear hX v1 v2
      obtain ⟨b0, b1, b2, b3, y0, y1, y2, y3⟩ := row4 HN2.out
      go_wp2_with (fail)
      obtain ⟨m0, m1, m2, m3, _⟩ := row4 (s4 HN2.out (.int .i64 xk) (.string ⟨xt.toArray⟩) (.int .i64 xo) (.slice A3 xkids.len c3))
      exact bodyPost_ret (v := .agg #[.int .i64 xk, .string ⟨xt.toArray⟩, .int .i64 xo, .slice A3 xkids.len c3]) (by simp [results, Try.results17, go_sem, m0, m1, m2, m3]) rfl (by rw [HEq.out]; exact HF.out)
    | none =>
      have HC := Lib.hid (hchoice.2 hGv)
      have hEq := rep1_none (G := G) (sh := sh) (t := t) (kids := kids) hfr hGv
      obtain ⟨q, hq⟩ : ∃ q, sh o = q := ⟨_, rfl⟩
      rw [hq] at HC hEq
      have HEq := Lib.hid hEq
      clear hchoice hGv hfr hq hEq
      go_wp2_with (fail)
      refine HC.out.mono ?_
      rintro e w2 ⟨rfl, hb2⟩
      have HB2 := Lib.hid (BH.trans HB.out hb2)
      obtain ⟨e1, e2, e3, e4, hbw⟩ := HQ.out w2 HB2.out
      clear hb2 b0 b1 b2 b3 y0 y1 y2 y3 j2 j3
      have E1 := Lib.hid e1
      obtain ⟨b0, b1, b2, b3, y0, y1, y2, y3⟩ := row4 e1
      have HX := Lib.hid (bh_alloc (BH.refl w2) (.cells #[.int .i64 5, .string ⟨t.toArray⟩, .int .i64 q, .slice A kids.len c] 24))
      have HE := Lib.hid (And.intro e2 (And.intro e3 (And.intro e4 hbw)))
      clear e1 e2 e3 e4 hbw
      obtain ⟨x0, x1, x2, x3, z0, z1, z2, z3⟩ := row4 ((Below.block HX.out _ (heap_lt E1.out)).trans E1.out)
      go_wp2_with (fail)
      have hX1 := (Below.block HX.out _ (heap_lt E1.out)).trans E1.out
      obtain ⟨e2, e3, e4, hbw⟩ := HE.out
      have hX2 := (Below.block HX.out _ (heap_lt e2)).trans e2
      have hX3 := (Below.block HX.out _ (heap_lt e3)).trans e3
      have hX4 := (Below.block HX.out _ (heap_lt e4)).trans e4
      have hbX := BH.trans hbw HX.out
      have hsX : w.heap.size + 4 ≤ (w2.alloc (.cells #[.int .i64 5, .string ⟨t.toArray⟩, .int .i64 q, .slice A kids.len c] 24)).heap.size := by have h1 := Below.size HB2.out; have h2 := HS4.out; simp; omega
      obtain ⟨X, hXX⟩ : ∃ X, w2.alloc (.cells #[.int .i64 5, .string ⟨t.toArray⟩, .int .i64 q, .slice A kids.len c] 24) = X := ⟨_, rfl⟩
      rw [hXX] at hX1 hX2 hX3 hX4 hbX hsX ⊢
      have y1 := s4 hX1 (.int .i64 5) (.string ⟨t.toArray⟩) (.int .i64 q) (.slice A kids.len c)
      have y2 := (s4_far (show w.heap.size + 1 ≠ w.heap.size by omega) (.int .i64 5) (.string ⟨t.toArray⟩) (.int .i64 q) (.slice A kids.len c)).trans hX2
      have y3 := (s4_far (show w.heap.size + 2 ≠ w.heap.size by omega) (.int .i64 5) (.string ⟨t.toArray⟩) (.int .i64 q) (.slice A kids.len c)).trans hX3
      have y4 := (s4_far (show w.heap.size + 3 ≠ w.heap.size by omega) (.int .i64 5) (.string ⟨t.toArray⟩) (.int .i64 q) (.slice A kids.len c)).trans hX4
      have hY := below_gb_of (BH.refl w) (s4_gb (gb_below hbX (some w.heap.size)) (Nat.le_refl _) (.int .i64 5) (.string ⟨t.toArray⟩) (.int .i64 q) (.slice A kids.len c)) (Nat.le_refl _)
      have hsY : w.heap.size + 4 ≤ ((((X.setCell ⟨w.heap.size, 0, none⟩ (.int .i64 5)).setCell ⟨w.heap.size, 1, none⟩ (.string ⟨t.toArray⟩)).setCell ⟨w.heap.size, 2, none⟩ (.int .i64 q)).setCell ⟨w.heap.size, 3, none⟩ (.slice A kids.len c)).heap.size := by simp [size_set]; omega
      obtain ⟨Y, hYY⟩ : ∃ Y, (((X.setCell ⟨w.heap.size, 0, none⟩ (.int .i64 5)).setCell ⟨w.heap.size, 1, none⟩ (.string ⟨t.toArray⟩)).setCell ⟨w.heap.size, 2, none⟩ (.int .i64 q)).setCell ⟨w.heap.size, 3, none⟩ (.slice A kids.len c) = Y := ⟨_, rfl⟩
      rw [hYY] at y1 y2 y3 y4 hY hsY ⊢
      have hY' : BH w Y := hY
      refine (repargs_sub (A := A) (c := c) HJ.out HR.out 5 q b t kids w.heap.size (w.heap.size + 1) (w.heap.size + 2) Y hM hN (HK.out.below hY') (HJ.out _ _ HJw.out hY') hb0 hb1 (closed_kids HCl.out) y1 y2 y3).mono ?_
      rintro e w3 ⟨A2, c2, rfl, u1, u2⟩
      have HN2 := Lib.hid ((Below.block u2 _ (heap_lt y4)).trans y4)
      have HF := Lib.hid (HFin.out ⟨5, t, repL G sh 5 0 b kids, q⟩ A2 c2 _ w3 hsY (BH.trans hY' u2) u1)
      clear u1 u2 b0 b1 b2 b3 x0 x1 x2 x3 z0 z1 z2 z3 hX1 hX2 hX3 hX4 hbX hsX hXX y1 y2 y3 y4 hY hY' hsY hYY e2 e3 e4 hbw
      obtain ⟨b0, b1, b2, b3, y0, y1, y2, y3⟩ := row4 HN2.out
      go_wp2_with (fail)
      obtain ⟨m0, m1, m2, m3, _⟩ := row4 (s4 HN2.out (.int .i64 5) (.string ⟨t.toArray⟩) (.int .i64 q) (.slice A2 (repL G sh 5 0 b kids).len c2))
      exact bodyPost_ret (v := .agg #[.int .i64 5, .string ⟨t.toArray⟩, .int .i64 q, .slice A2 (repL G sh 5 0 b kids).len c2]) (by simp [results, Try.results17, go_sem, m0, m1, m2, m3]) rfl (by rw [HEq.out]; exact HF.out)

theorem replaceFree_sub {p : Nat} {J : World → Prop} {G : Int → Option Tm} {sh : Int → Int} {V : Int} (hJ : ∀ X Y, J X → BH X Y → J Y) (hG : ∀ f x, G f = some x → fsize x.kids ≤ 1099511627776) (hCh : ChT 18 p J G sh) (hV0 : 0 ≤ V) (hV1 : V ≤ 1152921504606846976) : ∀ M, RFT_sub p J G sh V M := by
  intro M
  induction M with
  | zero => intro k o b t kids A c w hM; exact absurd hM (Nat.not_lt_zero _)
  | succ M ih => exact replace_sub hJ hG hCh hV0 hV1 M ih
end Go.Proofs.Ytddfpbcdopcdhaa
namespace Go.Proofs.Ytddfpbcdopcdhaa.Sx
/-- term number i -/
def nthF : Fo → Nat → Option Tm
  | .nil, _ => none
  | .cons k t kids o _, 0 => some ⟨k, t, kids, o⟩
  | .cons _ _ _ _ r, i + 1 => nthF r i
theorem nthF_app (pre : Fo) (k o : Int) (t : List UInt8) (kids r : Fo) : nthF (pre.app (.cons k t kids o r)) pre.len = some ⟨k, t, kids, o⟩ := by
  induction pre with
  | nil => rfl
  | cons _ _ _ _ r' _ ih => exact ih
theorem nthF_none (f : Fo) : ∀ i, nthF f i = none → f.len ≤ i := by
  induction f with
  | nil => intro i _; exact Nat.zero_le _
  | cons k t kids o r _ ih =>
    intro i h
    cases i with
    | zero => cases h
    | succ i => have := ih i h; simp only [Fo.len]; omega
theorem nthF_lt (f : Fo) : ∀ i x, nthF f i = some x → i < f.len := by
  induction f with
  | nil => intro i x h; cases h
  | cons k t kids o r _ ih =>
    intro i x h
    cases i with
    | zero => simp [Fo.len]
    | succ i => have := ih i x h; simp only [Fo.len]; omega
theorem nthF_size (f : Fo) : ∀ i x, nthF f i = some x → fsize x.kids ≤ fsize f := by
  induction f with
  | nil => intro i x h; cases h
  | cons k t kids o r _ ih =>
    intro i x h
    cases i with
    | zero => cases h; simp only [fsize]; omega
    | succ i => have := ih i x h; simp only [fsize]; omega
def Gs (x : Tm) (f : Int) : Option Tm := if f = 0 then some x else none
theorem Gs_size {x y : Tm} {f : Int} {n : Nat} (hx : fsize x.kids ≤ n) (h : Gs x f = some y) : fsize y.kids ≤ n := by
  unfold Gs at h
  split at h
  · cases h; exact hx
  · cases h
def shs (o : Int) : Int := o - 1
def Gi (L : Fo) (f : Int) : Option Tm := nthF L f.toNat
def shi (o : Int) : Int := o
end Go.Proofs.Ytddfpbcdopcdhaa.Sx
namespace Go.Proofs.Ytddfpbcdopcdhaa
open Go.RowKit Sx
theorem nthF_suf (f : Fo) : ∀ i x, nthF f i = some x → ∃ r, Suf i (.cons x.k x.t x.kids x.o r) f := by
  induction f with
  | nil => intro i x h; cases h
  | cons k t kids o r _ ih =>
    intro i x h
    cases i with
    | zero => cases h; exact ⟨r, .nil, rfl, rfl⟩
    | succ i =>
      obtain ⟨r', pre, e, hl⟩ := ih i x h
      exact ⟨r', .cons k t kids o pre, by rw [e]; rfl, by simp only [Fo.len, hl]⟩

/-- block p holds the term x -/
def JS (p : Nat) (x : Tm) (A : Option Addr) (c : Nat) (X : World) : Prop := X.heap[p]? = some (.cells #[.int .i64 x.k, .string ⟨x.t.toArray⟩, .int .i64 x.o, .slice A x.kids.len c] 24 (0, 0)) ∧ KT X x.kids A c
theorem JS.bh {p : Nat} {x : Tm} {A : Option Addr} {c : Nat} (X Y : World) (h : JS p x A c X) (hb : BH X Y) : JS p x A c Y := ⟨(Below.block hb _ (heap_lt h.1)).trans h.1, h.2.below hb⟩
/-- block p holds a slice that reads as the terms L -/
def JI (p : Nat) (L : Fo) (A : Option Addr) (c : Nat) (X : World) : Prop := X.heap[p]? = some (.cells #[.slice A L.len c] 22 (0, 0)) ∧ KT X L A c
theorem JI.bh {p : Nat} {L : Fo} {A : Option Addr} {c : Nat} (X Y : World) (h : JI p L A c X) (hb : BH X Y) : JI p L A c Y := ⟨(Below.block hb _ (heap_lt h.1)).trans h.1, h.2.below hb⟩

set_option maxHeartbeats 4000000 in
theorem cho_sub (p : Nat) (x : Tm) (A : Option Addr) (c : Nat) : ChT 18 p (JS p x A c) (Gs x) shs := by
  intro X k o f t n A' c' hJ hf0 hfo ho
  obtain ⟨xk, xt, xkids, xo⟩ := x
  obtain ⟨hp, hk⟩ := hJ
  have HK := Lib.hid hk
  have HP := Lib.hid hp
  have f1 := bh_alloc (BH.refl X) (.cells #[.int .i64 k, .string ⟨t.toArray⟩, .int .i64 o, .slice A' n c'] 24)
  clear hk hp
  refine ⟨fun y hy => ?_, fun hn => ?_⟩
  · obtain ⟨rfl, rfl⟩ : f = 0 ∧ y = ⟨xk, xt, xkids, xo⟩ := by
      unfold Gs at hy
      split at hy
      · exact ⟨by assumption, by cases hy; rfl⟩
      · cases hy
    have f2 := bh_alloc f1 (.cells #[.int .i64 xk, .string ⟨xt.toArray⟩, .int .i64 xo, .slice A xkids.len c] 24)
    have HF := Lib.hid f2
    obtain ⟨a0, a1, a2, a3, _⟩ := row4 ((Below.block f1 _ (heap_lt HP.out)).trans HP.out)
    obtain ⟨b0, b1, b2, b3, _⟩ := row4 ((Below.block (bh_alloc f1 (.cells #[.int .i64 0, .string ⟨#[]⟩, .int .i64 0, .slice none 0 0] 24)) _ (heap_lt HP.out)).trans HP.out)
    clear f1 f2 hy
    go_enter Try.func18, Try.ntmps18
    go_wp2_with (fail)
    obtain ⟨m0, m1, m2, m3, _⟩ := row4 (heap_alloc_new (X.alloc (.cells #[.int .i64 k, .string ⟨t.toArray⟩, .int .i64 o, .slice A' n c'] 24)) (.cells #[.int .i64 xk, .string ⟨xt.toArray⟩, .int .i64 xo, .slice A xkids.len c] 24))
    rw [World.size_alloc] at m0 m1 m2 m3
    exact bodyPost_ret (v := .tuple #[.agg #[.int .i64 xk, .string ⟨xt.toArray⟩, .int .i64 xo, .slice A xkids.len c], .bool true]) (by simp [results, Try.results18, go_sem, m0, m1, m2, m3]) rfl ⟨A, c, rfl, HK.out.below HF.out, HF.out⟩
  · have hne : f ≠ 0 := by
      intro e
      rw [Gs, if_pos e] at hn
      cases hn
    have t1 : (f == 0) = false := by simpa using hne
    have t2 : decide (f = 0) = false := by simpa using hne
    have hwo : 0 < o := by omega
    have f2 := bh_alloc (bh_alloc (BH.refl X) (.cells #[.int .i64 k, .string ⟨t.toArray⟩, .int .i64 (o - 1), .slice A' n c'] 24)) (.cells #[.int .i64 k, .string ⟨t.toArray⟩, .int .i64 (o - 1), .slice A' n c'] 24)
    have HF := Lib.hid f2
    clear f1 f2 hn hne
    go_enter Try.func18, Try.ntmps18
    go_wp2_with (fail)
    obtain ⟨m0, m1, m2, m3, _⟩ := row4 (heap_alloc_new (X.alloc (.cells #[.int .i64 k, .string ⟨t.toArray⟩, .int .i64 (o - 1), .slice A' n c'] 24)) (.cells #[.int .i64 k, .string ⟨t.toArray⟩, .int .i64 (o - 1), .slice A' n c'] 24))
    rw [World.size_alloc] at m0 m1 m2 m3
    exact bodyPost_ret (v := .tuple #[.agg #[.int .i64 k, .string ⟨t.toArray⟩, .int .i64 (o - 1), .slice A' n c'], .bool false]) (by simp [results, Try.results18, go_sem, m0, m1, m2, m3]) rfl ⟨rfl, HF.out⟩

set_option maxHeartbeats 2000000 in
theorem substitute_any (V : Int) (k o : Int) (t : List UInt8) (kids : Fo) (A : Option Addr) (c : Nat) (x : Tm) (A' : Option Addr) (c' : Nat) (w : World) (hV0 : 0 ≤ V) (hV1 : V ≤ 1152921504606846976) (hN : fsize kids ≤ 1152921504606846976) (hW : wid kids) (hNx : fsize x.kids ≤ 1099511627776) (hK : KT w kids A c) (hX : KT w x.kids A' c') (hcl : closed1 k o kids V = true) :
    Calls Try.prog 7 #[.agg #[.int .i64 k, .string ⟨t.toArray⟩, .int .i64 o, .slice A kids.len c], .agg #[.int .i64 x.k, .string ⟨x.t.toArray⟩, .int .i64 x.o, .slice A' x.kids.len c']] w (SbP w NS (rep1 (Gs x) shs k t o kids 0)) := by
  have f1 := bh_alloc (BH.refl w) (.cells #[.int .i64 k, .string ⟨t.toArray⟩, .int .i64 o, .slice A kids.len c] 24)
  have f2 := bh_alloc f1 (.cells #[.int .i64 x.k, .string ⟨x.t.toArray⟩, .int .i64 x.o, .slice A' x.kids.len c'] 24)
  have g2 := heap_alloc_new (w.alloc (.cells #[.int .i64 k, .string ⟨t.toArray⟩, .int .i64 o, .slice A kids.len c] 24)) (.cells #[.int .i64 x.k, .string ⟨x.t.toArray⟩, .int .i64 x.o, .slice A' x.kids.len c'] 24)
  have f3 := bh_alloc f2 (.cells #[.int .i64 0, .string ⟨#[]⟩, .int .i64 0, .slice none 0 0] 24)
  have g3 := heap_alloc_new ((w.alloc (.cells #[.int .i64 k, .string ⟨t.toArray⟩, .int .i64 o, .slice A kids.len c] 24)).alloc (.cells #[.int .i64 x.k, .string ⟨x.t.toArray⟩, .int .i64 x.o, .slice A' x.kids.len c'] 24)) (.cells #[.int .i64 0, .string ⟨#[]⟩, .int .i64 0, .slice none 0 0] 24)
  have g2' := (Below.heap_alloc _ (.cells #[.int .i64 0, .string ⟨#[]⟩, .int .i64 0, .slice none 0 0] 24) _ (heap_lt g2)).trans g2
  rw [World.size_alloc] at g2'
  rw [World.size_alloc, World.size_alloc] at g3
  have hJ : JS (w.heap.size + 1) x A' c' _ := ⟨g2', hX.below f3⟩
  have hR := replaceFree_sub (p := w.heap.size + 1) (V := V) JS.bh (fun f y hy => Gs_size hNx hy) (cho_sub (w.heap.size + 1) x A' c') hV0 hV1 (fsize kids + 1) k o 0 t kids A c _ (by omega) hW (hK.below f3) hJ (Int.le_refl 0) (by omega) (by simpa using hcl)
  obtain ⟨y, hy⟩ : ∃ y, rep1 (Gs x) shs k t o kids 0 = y := ⟨_, rfl⟩
  rw [hy] at hR ⊢
  have HR := Lib.hid hR
  have HE := Lib.hid g3
  have HF := Lib.hid f3
  obtain ⟨xk, xt, xkids, xo⟩ := x
  clear f1 f2 g2 f3 g3 g2' hJ hR hK hX hy
  go_enter Try.func7, Try.ntmps7
  go_wp2_with (fail)
  refine HR.out.mono ?_
  rintro e w2 ⟨A2, c2, rfl, u1, u2⟩
  have HN2 := Lib.hid ((Below.block u2 (w.heap.size + 1 + 1) (by simp)).trans HE.out)
  have HFin := Lib.hid (SbP.box (x := y) (N := w.heap.size + 1 + 1) (S := NS) (w := w) (fun y hy => hy.elim) (by omega) (BH.trans HF.out u2) (u1.keep (S' := fun y => (NS y ∨ w.heap.size ≤ y) ∧ y ≠ w.heap.size + 1 + 1) (Nat.le_refl _) fun y hy _ => ⟨rfl, hy.elim (fun h => h.elim) fun h => ⟨.inr (by simp at h; omega), by simp at h; omega⟩⟩))
  clear u1 u2
  obtain ⟨b0, b1, b2, b3, y0, y1, y2, y3⟩ := row4 HN2.out
  go_wp2_with (fail)
  obtain ⟨m0, m1, m2, m3, _⟩ := row4 (s4 HN2.out (.int .i64 y.k) (.string ⟨y.t.toArray⟩) (.int .i64 y.o) (.slice A2 y.kids.len c2))
  exact bodyPost_ret (v := .agg #[.int .i64 y.k, .string ⟨y.t.toArray⟩, .int .i64 y.o, .slice A2 y.kids.len c2]) (by simp [results, Try.results7, go_sem, m0, m1, m2, m3]) rfl HFin.out

end Go.Proofs.Ytddfpbcdopcdhaa
