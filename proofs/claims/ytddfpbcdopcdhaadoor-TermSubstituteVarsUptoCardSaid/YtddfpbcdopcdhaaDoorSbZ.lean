/- tellaw2.TermSubstituteVars: the walk. No condition but the leaves' names and bounded lengths. -/
import Derived.Test.YtddfpbcdopcdhaaDoorSvQ
import Derived.Test.YtddfpbcdopcdhaaDoorTsi
import Derived.Test.YtddfpbcdopcdhaaDoorGw
import Derived.Test.YtddfpbcdopcdhaaDoorTeq
set_option linter.unusedVariables false
set_option linter.unusedSimpArgs false
namespace Go.Proofs.YtddfpbcdopcdhaaDoor.TL
open Go.RowKit Sx

/-- the two terms in the blocks g7 and g8 -/
structure PZ (w X : World) (g7 g8 : Nat) (k0 o0 : Int) (t0 : List UInt8) (kids0 : Fo) (A0 : Option Addr) (c0 : Nat) (k1 o1 : Int) (t1 : List UInt8) (kids1 : Fo) (A1 : Option Addr) (c1 : Nat) : Prop where
  b0 : X.heap[g7]? = some (.cells #[.int .i64 k0, .string ⟨t0.toArray⟩, .int .i64 o0, .slice A0 kids0.len c0] 25 (0, 0))
  b1 : X.heap[g8]? = some (.cells #[.int .i64 k1, .string ⟨t1.toArray⟩, .int .i64 o1, .slice A1 kids1.len c1] 25 (0, 0))
  r0 : KT X kids0 A0 c0
  r1 : KT X kids1 A1 c1
  bel : BH w X
section
variable {w X Y : World} {g7 g8 : Nat} {k0 o0 : Int} {t0 : List UInt8} {kids0 : Fo} {A0 : Option Addr} {c0 : Nat} {k1 o1 : Int} {t1 : List UInt8} {kids1 : Fo} {A1 : Option Addr} {c1 : Nat}
theorem PZ.bh (h : PZ w X g7 g8 k0 o0 t0 kids0 A0 c0 k1 o1 t1 kids1 A1 c1) (hb : BH X Y) : PZ w Y g7 g8 k0 o0 t0 kids0 A0 c0 k1 o1 t1 kids1 A1 c1 :=
  ⟨(Below.block hb _ (heap_lt h.b0)).trans h.b0, (Below.block hb _ (heap_lt h.b1)).trans h.b1, h.r0.below hb, h.r1.below hb, BH.trans h.bel hb⟩
theorem PZ.cells (h : PZ w X g7 g8 k0 o0 t0 kids0 A0 c0 k1 o1 t1 kids1 A1 c1) : X.cell? ⟨g7, 0, none⟩ = some (.int .i64 k0) ∧ X.cell? ⟨g7, 1, none⟩ = some (.string ⟨t0.toArray⟩) ∧ X.cell? ⟨g7, 2, none⟩ = some (.int .i64 o0) ∧ X.cell? ⟨g7, 3, none⟩ = some (.slice A0 kids0.len c0) ∧
    X.cell? ⟨g8, 0, none⟩ = some (.int .i64 k1) ∧ X.cell? ⟨g8, 1, none⟩ = some (.string ⟨t1.toArray⟩) ∧ X.cell? ⟨g8, 2, none⟩ = some (.int .i64 o1) ∧ X.cell? ⟨g8, 3, none⟩ = some (.slice A1 kids1.len c1) := by
  obtain ⟨a0, a1, a2, a3, _⟩ := row4 h.b0
  obtain ⟨b0, b1, b2, b3, _⟩ := row4 h.b1
  exact ⟨a0, a1, a2, a3, b0, b1, b2, b3⟩
/-- three times the second term in a row -/
theorem PZ.three (h : PZ w X g7 g8 k0 o0 t0 kids0 A0 c0 k1 o1 t1 kids1 A1 c1) {g : Nat} (hg : X.heap[g]? = some (.cells #[.int .i64 k1, .string ⟨t1.toArray⟩, .int .i64 o1, .slice A1 kids1.len c1, .int .i64 k1, .string ⟨t1.toArray⟩, .int .i64 o1, .slice A1 kids1.len c1, .int .i64 k1, .string ⟨t1.toArray⟩, .int .i64 o1, .slice A1 kids1.len c1] 25 (0, 0))) :
    KT X (L3 ⟨k1, t1, kids1, o1⟩) (some ⟨g, 0, none⟩) 3 := by
  obtain ⟨h1, ys1, r1, s1⟩ := h.r1
  refine ⟨Nat.le_refl _, [.int .i64 k1, .string ⟨t1.toArray⟩, .int .i64 o1, .slice A1 kids1.len c1, .int .i64 k1, .string ⟨t1.toArray⟩, .int .i64 o1, .slice A1 kids1.len c1, .int .i64 k1, .string ⟨t1.toArray⟩, .int .i64 o1, .slice A1 kids1.len c1], fun _ => ⟨g, 0, rfl, trivial, heap_lt hg, fun j u hu => ?_⟩, A1, c1, ys1, _, rfl, h1, r1, s1, A1, c1, ys1, _, rfl, h1, r1, s1, A1, c1, ys1, [], rfl, h1, r1, s1, rfl⟩
  rw [Nat.zero_add, cell_of_row _ _ j _ _ _ hg]
  simpa using hu
/-- with the term of block g13 and two rows of integers -/
structure PW (w X : World) (g7 g8 g13 : Nat) (k0 o0 : Int) (t0 : List UInt8) (kids0 : Fo) (A0 : Option Addr) (c0 : Nat) (k1 o1 : Int) (t1 : List UInt8) (kids1 : Fo) (A1 : Option Addr) (c1 : Nat) (z : Tm) (Az : Option Addr) (cz : Nat) (L : List Int) (A10 : Option Addr) (c10 : Nat) (A11 : Option Addr) (c11 : Nat) : Prop where
  p : PZ w X g7 g8 k0 o0 t0 kids0 A0 c0 k1 o1 t1 kids1 A1 c1
  bz : X.heap[g13]? = some (.cells #[.int .i64 z.k, .string ⟨z.t.toArray⟩, .int .i64 z.o, .slice Az z.kids.len cz] 25 (0, 0))
  rz : KT X z.kids Az cz
  i10 : Cel X 1 A10 L.length c10 (L.map (Value.int .i64))
  i11 : Cel X 1 A11 L.length c11 (L.map (Value.int .i64))
theorem PW.bh {g13 : Nat} {z : Tm} {Az : Option Addr} {cz : Nat} {L : List Int} {A10 : Option Addr} {c10 : Nat} {A11 : Option Addr} {c11 : Nat} (h : PW w X g7 g8 g13 k0 o0 t0 kids0 A0 c0 k1 o1 t1 kids1 A1 c1 z Az cz L A10 c10 A11 c11) (hb : BH X Y) : PW w Y g7 g8 g13 k0 o0 t0 kids0 A0 c0 k1 o1 t1 kids1 A1 c1 z Az cz L A10 c10 A11 c11 :=
  ⟨h.p.bh hb, (Below.block hb _ (heap_lt h.bz)).trans h.bz, h.rz.below hb, h.i10.bh hb, h.i11.bh hb⟩
end

/-- what the nine operations of the threefold substitution leave; m: the block that the eighth has made -/
def svV (t by_ : Value) (y1 y2 y3 : Tm) (m : Option Nat) (j : Nat) (v : Value) (w : World) : Prop :=
  match j with
  | 0 => v = t
  | 1 => v = by_
  | 2 => ∃ A c, v = .agg #[.int .i64 y1.k, .string ⟨y1.t.toArray⟩, .int .i64 y1.o, .slice A y1.kids.len c] ∧ KT w y1.kids A c
  | 3 => v = by_
  | 4 => ∃ A c, v = .agg #[.int .i64 y2.k, .string ⟨y2.t.toArray⟩, .int .i64 y2.o, .slice A y2.kids.len c] ∧ KT w y2.kids A c
  | 5 => v = by_
  | 6 => ∃ A c, v = .agg #[.int .i64 y3.k, .string ⟨y3.t.toArray⟩, .int .i64 y3.o, .slice A y3.kids.len c] ∧ KS w (fun x => m ≠ some x) y3.kids A c
  | 7 => ∃ g, v = .pointer (some ⟨g, 0, none⟩) ∧ m = some g
  | _ => True
def svI (W : World) (m : Option Nat) (w : World) : Prop := BH W w ∧ ∀ g, m = some g → W.heap.size ≤ g ∧ w.heap[g]? = some (.cells #[.int .i64 0, .string ⟨#[]⟩, .int .i64 0, .slice none 0 0] 25 (0, 0))
def svT (m : Option Nat) (w : World) (m' : Option Nat) (w' : World) : Prop := BH w w' ∧ (m' = m ∨ (m = none ∧ m' = some w.heap.size ∧ w'.heap[w.heap.size]? = some (.cells #[.int .i64 0, .string ⟨#[]⟩, .int .i64 0, .slice none 0 0] 25 (0, 0))))
theorem svI_T {W : World} (m : Option Nat) (w : World) (m' : Option Nat) (w' : World) (h : svI W m w) (t : svT m w m' w') : svI W m' w' := by
  obtain ⟨h1, h2⟩ := h
  obtain ⟨t1, t2⟩ := t
  refine ⟨BH.trans h1 t1, fun g hg => ?_⟩
  rcases t2 with rfl | ⟨rfl, rfl, t3⟩
  · obtain ⟨h3, h4⟩ := h2 g hg
    exact ⟨h3, (Below.block t1 _ (heap_lt h4)).trans h4⟩
  · cases hg
    exact ⟨Below.size h1, t3⟩
theorem svV_T {t by_ : Value} {y1 y2 y3 : Tm} (m m' : Option Nat) (j : Nat) (v : Value) (w w' : World) (h : svV t by_ y1 y2 y3 m j v w) (hT : svT m w m' w') : svV t by_ y1 y2 y3 m' j v w' := by
  obtain ⟨hb, hm⟩ := hT
  unfold svV at *
  split at h
  · exact h
  · exact h
  · obtain ⟨A, c, e, hk⟩ := h; exact ⟨A, c, e, hk.below hb⟩
  · exact h
  · obtain ⟨A, c, e, hk⟩ := h; exact ⟨A, c, e, hk.below hb⟩
  · exact h
  · obtain ⟨A, c, e, hk⟩ := h
    refine ⟨A, c, e, hk.keep (Below.size hb) fun x hx hl => ⟨Below.block hb x hl, ?_⟩⟩
    rcases hm with rfl | ⟨_, rfl, _⟩
    · exact hx
    · intro e; cases e; omega
  · obtain ⟨g, e, hg⟩ := h
    rcases hm with rfl | ⟨rfl, _, _⟩
    · exact ⟨g, e, hg⟩
    · cases hg
  · trivial

theorem infoI64z : (Tryd.prog.info? 3).map (fun i => (i.zero, i.size, i.bytes)) = some (some (.int .i64 0), 1, 8) := by kernel_rfl

set_option maxHeartbeats 16000000 in
set_option maxRecDepth 100000 in
theorem substituteVars_walk (a0 : Option Addr) (len0 cap0 : Nat) (z0 : List Int) (a1 : Option Addr) (len1 cap1 : Nat) (z1 : List Int) (n : Int) (w : World)
    (hr0 : IsRow .i64 w a0 len0 cap0 z0) (hr1 : IsRow .i64 w a1 len1 cap1 z1) (hb01 : len0 + len1 ≤ 1048576) (W : List (List UInt8)) (gw ow cw : Nat) (tW : TabW w 0 4 W gw ow cw) (hs : ∀ s ∈ W, s.length ≤ 1000) :
    Calls Tryd.prog 4 #[.slice a0 len0 cap0, .slice a1 len1 cap1, .int .i64 n] w fun e w' => e = .returned (.bool true) ∧ Below w.heap.size w w' := by
  have HI0 := Lib.hid hr0
  have HI1 := Lib.hid hr1
  have TW := Lib.hid tW
  have HSh := Lib.hid hs
  obtain ⟨i0, hi, hz0, hz1, hz2⟩ := info_parts infoI64z
  obtain ⟨hv0, hv1⟩ := modI_bounds n 4 (by decide)
  obtain ⟨V, hV⟩ : ∃ V, modI n 4 = V := ⟨_, rfl⟩
  rw [hV] at hv0 hv1
  have HV := Lib.hid hV
  clear hr0 hr1 tW hs hV
  go_enter Tryd.func4, Tryd.ntmps4
  go_wp2_with (fail)
  refine (new_any _ _ _ _).mono ?_
  rintro e1 u0 ⟨rfl, rfl⟩
  go_wp2_with (fail)
  refine (base_any _).mono ?_
  rintro e2 w1 ⟨AD1, cd1, rfl, hD, hb⟩
  have HB1 := Lib.hid ((bh_alloc (BH.refl w) (.cells #[.slice a0 len0 cap0, .int .i64 0] 42)).trans hb)
  obtain ⟨gd, od, rfl, hG⟩ := genD_new (Below.refl _ _) HI0.out.ints.1 HI0.out.ints.2 TW.out HSh.out hb hD
  have HG := Lib.hid hG
  clear hD hb hG
  go_wp2_with (fail)
  refine (mod_any n 4 _ (by decide) (by decide)).mono ?_
  rintro e9 u9 ⟨rfl, rfl⟩
  rw [HV.out]
  go_wp2_with (fail)
  refine (openTermC _ 0 V _ HG.out hv0 (by omega)).mono ?_
  rintro e3 w2 ⟨kx, k0, o0, t0, kids0, A0, c0, ys0, rfl, g1, g2, g3, g4, g5, g6, g7, g8, g9⟩
  have K0 := Lib.hid (KT.of g1 g2 g3)
  have s0 : fsize kids0 ≤ 4 * len0 := by
    have h := g8.st.2.2.2.1
    have h' : kx ≤ len0 := h
    omega
  have HC0 := Lib.hid g7
  have HL0 := Lib.hid g6
  have HB2 := Lib.hid (below_gb_of HB1.out g9 (Nat.le_refl _))
  clear g1 g2 g3 g4 g5 g6 g7 g8 g9 HG
  go_wp2_with (fail)
  obtain ⟨wY, hwY⟩ : ∃ wY, w2.alloc (.cells #[.int .i64 k0, .string ⟨t0.toArray⟩, .int .i64 o0, .slice A0 kids0.len c0] 25) = wY := ⟨_, rfl⟩
  have hY := bh_alloc (BH.refl w2) (.cells #[.int .i64 k0, .string ⟨t0.toArray⟩, .int .i64 o0, .slice A0 kids0.len c0] 25)
  have eY := heap_alloc_new w2 (.cells #[.int .i64 k0, .string ⟨t0.toArray⟩, .int .i64 o0, .slice A0 kids0.len c0] 25)
  rw [hwY] at hY eY ⊢
  obtain ⟨g7, hg7⟩ : ∃ g7, w2.heap.size = g7 := ⟨_, rfl⟩
  rw [hg7] at eY ⊢
  have EY := Lib.hid eY
  have KY := Lib.hid (K0.out.below hY)
  have BY := Lib.hid (show BH w wY from HB2.out.trans (hY.mono HB2.out.size))
  clear hY eY hwY hg7 K0 HB2 HB1
  refine (new_any _ _ _ _).mono ?_
  rintro e4 u1 ⟨rfl, rfl⟩
  go_wp2_with (fail)
  refine (base_any _).mono ?_
  rintro e5 w3 ⟨A9, c9, rfl, hD, hb⟩
  obtain ⟨gd2, od2, rfl, hG⟩ := genD_new BY.out HI1.out.ints.1 HI1.out.ints.2 TW.out HSh.out hb hD
  have HG := Lib.hid hG
  have HB3 := Lib.hid (BH.trans (bh_alloc (BH.refl wY) (.cells #[.slice a1 len1 cap1, .int .i64 0] 42)) hb)
  clear hD hb hG
  go_wp2_with (fail)
  refine (termC _ 0 _ HG.out).mono ?_
  rintro e6 w4 ⟨ky, k1, o1, t1, kids1, A1, c1, ys1, rfl, g1, g2, g3, g4, q5, g6, q7, g8, g9⟩
  have K1 := Lib.hid (KT.of g1 g2 g3)
  have hky : ky ≤ len1 := g8.st.2.2.2.1
  have s1 : fsize kids1 ≤ 4 * len1 := by omega
  have HB4 := Lib.hid (show BH wY w4 from below_gb_of HB3.out g9 (Nat.le_refl _))
  have HC1 := Lib.hid q7
  clear g1 g2 g3 g4 q5 g6 q7 g8 g9 HG HB3
  go_upto_region 3 with (fail)
  refine gen_wp _ (fun X => PZ w X g7 w4.heap.size k0 o0 t0 kids0 A0 c0 k1 o1 t1 kids1 A1 c1) ?_ ?_
  · have f1 := bh_alloc (BH.refl w4) (.cells #[.int .i64 k1, .string ⟨t1.toArray⟩, .int .i64 o1, .slice A1 kids1.len c1] 25)
    have h1 := heap_alloc_new w4 (.cells #[.int .i64 k1, .string ⟨t1.toArray⟩, .int .i64 o1, .slice A1 kids1.len c1] 25)
    have fY := BH.trans HB4.out f1
    exact ⟨(Below.block fY _ (heap_lt EY.out)).trans EY.out, h1, KY.out.below fY, K1.out.below f1, BH.trans BY.out fY⟩
  rintro W5 hP
  obtain ⟨g8, hg8⟩ : ∃ g8, w4.heap.size = g8 := ⟨_, rfl⟩
  rw [hg8] at hP ⊢
  clear hg8 K1 HB4 EY KY BY hky HI0 HI1 TW HSh HV
  -- the terms that come
  have hc0 := HC0.out
  have hc1 := HC1.out
  have hab : 4 * len0 + 4 * len1 ≤ 4194304 := by omega
  obtain ⟨x1, hx1⟩ : ∃ x1 : Tm, (⟨k1, t1, kids1, o1⟩ : Tm) = x1 := ⟨_, rfl⟩
  have hxk : x1.kids = kids1 := by rw [← hx1]
  have hxc : closed1 x1.k x1.o x1.kids 0 = true := by rw [← hx1]; exact hc1
  obtain ⟨y1, hy1⟩ : ∃ y, rep1 (Gs x1) shs k0 t0 o0 kids0 0 = y := ⟨_, rfl⟩
  obtain ⟨y2, hy2⟩ : ∃ y, rep1 (Gs x1) shs y1.k y1.t y1.o y1.kids 0 = y := ⟨_, rfl⟩
  obtain ⟨y3, hy3⟩ : ∃ y, rep1 (Gs x1) shs y2.k y2.t y2.o y2.kids 0 = y := ⟨_, rfl⟩
  have n1 : rep1 (Gn 1 x1) (shn 1) k0 t0 o0 kids0 0 = y1 := by rw [← rep1_gs]; exact hy1
  have n2 : rep1 (Gn 2 x1) (shn 2) k0 t0 o0 kids0 0 = y2 := by rw [← hy2]; exact (rep1_comp x1 hxc 1 (by decide) k0 t0 o0 kids0 0 (Int.le_refl 0) n1).symm
  have n3 : rep1 (Gn 3 x1) (shn 3) k0 t0 o0 kids0 0 = y3 := by rw [← hy3]; exact (rep1_comp x1 hxc 2 (by decide) k0 t0 o0 kids0 0 (Int.le_refl 0) n2).symm
  have z3 : rep1 (Gi (L3 x1)) shi k0 t0 o0 kids0 0 = y3 := by rw [← n3]; exact ins_three x1 k0 t0 o0 kids0 V (by omega) hc0
  have hx2 : fsize x1.kids ≤ 4 * len1 := by rw [hxk]; exact s1
  have S1 := gn_size hab hx2 s0 n1
  have S2 := gn_size hab hx2 s0 n2
  have S3 := gn_size hab hx2 s0 n3
  have W0 : wid kids0 := wid_of_size (by omega)
  have WG : ∀ f z, Gs x1 f = some z → wid z.kids := fun f z hz => by rw [Gs_some hz]; exact wid_of_size (by omega)
  have W1 : wid y1.kids := by rw [← hy1]; exact rep1_wid WG _ _ _ _ _ W0
  have W2 : wid y2.kids := by rw [← hy2]; exact rep1_wid WG _ _ _ _ _ W1
  have CG : ∀ f z, 0 ≤ f → f < V → Gs x1 f = some z → closed1 z.k z.o z.kids 0 = true := fun f z _ _ hz => by rw [Gs_some hz]; exact hxc
  have CHs : ∀ f b : Int, 0 ≤ f → f < V → Gs x1 f = none → shs (f + b) < b + V := fun f b _ hf _ => by unfold shs; omega
  have D1 : closed1 y1.k y1.o y1.kids V = true := by
    have h := closed1_rep (G := Gs x1) (sh := shs) hv0 CG CHs t0 (Int.le_refl 0) (show closed1 k0 o0 kids0 (0 + V) = true by simpa using hc0)
    rw [hy1] at h
    simpa using h
  have D2 : closed1 y2.k y2.o y2.kids V = true := by
    have h := closed1_rep (G := Gs x1) (sh := shs) hv0 CG CHs y1.t (Int.le_refl 0) (show closed1 y1.k y1.o y1.kids (0 + V) = true by simpa using D1)
    rw [hy2] at h
    simpa using h
  have D3 : closed1 y3.k y3.o y3.kids 0 = true := by
    have h := closed1_rep (G := Gi (L3 x1)) (sh := shi) (V := V) (V' := 0) (Int.le_refl 0) (fun f z h0 h1 hz => by rw [gi_l3 x1 f h0 (by omega)] at hz; cases hz; exact hxc) (fun f b h0 h1 hz => by rw [gi_l3 x1 f h0 (by omega)] at hz; cases hz) t0 (Int.le_refl 0) (show closed1 k0 o0 kids0 (0 + V) = true by simpa using hc0)
    rw [z3] at h
    simpa using h
  obtain ⟨R, hR⟩ : ∃ R, setI (free1 k0 o0 kids0 0) = R := ⟨_, rfl⟩
  have hR1 : setI (free1 y1.k y1.o y1.kids 0) = down R := by
    rw [free1_sub x1 hxc (V := V) (by omega) t0 HL0.out (Int.le_refl 0) (by simpa using hc0) hy1, setI_down, hR]
  have hR3 : setI (free1 y3.k y3.o y3.kids 0) = [] := by
    rw [(free1_nil _ _ _ _).2 D3, setI_nil]
  have hRb : ∀ x ∈ R, 0 ≤ x ∧ x < V := by
    intro x hx
    rw [← hR] at hx
    exact free1_lt (V := V) (b := 0) (by omega) (by simpa using hc0) x (mem_setI hx)
  have hRl : R.length ≤ 4294967296 := by
    have h1 := setI_len (free1 k0 o0 kids0 0)
    have h2 := free1_len k0 o0 kids0 0
    rw [hR] at h1; omega
  obtain ⟨nR, hnR⟩ : ∃ nR, R.length = nR := ⟨_, rfl⟩
  have hkk : ∀ (x : Tm) A c, Value.agg #[.int .i64 x.k, .string ⟨x.t.toArray⟩, .int .i64 x.o, .slice A x.kids.len c] = Value.agg #[.int .i64 x.k, .string ⟨x.t.toArray⟩, .int .i64 x.o, .slice A x.kids.len c] := fun _ _ _ => rfl
  clear hkk
  have CF0 : Hid (∀ X, PZ w X g7 g8 k0 o0 t0 kids0 A0 c0 k1 o1 t1 kids1 A1 c1 → Calls Tryd.prog 17 #[.agg #[.int .i64 k0, .string ⟨t0.toArray⟩, .int .i64 o0, .slice A0 kids0.len c0]] X fun e u => ∃ A' c', e = .returned (.slice A' nR c') ∧ Cel u 1 A' R.length c' (R.map (Value.int .i64)) ∧ BH X u) := Lib.hid (by
    intro X h
    refine (freeVars_any k0 o0 t0 kids0 A0 c0 X (by omega) h.r0 hR).mono ?_
    rintro e u ⟨v', rfl, ho, hb⟩
    obtain ⟨A', c', rfl, _⟩ := own_shape ho
    rw [← hnR]
    exact ⟨A', c', rfl, Cel.of_own ho, hb⟩)
  have CS1 : Hid (∀ X, PZ w X g7 g8 k0 o0 t0 kids0 A0 c0 k1 o1 t1 kids1 A1 c1 → Calls Tryd.prog 12 #[.agg #[.int .i64 k0, .string ⟨t0.toArray⟩, .int .i64 o0, .slice A0 kids0.len c0], .agg #[.int .i64 k1, .string ⟨t1.toArray⟩, .int .i64 o1, .slice A1 kids1.len c1]] X fun e u => ∃ A c, e = .returned (.agg #[.int .i64 y1.k, .string ⟨y1.t.toArray⟩, .int .i64 y1.o, .slice A y1.kids.len c]) ∧ KT u y1.kids A c ∧ BH X u) := Lib.hid (by
    intro X h
    refine (substitute_any V k0 o0 t0 kids0 A0 c0 ⟨k1, t1, kids1, o1⟩ A1 c1 X hv0 (by omega) (by omega) W0 (by show fsize kids1 ≤ _; omega) h.r0 h.r1 hc0).mono ?_
    rintro e u ⟨A, c, h1, h2, h3⟩
    rw [hx1, hy1] at h1 h2
    exact ⟨A, c, h1, h2.kt, h3⟩)
  have CS2 : Hid (∀ X A c, PZ w X g7 g8 k0 o0 t0 kids0 A0 c0 k1 o1 t1 kids1 A1 c1 → KT X y1.kids A c → Calls Tryd.prog 12 #[.agg #[.int .i64 y1.k, .string ⟨y1.t.toArray⟩, .int .i64 y1.o, .slice A y1.kids.len c], .agg #[.int .i64 k1, .string ⟨t1.toArray⟩, .int .i64 o1, .slice A1 kids1.len c1]] X fun e u => ∃ A c, e = .returned (.agg #[.int .i64 y2.k, .string ⟨y2.t.toArray⟩, .int .i64 y2.o, .slice A y2.kids.len c]) ∧ KT u y2.kids A c ∧ BH X u) := Lib.hid (by
    intro X A c h hk
    refine (substitute_any V y1.k y1.o y1.t y1.kids A c ⟨k1, t1, kids1, o1⟩ A1 c1 X hv0 (by omega) (by omega) W1 (by show fsize kids1 ≤ _; omega) hk h.r1 D1).mono ?_
    rintro e u ⟨A, c, h1, h2, h3⟩
    rw [hx1, hy2] at h1 h2
    exact ⟨A, c, h1, h2.kt, h3⟩)
  have CS3 : Hid (∀ X A c, PZ w X g7 g8 k0 o0 t0 kids0 A0 c0 k1 o1 t1 kids1 A1 c1 → KT X y2.kids A c → Calls Tryd.prog 12 #[.agg #[.int .i64 y2.k, .string ⟨y2.t.toArray⟩, .int .i64 y2.o, .slice A y2.kids.len c], .agg #[.int .i64 k1, .string ⟨t1.toArray⟩, .int .i64 o1, .slice A1 kids1.len c1]] X fun e u => ∃ A c, e = .returned (.agg #[.int .i64 y3.k, .string ⟨y3.t.toArray⟩, .int .i64 y3.o, .slice A y3.kids.len c]) ∧ KS u (fun y => NS y ∨ X.heap.size ≤ y) y3.kids A c ∧ BH X u) := Lib.hid (by
    intro X A c h hk
    refine (substitute_any V y2.k y2.o y2.t y2.kids A c ⟨k1, t1, kids1, o1⟩ A1 c1 X hv0 (by omega) (by omega) W2 (by show fsize kids1 ≤ _; omega) hk h.r1 D2).mono ?_
    rintro e u ⟨A, c, h1, h2, h3⟩
    rw [hx1, hy3] at h1 h2
    exact ⟨A, c, h1, h2, h3⟩)
  have CF1 : Hid (∀ X A c, KT X y1.kids A c → Calls Tryd.prog 17 #[.agg #[.int .i64 y1.k, .string ⟨y1.t.toArray⟩, .int .i64 y1.o, .slice A y1.kids.len c]] X fun e u => ∃ A' c', e = .returned (.slice A' (down R).length c') ∧ Cel u 1 A' (down R).length c' ((down R).map (Value.int .i64)) ∧ BH X u) := Lib.hid (by
    intro X A c h
    refine (freeVars_any y1.k y1.o y1.t y1.kids A c X S1 h hR1).mono ?_
    rintro e u ⟨v', rfl, ho, hb⟩
    obtain ⟨A', c', rfl, _⟩ := own_shape ho
    exact ⟨A', c', rfl, Cel.of_own ho, hb⟩)
  have CFz : Hid (∀ X A c, KT X y3.kids A c → Calls Tryd.prog 17 #[.agg #[.int .i64 y3.k, .string ⟨y3.t.toArray⟩, .int .i64 y3.o, .slice A y3.kids.len c]] X fun e u => ∃ A' c', e = .returned (.slice A' 0 c') ∧ BH X u) := Lib.hid (by
    intro X A c h
    refine (freeVars_any y3.k y3.o y3.t y3.kids A c X S3 h hR3).mono ?_
    rintro e u ⟨v', rfl, ho, hb⟩
    obtain ⟨A', c', rfl, _⟩ := own_shape ho
    exact ⟨A', c', rfl, hb⟩)
  have CI : Hid (∀ X g, PZ w X g7 g8 k0 o0 t0 kids0 A0 c0 k1 o1 t1 kids1 A1 c1 → X.heap[g]? = some (.cells #[.int .i64 k1, .string ⟨t1.toArray⟩, .int .i64 o1, .slice A1 kids1.len c1, .int .i64 k1, .string ⟨t1.toArray⟩, .int .i64 o1, .slice A1 kids1.len c1, .int .i64 k1, .string ⟨t1.toArray⟩, .int .i64 o1, .slice A1 kids1.len c1] 25 (0, 0)) →
      Calls Tryd.prog 14 #[.agg #[.int .i64 k0, .string ⟨t0.toArray⟩, .int .i64 o0, .slice A0 kids0.len c0], .slice (some ⟨g, 0, none⟩) 3 3] X fun e u => ∃ A c, e = .returned (.agg #[.int .i64 y3.k, .string ⟨y3.t.toArray⟩, .int .i64 y3.o, .slice A y3.kids.len c]) ∧ KT u y3.kids A c ∧ BH X u) := Lib.hid (by
    intro X g h hg
    have h3 := h.three hg
    rw [hx1] at h3
    have hh := instantiate_any V k0 o0 t0 kids0 A0 c0 (L3 x1) (some ⟨g, 0, none⟩) 3 X hv0 (by omega) (by omega) W0 (by simp only [L3, fsize]; omega) h.r0 h3 hc0
    rw [show (L3 x1).len = 3 from rfl] at hh
    refine hh.mono ?_
    rintro e u ⟨A, c, h1, h2, h3⟩
    rw [z3] at h1 h2
    exact ⟨A, c, h1, h2.kt, h3⟩)
  have CE : Hid (∀ X A c A' c', KT X y3.kids A c → KT X y3.kids A' c' → Calls Tryd.prog 11 #[.agg #[.int .i64 y3.k, .string ⟨y3.t.toArray⟩, .int .i64 y3.o, .slice A y3.kids.len c], .agg #[.int .i64 y3.k, .string ⟨y3.t.toArray⟩, .int .i64 y3.o, .slice A' y3.kids.len c']] X fun e u => e = .returned (.bool true) ∧ BH X u) := Lib.hid (by
    intro X A c A' c' h h'
    refine (equalT_any y3.k y3.o y3.k y3.o y3.t y3.t y3.kids y3.kids A A' c c' X (by omega) (by omega) h h').mono ?_
    rintro e u ⟨rfl, hb⟩
    exact ⟨by rw [cmp1_self]; rfl, hb⟩)
  have HRb := Lib.hid hRb
  have HnR := Lib.hid hnR
  have HRl : Hid ((down R).length ≤ 8796093022208) := Lib.hid (by
    have h1 := setI_len (free1 y1.k y1.o y1.kids 0)
    have h2 := free1_len y1.k y1.o y1.kids 0
    rw [hR1] at h1
    omega)
  rw [hnR] at hRl
  have HP := Lib.hid hP
  clear hP hR hR1 hR3 hRb hnR hc0 hc1 hab hx1 hxk hxc hy1 hy2 hy3 n1 n2 n3 z3 hx2 S1 S2 S3 W0 WG W1 W2 CG CHs D1 D2 D3 s0 s1 HC0 HC1 HL0 x1 hb01
  obtain ⟨p0, p1, p2, p3, q0, q1, q2, q3⟩ := HP.out.cells
  go_wp2_with (fail)
  refine (CF0.out _ HP.out).mono ?_
  rintro e u1 ⟨A9, c9, rfl, hcel, hb⟩
  have HC9 := Lib.hid hcel
  have HP1 := Lib.hid (HP.out.bh hb)
  clear hcel hb p0 p1 p2 p3 q0 q1 q2 q3 HP
  obtain ⟨p0, p1, p2, p3, q0, q1, q2, q3⟩ := HP1.out.cells
  go_wp2_with (fail)
  refine (CS1.out _ HP1.out).mono ?_
  rintro e u2 ⟨Ay, cy, rfl, hk, hb⟩
  have HKy := Lib.hid hk
  have HC9' := Lib.hid (HC9.out.bh hb)
  have HP2 := Lib.hid (HP1.out.bh hb)
  clear hk hb p0 p1 p2 p3 q0 q1 q2 q3 HP1 HC9
  go_wp2_with (fail)
  refine (CF1.out _ _ _ HKy.out).mono ?_
  rintro e u3 ⟨A10, c10, rfl, hcel, hb⟩
  have HC10 := Lib.hid hcel
  have HC9 := Lib.hid (HC9'.out.bh hb)
  have HP3 := Lib.hid (HP2.out.bh hb)
  clear hcel hb HP2 HC9' HKy
  obtain ⟨nD, hnD⟩ : ∃ nD, (down R).length = nD := ⟨_, rfl⟩
  rw [hnD]
  have HnD := Lib.hid hnD
  clear hnD
  go_wp2_with (fail)
  go_loopw [11, 12] (fun s11 s12 wr => ∃ (i : Nat) (acc : List Int), s12 = .int .i64 (i : Int) ∧ i ≤ nR ∧ wr.ownsRow u3.heap.size 3 1 s11 acc.length (acc.map (Value.int .i64)) ∧ BH u3 wr ∧ Hid (acc = down (R.take i)) ∧ acc.length ≤ i) (fun _ s12 _ => nR - (match s12 with | .int _ n => n.toNat | _ => 0))
  case atStart => exact ⟨0, [], rfl, Nat.zero_le _, World.ownsRow_nil _ _ _ _, BH.refl _, Lib.hid rfl, Nat.zero_le _⟩
  case round =>
    obtain ⟨i, acc, rfl, hiR, hown, hbh, hacc, hal⟩ := hrel
    obtain ⟨A5, c5, rfl, hc5⟩ := own_shape hown
    have HOw := Lib.hid hown
    have HBh := Lib.hid hbh
    clear hown hbh hc5
    by_cases hlt : i < nR
    · obtain ⟨g, off, rfl, hg, r0⟩ := (HC9.out.bh HBh.out).int_at (k := i) (by rw [HnR.out]; exact hlt)
      have hxb : 0 ≤ R.getD i 0 ∧ R.getD i 0 < V := by
        have hl' : i < R.length := by rw [HnR.out]; exact hlt
        refine HRb.out _ ?_
        rw [List.getD_eq_getElem?_getD, List.getElem?_eq_getElem hl', Option.getD_some]
        exact List.getElem_mem hl'
      have HDt := Lib.hid (down_take R i (by rw [HnR.out]; exact hlt))
      obtain ⟨x, hx⟩ : ∃ x, R.getD i 0 = x := ⟨_, rfl⟩
      rw [hx] at r0 hxb HDt
      have hge : decide ((i : Int) < (nR : Int)) = true := by rw [decide_eq_true_eq]; omega
      have hiL : (i : Int) < (nR : Int) := by omega
      have hi0 : (0 : Int) ≤ (i : Int) := by omega
      clear hx
      by_cases hx0 : 0 < x
      · have t1 : decide (0 < x) = true := by rw [decide_eq_true_eq]; exact hx0
        have hwx : IntKind.i64.wrap (x - 1) = x - 1 := (IntKind.wrap_i64 _).trans (by omega)
        go_wp2_with (at_builtin; go_loud (refine wpList_app _ (by rfl) _ _ _ (by rfl) u3.heap.size 3 i0 _ 1 8 Tryd.underlying22 hi hz0 hz1 hz2 rfl (by decide) (.slice A5 acc.length c5) acc.length (acc.map (Value.int .i64)) (by rfl) (HOw.out.alloc _) (some ⟨wr.heap.size, 0, none⟩) 1 1 [.int .i64 (x - 1)] (by rfl) (cel1 (heap_alloc_new wr _)) (one_cell [x - 1]) (by unfold maxLen; omega) (by omega) (by have := Below.size HBh.out; simp; omega) ?_))
        intro v1 w5 ho hg1 ha
        obtain ⟨A6, c6, rfl, hc6⟩ := own_shape ho
        have HO := Lib.hid ho
        have HB5 := Lib.hid (bh_own (bh_alloc HBh.out (.cells #[.int .i64 (x - 1)] 3)) hg1 (fun q hq => (HOw.out.lt q hq).1))
        clear ho hg1 ha hc6
        go_wp2_with (fail)
        refine ⟨⟨i + 1, acc ++ [x - 1], rfl, hlt, by rw [List.length_append, List.map_append]; exact HO.out, HB5.out, Lib.hid ?_, by simp; omega⟩, by simp; omega⟩
        rw [HDt.out, if_pos hx0, hacc.out]
      · have t1 : decide (0 < x) = false := by rw [decide_eq_false_iff_not]; exact hx0
        go_wp2_with (fail)
        refine ⟨⟨i + 1, acc, rfl, hlt, HOw.out, HBh.out, Lib.hid ?_, by omega⟩, by simp; omega⟩
        rw [HDt.out, if_neg hx0, hacc.out, List.append_nil]
    · have hge : decide ((i : Int) < (nR : Int)) = false := by rw [decide_eq_false_iff_not]; omega
      have hge2 : decide (i < nR) = false := by rw [decide_eq_false_iff_not]; omega
      have hacc' : acc = down R := by
        have h := hacc.out
        rwa [List.take_of_length_le (by rw [HnR.out]; omega)] at h
      subst hacc'
      have HC11 := Lib.hid (Cel.of_own HOw.out)
      have HP4 := Lib.hid (HP3.out.bh HBh.out)
      have HC10' := Lib.hid (HC10.out.bh HBh.out)
      rw [HnD.out]
      obtain ⟨p0, p1, p2, p3, q0, q1, q2, q3⟩ := HP4.out.cells
      clear hacc hal hiR HC9 HP3 HC10
      go_wp2_with (fail)
      have hF := bh_alloc (BH.refl wr) (.cells #[.int .i64 k1, .string ⟨t1.toArray⟩, .int .i64 o1, .slice A1 kids1.len c1, .int .i64 k1, .string ⟨t1.toArray⟩, .int .i64 o1, .slice A1 kids1.len c1, .int .i64 k1, .string ⟨t1.toArray⟩, .int .i64 o1, .slice A1 kids1.len c1] 25)
      refine (CI.out _ _ (HP4.out.bh hF) (heap_alloc_new wr _)).mono ?_
      rintro e u5 ⟨Az, cz, rfl, hkz, hb⟩
      have HPW : Hid (∀ Y, BH u5 Y → PZ w Y g7 g8 k0 o0 t0 kids0 A0 c0 k1 o1 t1 kids1 A1 c1 ∧ KT Y y3.kids Az cz ∧ Cel Y 1 A10 (down R).length c10 ((down R).map (Value.int .i64)) ∧ Cel Y 1 A5 (down R).length c5 ((down R).map (Value.int .i64))) := Lib.hid fun Y hY =>
        have hbY := BH.trans (BH.trans hF hb) hY
        ⟨HP4.out.bh hbY, hkz.below hY, HC10'.out.bh hbY, HC11.out.bh hbY⟩
      clear hF hkz hb HP4 HC10' HC11 p0 p1 p2 p3 q0 q1 q2 q3 HOw HBh
      go_upto_region 12 with (fail)
      refine gen_wp _ (fun X => PW w X g7 g8 u5.heap.size k0 o0 t0 kids0 A0 c0 k1 o1 t1 kids1 A1 c1 y3 Az cz (down R) A10 c10 A5 c5) ?_ ?_
      · have f1 := bh_alloc (BH.refl u5) (.cells #[.int .i64 y3.k, .string ⟨y3.t.toArray⟩, .int .i64 y3.o, .slice Az y3.kids.len cz] 25)
        obtain ⟨h1, h2, h3, h4⟩ := HPW.out _ f1
        exact ⟨h1, heap_alloc_new u5 _, h2, h3, h4⟩
      rintro W6 hP
      obtain ⟨g13, hg13⟩ : ∃ g13, u5.heap.size = g13 := ⟨_, rfl⟩
      rw [hg13] at hP ⊢
      have HP := Lib.hid hP
      clear hg13 hP HPW
      go_cut [14] (fun s14 wx => ∃ (g14 : Nat) (A : Option Addr) (c : Nat), s14 = .pointer (some ⟨g14, 0, none⟩) ∧ Hid (PW w wx g7 g8 g13 k0 o0 t0 kids0 A0 c0 k1 o1 t1 kids1 A1 c1 y3 Az cz (down R) A10 c10 A5 c5 ∧ wx.heap[g14]? = some (.cells #[.int .i64 y3.k, .string ⟨y3.t.toArray⟩, .int .i64 y3.o, .slice A y3.kids.len c] 25 (0, 0)) ∧ KT wx y3.kids A c))
      case first =>
        obtain ⟨RR, hRR⟩ : ∃ RR : Act → World → Prop, RR = (fun a W => Hid (∃ (g14 : Nat) (A : Option Addr) (c : Nat), a.tmps.getD 14 undef = .pointer (some ⟨g14, 0, none⟩) ∧ PW w W g7 g8 g13 k0 o0 t0 kids0 A0 c0 k1 o1 t1 kids1 A1 c1 y3 Az cz (down R) A10 c10 A5 c5 ∧ W.heap[g14]? = some (.cells #[.int .i64 y3.k, .string ⟨y3.t.toArray⟩, .int .i64 y3.o, .slice A y3.kids.len c] 25 (0, 0)) ∧ KT W y3.kids A c)) := ⟨_, rfl⟩
        refine wp_region_last (by kernel_rfl) (svV (.agg #[.int .i64 k0, .string ⟨t0.toArray⟩, .int .i64 o0, .slice A0 kids0.len c0]) (.agg #[.int .i64 k1, .string ⟨t1.toArray⟩, .int .i64 o1, .slice A1 kids1.len c1]) y1 y2 y3) (svI W6) svT (fun j m => j = 7 → m = none)
          RR
          none 8 _ rfl ⟨below_drew W6, fun g h => by cases h⟩ (fun _ _ => rfl) svI_T svV_T (by kernel_rfl) ?_ ?_ ?_
        · refine ⟨?_, ?_, ?_, ?_, ?_, ?_, ?_, ?_, trivial⟩
          · intro m a W hI hZm hF hD
            have h := same_of hF 7 (by kernel_rfl)
            obtain ⟨p0, p1, p2, p3, q0, q1, q2, q3⟩ := (HP.out.p.bh hI.1).cells
            go_simp
            exact ⟨_, rfl, m, rfl, ⟨BH.refl _, .inl rfl⟩, fun _ _ h => h⟩
          · intro m a W hI hZm hF hD
            have h := same_of hF 8 (by kernel_rfl)
            obtain ⟨p0, p1, p2, p3, q0, q1, q2, q3⟩ := (HP.out.p.bh hI.1).cells
            go_simp
            exact ⟨_, rfl, m, rfl, ⟨BH.refl _, .inl rfl⟩, fun _ _ h => h⟩
          · intro m a W hI hZm hF hD
            have p : a.tmps[56]?.getD undef = .agg #[.int .i64 k0, .string ⟨t0.toArray⟩, .int .i64 o0, .slice A0 kids0.len c0] := dep_of hD 0 56 (by kernel_rfl) rfl rfl
            have p' : a.tmps[57]?.getD undef = .agg #[.int .i64 k1, .string ⟨t1.toArray⟩, .int .i64 o1, .slice A1 kids1.len c1] := dep_of hD 1 57 (by kernel_rfl) rfl rfl
            go_simp
            refine (CS1.out W (HP.out.p.bh hI.1)).mono ?_
            rintro e u ⟨A, c, rfl, hk, hb⟩
            exact ⟨_, rfl, m, ⟨A, c, rfl, hk⟩, ⟨hb, .inl rfl⟩, fun _ _ h => h⟩
          · intro m a W hI hZm hF hD
            have h := same_of hF 8 (by kernel_rfl)
            obtain ⟨p0, p1, p2, p3, q0, q1, q2, q3⟩ := (HP.out.p.bh hI.1).cells
            go_simp
            exact ⟨_, rfl, m, rfl, ⟨BH.refl _, .inl rfl⟩, fun _ _ h => h⟩
          · intro m a W hI hZm hF hD
            obtain ⟨Ay, cy, p, hky⟩ : ∃ A c, a.tmps[58]?.getD undef = .agg #[.int .i64 y1.k, .string ⟨y1.t.toArray⟩, .int .i64 y1.o, .slice A y1.kids.len c] ∧ KT W y1.kids A c := dep_of hD 2 58 (by kernel_rfl) rfl rfl
            have p' : a.tmps[59]?.getD undef = .agg #[.int .i64 k1, .string ⟨t1.toArray⟩, .int .i64 o1, .slice A1 kids1.len c1] := dep_of hD 3 59 (by kernel_rfl) rfl rfl
            go_simp
            refine (CS2.out W Ay cy (HP.out.p.bh hI.1) hky).mono ?_
            rintro e u ⟨A, c, rfl, hk, hb⟩
            exact ⟨_, rfl, m, ⟨A, c, rfl, hk⟩, ⟨hb, .inl rfl⟩, fun _ _ h => h⟩
          · intro m a W hI hZm hF hD
            have h := same_of hF 8 (by kernel_rfl)
            obtain ⟨p0, p1, p2, p3, q0, q1, q2, q3⟩ := (HP.out.p.bh hI.1).cells
            go_simp
            exact ⟨_, rfl, m, rfl, ⟨BH.refl _, .inl rfl⟩, fun _ _ h => h⟩
          · intro m a W hI hZm hF hD
            obtain ⟨Ay, cy, p, hky⟩ : ∃ A c, a.tmps[60]?.getD undef = .agg #[.int .i64 y2.k, .string ⟨y2.t.toArray⟩, .int .i64 y2.o, .slice A y2.kids.len c] ∧ KT W y2.kids A c := dep_of hD 4 60 (by kernel_rfl) rfl rfl
            have p' : a.tmps[61]?.getD undef = .agg #[.int .i64 k1, .string ⟨t1.toArray⟩, .int .i64 o1, .slice A1 kids1.len c1] := dep_of hD 5 61 (by kernel_rfl) rfl rfl
            go_simp
            refine (CS3.out W Ay cy (HP.out.p.bh hI.1) hky).mono ?_
            rintro e u ⟨A, c, rfl, hk, hb⟩
            refine ⟨_, rfl, m, ⟨A, c, rfl, hk.keep (Nat.le_refl _) fun x hx _ => ⟨rfl, fun e => ?_⟩⟩, ⟨hb, .inl rfl⟩, fun _ _ h => h⟩
            rcases hx with hx | hx
            · exact hx
            · have := heap_lt (hI.2 x e).2
              omega
          · intro m a W hI hZm hF hD
            obtain rfl : m = none := hZm rfl
            go_simp
            exact ⟨_, rfl, some W.heap.size, ⟨_, rfl, rfl⟩, ⟨bh_alloc (BH.refl _) _, .inr ⟨rfl, rfl, heap_alloc_new W _⟩⟩, fun j hj e => absurd e hj⟩
        · intro m a W hI hF hall
          obtain ⟨g, h14, rfl⟩ : ∃ g, a.tmps[14]?.getD undef = .pointer (some ⟨g, 0, none⟩) ∧ m = some g := all_of hall 7 14 rfl rfl
          obtain ⟨A, c, h62, hk⟩ : ∃ A c, a.tmps[62]?.getD undef = .agg #[.int .i64 y3.k, .string ⟨y3.t.toArray⟩, .int .i64 y3.o, .slice A y3.kids.len c] ∧ KS W (fun x => some g ≠ some x) y3.kids A c := all_of hall 6 62 rfl rfl
          obtain ⟨hg, hblk⟩ := hI.2 g rfl
          obtain ⟨c0, c1, c2, c3, z0, z1, z2, z3⟩ := row4 hblk
          go_simp
          have hbs := below_gb_of (BH.refl W6) (s4_gb (gb_below hI.1 (some g)) hg (.int .i64 y3.k) (.string ⟨y3.t.toArray⟩) (.int .i64 y3.o) (.slice A y3.kids.len c)) hg
          exact Lib.hid ⟨HP.out.bh hbs, A, c, s4 hblk _ _ _ _, (hk.keep (S' := fun _ => True) (by simp [size_set]) fun x hx hl => ⟨s4_far (fun e => hx (by rw [e])) _ _ _ _, trivial⟩).kt⟩
        · intro a W hF hR
          rw [hRR] at hR
          obtain ⟨g, A, c, h14, hq⟩ := hR.out
          have HQ := Lib.hid hq
          have HA := Lib.hid (Frm.act hF)
          have H14 := Lib.hid h14
          clear hq hF h14
          simp only [Exit.inBlock, Exit.then]
          apply_assumption
          refine Met.intro ?_
          go_step
          (repeat apply Exists.intro)
          refine ⟨?rela, ?eqa⟩
          case eqa => exact HA.out.trans rfl
          exact ⟨g, A, c, H14.out, Lib.hid HQ.out⟩
      case rest =>
        obtain ⟨g14, A14, c14, rfl, hC⟩ := hcut
        have HC := Lib.hid hC.out
        clear hC HP
        obtain ⟨d0, d1, d2, d3, _⟩ := row4 HC.out.1.bz
        obtain ⟨f0, f1, f2, f3, _⟩ := row4 HC.out.2.1
        go_wp2_with (fail)
        refine (check2_any _).mono ?_
        rintro e v1 ⟨rfl, hb⟩
        have HC1 := Lib.hid (And.intro (HC.out.1.bh hb) (And.intro ((Below.block hb _ (heap_lt HC.out.2.1)).trans HC.out.2.1) (HC.out.2.2.below hb)))
        clear hb HC d0 d1 d2 d3 f0 f1 f2 f3
        go_wp2_with (fail)
        have hSI := sameInts_any (down R) A10 A5 c10 c5 v1 HC1.out.1.i10 HC1.out.1.i11 HRl.out
        rw [HnD.out] at hSI
        refine hSI.mono ?_
        clear hSI
        rintro e v2 ⟨rfl, hb⟩
        have HC2 := Lib.hid (And.intro (HC1.out.1.bh hb) (And.intro ((Below.block hb _ (heap_lt HC1.out.2.1)).trans HC1.out.2.1) (HC1.out.2.2.below hb)))
        clear hb HC1
        obtain ⟨d0, d1, d2, d3, _⟩ := row4 HC2.out.1.bz
        go_wp2_with (fail)
        refine (CFz.out _ _ _ HC2.out.1.rz).mono ?_
        rintro e v3 ⟨A15, c15, rfl, hb⟩
        have HC3 := Lib.hid (And.intro (HC2.out.1.bh hb) (And.intro ((Below.block hb _ (heap_lt HC2.out.2.1)).trans HC2.out.2.1) (HC2.out.2.2.below hb)))
        clear hb HC2 d0 d1 d2 d3
        obtain ⟨d0, d1, d2, d3, _⟩ := row4 HC3.out.1.bz
        obtain ⟨f0, f1, f2, f3, _⟩ := row4 HC3.out.2.1
        go_wp2_with (fail)
        refine (CE.out _ _ _ _ _ HC3.out.1.rz HC3.out.2.2).mono ?_
        rintro e v4 ⟨rfl, hb⟩
        have HF := Lib.hid (BH.trans HC3.out.1.p.bel hb)
        clear hb
        go_wp2_with (fail)
        go_ret
        exact ⟨rfl, HF.out⟩
end Go.Proofs.YtddfpbcdopcdhaaDoor.TL
