/- tellaw2.TermSubstitute: the walk. What is laid: the leaves' names. The bound: each list has at most 2^20 integers. -/
import Derived.Test.YtddfpbcdopcdhaaDoorSbD
import Derived.Test.YtddfpbcdopcdhaaDoorTeq
set_option linter.unusedVariables false
set_option linter.unusedSimpArgs false
namespace Go.Proofs.YtddfpbcdopcdhaaDoor
open Go.RowKit Sx TL

theorem requalT_any (k o k' o' : Int) (t t' : List UInt8) (kids kids' : Fo) (A A' : Option Addr) (c c' : Nat) (w : World) (hN2 : fsize kids ≤ 4611686018427387904) (hN3 : fsize kids' ≤ 4611686018427387904) (hK : KT w kids A c) (hK' : KT w kids' A' c') :
    Calls Tryd.prog 16 #[.agg #[.int .i64 k, .string ⟨t.toArray⟩, .int .i64 o, .slice A kids.len c], .agg #[.int .i64 k', .string ⟨t'.toArray⟩, .int .i64 o', .slice A' kids'.len c']] w fun e w' => e = .returned (.bool (cmp1 k t o kids k' t' o' kids' == 0)) ∧ Below w.heap.size w w' := by
  have B2 : Below w.heap.size w ((w.alloc (.cells #[.int .i64 k, .string ⟨t.toArray⟩, .int .i64 o, .slice A kids.len c] 25 (0, 0))).alloc (.cells #[.int .i64 k', .string ⟨t'.toArray⟩, .int .i64 o', .slice A' kids'.len c'] 25 (0, 0))) :=
    ((Below.refl _ _).alloc (Nat.le_refl _) _).alloc (by simp) _
  have HC := Lib.hid (rcompare_any (fsize kids) k o k' o' t t' kids kids' A A' c c' _ (Nat.le_refl _) hN2 hN3 (hK.below B2) (hK'.below B2))
  have HB := Lib.hid B2
  clear B2 hK hK'
  go_enter Tryd.func16, Tryd.ntmps16
  go_wp2_with (go_at_call 33; refine HC.out.mono ?_; rintro e w4 ⟨rfl, hb⟩; have HB4 := Lib.hid hb; clear hb)
  go_ret
  exact ⟨rfl, HB.out.trans (HB4.out.mono HB.out.size)⟩
theorem two_blocks {w w4 : World} {c0 c1 : Array Value} {T0 T1 : TypeId} (h : (w.alloc (.cells c0 T0)).alloc (.cells c1 T1) = w4) :
    w4.heap[w.heap.size]? = some (.cells c0 T0 (0, 0)) ∧ w4.heap[w.heap.size + 1]? = some (.cells c1 T1 (0, 0)) ∧ w4.heap.size = w.heap.size + 2 ∧ BH w w4 := by
  subst h
  have f1 := bh_alloc (BH.refl w) (.cells c0 T0)
  have g1 := heap_alloc_new w (.cells c0 T0)
  have f2 := bh_alloc (BH.refl (w.alloc (.cells c0 T0))) (.cells c1 T1)
  have g2 := heap_alloc_new (w.alloc (.cells c0 T0)) (.cells c1 T1)
  rw [World.size_alloc] at g2
  exact ⟨(Below.block f2 _ (heap_lt g1)).trans g1, g2, by simp, BH.trans f1 f2⟩

set_option maxHeartbeats 2000000 in
theorem rsubstitute_any (V : Int) (S : Nat → Prop) (k o : Int) (t : List UInt8) (kids : Fo) (A : Option Addr) (c : Nat) (x : Tm) (A' : Option Addr) (c' : Nat) (w : World) (hV0 : 0 ≤ V) (hV1 : V ≤ 4294967296) (hS : ∀ y, S y → y < w.heap.size) (hN : fsize kids ≤ 4294967296) (hK : KT w kids A c) (hX : KS w S x.kids A' c') (hcl : closed1 k o kids V = true) :
    Calls Tryd.prog 13 #[.agg #[.int .i64 k, .string ⟨t.toArray⟩, .int .i64 o, .slice A kids.len c], .agg #[.int .i64 x.k, .string ⟨x.t.toArray⟩, .int .i64 x.o, .slice A' x.kids.len c']] w (SbP w S (rep1 (Gs x) shs k t o kids 0)) := by
  obtain ⟨X, hXX⟩ : ∃ X, ((w.alloc (.cells #[.int .i64 k, .string ⟨t.toArray⟩, .int .i64 o, .slice A kids.len c] 25)).alloc (.cells #[.int .i64 x.k, .string ⟨x.t.toArray⟩, .int .i64 x.o, .slice A' x.kids.len c'] 25)).alloc (.cells #[.int .i64 0, .string ⟨#[]⟩, .int .i64 0, .slice none 0 0] 25) = X := ⟨_, rfl⟩
  obtain ⟨e0, e1, e2, hz, hb⟩ := three_blocks hXX
  have hR := rsub_any (V := V) hV0 hV1 (fsize kids + 1) S k o 0 t kids A c x A' c' X (fun y hy => Nat.lt_of_lt_of_le (hS y hy) (Below.size hb)) (by omega) hN (hK.below hb) (hX.bh hb) (Int.le_refl 0) (by omega) (by simpa using hcl)
  obtain ⟨y, hy⟩ : ∃ y, rep1 (Gs x) shs k t o kids 0 = y := ⟨_, rfl⟩
  rw [hy] at hR ⊢
  have HR := Lib.hid hR
  have HE := Lib.hid e2
  have HB := Lib.hid hb
  have HZ := Lib.hid hz
  have HXX := Lib.hid hXX
  have HS := Lib.hid hS
  obtain ⟨xk, xt, xkids, xo⟩ := x
  clear hR e0 e1 e2 hz hb hXX hK hX hcl hS hy
  go_enter Tryd.func13, Tryd.ntmps13
  go_wp2_with (fail)
  rw [HXX.out]
  refine HR.out.mono ?_
  rintro e w2 ⟨A2, c2, rfl, u1, u2⟩
  have HN2 := Lib.hid ((Below.block u2 (w.heap.size + 2) (by have := HZ.out; omega)).trans HE.out)
  have HFin := Lib.hid (SbP.box (x := y) (N := w.heap.size + 2) HS.out (by omega) (BH.trans HB.out u2) (u1.keep (S' := fun y => (S y ∨ w.heap.size ≤ y) ∧ y ≠ w.heap.size + 2) (Nat.le_refl _) fun y hy _ => ⟨rfl, hy.elim (fun h => ⟨.inl h, by have := HS.out y h; omega⟩) fun h => ⟨.inr (by have := HZ.out; omega), by have := HZ.out; omega⟩⟩))
  clear u1 u2
  obtain ⟨b0, b1, b2, b3, y0, y1, y2, y3⟩ := row4 HN2.out
  go_wp2_with (fail)
  obtain ⟨m0, m1, m2, m3, _⟩ := row4 (s4 HN2.out (.int .i64 y.k) (.string ⟨y.t.toArray⟩) (.int .i64 y.o) (.slice A2 y.kids.len c2))
  exact bodyPost_ret (v := .agg #[.int .i64 y.k, .string ⟨y.t.toArray⟩, .int .i64 y.o, .slice A2 y.kids.len c2]) (by simp [results, Tryd.results13, go_sem, m0, m1, m2, m3]) rfl HFin.out

set_option maxHeartbeats 2000000 in
theorem rinstantiate_any (V : Int) (S : Nat → Prop) (k o : Int) (t : List UInt8) (kids : Fo) (A : Option Addr) (c : Nat) (x : Fo) (A' : Option Addr) (c' : Nat) (w : World) (hV0 : 0 ≤ V) (hV1 : V ≤ 4294967296) (hS : ∀ y, S y → y < w.heap.size) (hN : fsize kids ≤ 4294967296) (hK : KT w kids A c) (hNx : x.len ≤ 1099511627776) (hX : KS w S x A' c') (hcl : closed1 k o kids V = true) :
    Calls Tryd.prog 15 #[.agg #[.int .i64 k, .string ⟨t.toArray⟩, .int .i64 o, .slice A kids.len c], .slice A' x.len c'] w (SbP w S (rep1 (Gi x) shi k t o kids 0)) := by
  obtain ⟨X, hXX⟩ : ∃ X, (w.alloc (.cells #[.int .i64 k, .string ⟨t.toArray⟩, .int .i64 o, .slice A kids.len c] 25)).alloc (.cells #[.int .i64 0, .string ⟨#[]⟩, .int .i64 0, .slice none 0 0] 25) = X := ⟨_, rfl⟩
  obtain ⟨e0, e2, hz, hb⟩ := two_blocks hXX
  have hR := rins_any (V := V) hV0 hV1 (fsize kids + 1) S k o 0 t kids A c x A' c' X (fun y hy => Nat.lt_of_lt_of_le (hS y hy) (Below.size hb)) (by omega) hN hNx (hK.below hb) (hX.bh hb) (Int.le_refl 0) (by omega) (by simpa using hcl)
  obtain ⟨y, hy⟩ : ∃ y, rep1 (Gi x) shi k t o kids 0 = y := ⟨_, rfl⟩
  rw [hy] at hR ⊢
  have HR := Lib.hid hR
  have HE := Lib.hid e2
  have HB := Lib.hid hb
  have HZ := Lib.hid hz
  have HXX := Lib.hid hXX
  have HS := Lib.hid hS
  clear hR e0 e2 hz hb hXX hK hX hcl hS hy
  go_enter Tryd.func15, Tryd.ntmps15
  go_wp2_with (fail)
  rw [HXX.out]
  refine HR.out.mono ?_
  rintro e w2 ⟨A2, c2, rfl, u1, u2⟩
  have HN2 := Lib.hid ((Below.block u2 (w.heap.size + 1) (by have := HZ.out; omega)).trans HE.out)
  have HFin := Lib.hid (SbP.box (x := y) (N := w.heap.size + 1) HS.out (by omega) (BH.trans HB.out u2) (u1.keep (S' := fun y => (S y ∨ w.heap.size ≤ y) ∧ y ≠ w.heap.size + 1) (Nat.le_refl _) fun y hy _ => ⟨rfl, hy.elim (fun h => ⟨.inl h, by have := HS.out y h; omega⟩) fun h => ⟨.inr (by have := HZ.out; omega), by have := HZ.out; omega⟩⟩))
  clear u1 u2
  obtain ⟨b0, b1, b2, b3, y0, y1, y2, y3⟩ := row4 HN2.out
  go_wp2_with (fail)
  obtain ⟨m0, m1, m2, m3, _⟩ := row4 (s4 HN2.out (.int .i64 y.k) (.string ⟨y.t.toArray⟩) (.int .i64 y.o) (.slice A2 y.kids.len c2))
  exact bodyPost_ret (v := .agg #[.int .i64 y.k, .string ⟨y.t.toArray⟩, .int .i64 y.o, .slice A2 y.kids.len c2]) (by simp [results, Tryd.results15, go_sem, m0, m1, m2, m3]) rfl HFin.out

/-- the term in block g5, its arguments 'by' in the row g9, their kids -/
structure PX (w X : World) (g5 g9 : Nat) (k0 o0 : Int) (t0 : List UInt8) (kids0 : Fo) (A0 : Option Addr) (c0 : Nat) (k1 o1 : Int) (t1 : List UInt8) (kids1 : Fo) (A1 : Option Addr) (c1 : Nat) (k2 o2 : Int) (t2 : List UInt8) (kids2 : Fo) (A2 : Option Addr) (c2 : Nat) : Prop where
  b0 : X.heap[g5]? = some (.cells #[.int .i64 k0, .string ⟨t0.toArray⟩, .int .i64 o0, .slice A0 kids0.len c0] 25 (0, 0))
  b1 : X.heap[g9]? = some (.cells #[.int .i64 k1, .string ⟨t1.toArray⟩, .int .i64 o1, .slice A1 kids1.len c1, .int .i64 k2, .string ⟨t2.toArray⟩, .int .i64 o2, .slice A2 kids2.len c2] 25 (0, 0))
  r0 : KT X kids0 A0 c0
  r1 : KT X kids1 A1 c1
  r2 : KT X kids2 A2 c2
  bel : BH w X
section
variable {w X Y : World} {g5 g9 : Nat} {k0 o0 : Int} {t0 : List UInt8} {kids0 : Fo} {A0 : Option Addr} {c0 : Nat} {k1 o1 : Int} {t1 : List UInt8} {kids1 : Fo} {A1 : Option Addr} {c1 : Nat} {k2 o2 : Int} {t2 : List UInt8} {kids2 : Fo} {A2 : Option Addr} {c2 : Nat}
theorem PX.bh (h : PX w X g5 g9 k0 o0 t0 kids0 A0 c0 k1 o1 t1 kids1 A1 c1 k2 o2 t2 kids2 A2 c2) (hb : BH X Y) : PX w Y g5 g9 k0 o0 t0 kids0 A0 c0 k1 o1 t1 kids1 A1 c1 k2 o2 t2 kids2 A2 c2 :=
  ⟨(Below.block hb _ (heap_lt h.b0)).trans h.b0, (Below.block hb _ (heap_lt h.b1)).trans h.b1, h.r0.below hb, h.r1.below hb, h.r2.below hb, BH.trans h.bel hb⟩
theorem PX.cells (h : PX w X g5 g9 k0 o0 t0 kids0 A0 c0 k1 o1 t1 kids1 A1 c1 k2 o2 t2 kids2 A2 c2) : X.cell? ⟨g5, 0, none⟩ = some (.int .i64 k0) ∧ X.cell? ⟨g5, 1, none⟩ = some (.string ⟨t0.toArray⟩) ∧ X.cell? ⟨g5, 2, none⟩ = some (.int .i64 o0) ∧ X.cell? ⟨g5, 3, none⟩ = some (.slice A0 kids0.len c0) ∧
    X.cell? ⟨g9, 0, none⟩ = some (.int .i64 k1) ∧ X.cell? ⟨g9, 1, none⟩ = some (.string ⟨t1.toArray⟩) ∧ X.cell? ⟨g9, 2, none⟩ = some (.int .i64 o1) ∧ X.cell? ⟨g9, 3, none⟩ = some (.slice A1 kids1.len c1) := by
  obtain ⟨a0, a1, a2, a3, _⟩ := row4 h.b0
  exact ⟨a0, a1, a2, a3, cell_of_row _ _ 0 _ _ _ h.b1, cell_of_row _ _ 1 _ _ _ h.b1, cell_of_row _ _ 2 _ _ _ h.b1, cell_of_row _ _ 3 _ _ _ h.b1⟩
/-- the two arguments as a list of terms -/
theorem PX.two (h : PX w X g5 g9 k0 o0 t0 kids0 A0 c0 k1 o1 t1 kids1 A1 c1 k2 o2 t2 kids2 A2 c2) : KT X (.cons k1 t1 kids1 o1 (.cons k2 t2 kids2 o2 .nil)) (some ⟨g9, 0, none⟩) 2 := by
  obtain ⟨h1, ys1, r1, s1⟩ := h.r1
  obtain ⟨h2, ys2, r2, s2⟩ := h.r2
  refine ⟨Nat.le_refl _, [.int .i64 k1, .string ⟨t1.toArray⟩, .int .i64 o1, .slice A1 kids1.len c1, .int .i64 k2, .string ⟨t2.toArray⟩, .int .i64 o2, .slice A2 kids2.len c2], fun _ => ⟨g9, 0, rfl, trivial, heap_lt h.b1, fun j u hu => ?_⟩, A1, c1, ys1, _, rfl, h1, r1, s1, A2, c2, ys2, [], rfl, h2, r2, s2, rfl⟩
  rw [Nat.zero_add, cell_of_row _ _ j _ _ _ h.b1]
  simpa using hu
end

set_option maxHeartbeats 8000000 in
set_option maxRecDepth 100000 in
theorem substitute_walk (a0 : Option Addr) (len0 cap0 : Nat) (z0 : List Int) (a1 : Option Addr) (len1 cap1 : Nat) (z1 : List Int) (n : Int) (w : World)
    (hr0 : IsRow .i64 w a0 len0 cap0 z0) (hr1 : IsRow .i64 w a1 len1 cap1 z1) (hb0 : len0 ≤ 1048576) (hb1 : len1 ≤ 1048576) (W : List (List UInt8)) (gw ow cw : Nat) (tW : TabW w 0 4 W gw ow cw) (hs : ∀ s ∈ W, s.length ≤ 1000) :
    Calls Tryd.prog 3 #[.slice a0 len0 cap0, .slice a1 len1 cap1, .int .i64 n] w fun e w' => e = .returned (.bool true) ∧ Below w.heap.size w w' := by
  have HI0 := Lib.hid hr0
  have HI1 := Lib.hid hr1
  have TW := Lib.hid tW
  have HSh := Lib.hid hs
  obtain ⟨hv0, hv1⟩ := modI_bounds n 4 (by decide)
  obtain ⟨V, hV⟩ : ∃ V, modI n 4 = V := ⟨_, rfl⟩
  rw [hV] at hv0 hv1
  have HV := Lib.hid hV
  clear hr0 hr1 tW hs hV
  go_enter Tryd.func3, Tryd.ntmps3
  go_wp2_with (fail)
  refine (new_any _ _ _ _).mono ?_
  rintro e1 u0 ⟨rfl, rfl⟩
  go_wp2_with (fail)
  refine (base_any _).mono ?_
  rintro e2 w1 ⟨AD1, cd1, rfl, hD, hb⟩
  have HB1 := Lib.hid ((bh_alloc (BH.refl w) (.cells #[.slice a0 len0 cap0, .int .i64 0] 42)).trans hb)
  obtain ⟨gd, od, rfl, hG⟩ := genD_new (Below.refl _ _) HI0.out.ints.1 HI0.out.ints.2 TW.out HSh.out hb hD
  have HG := Lib.hid hG
  clear hD hb hG
  go_wp2_with (fail)
  refine (mod_any n 4 _ (by decide) (by decide)).mono ?_
  rintro e9 u9 ⟨rfl, rfl⟩
  rw [HV.out]
  go_wp2_with (fail)
  refine (openTermC _ 0 V _ HG.out hv0 (by omega)).mono ?_
  rintro e3 w2 ⟨kx, k0, o0, t0, kids0, A0, c0, ys0, rfl, g1, g2, g3, g4, g5, g6, g7, g8, g9⟩
  have K0 := Lib.hid (KT.of g1 g2 g3)
  have s0 : fsize kids0 ≤ 4194304 := by
    have h := g8.st.2.2.2.1
    have h' : kx ≤ len0 := h
    omega
  have HC0 := Lib.hid g7
  have HB2 := Lib.hid (below_gb_of HB1.out g9 (Nat.le_refl _))
  clear g1 g2 g3 g4 g5 g6 g7 g8 g9 HG
  go_wp2_with (fail)
  obtain ⟨wY, hwY⟩ : ∃ wY, w2.alloc (.cells #[.int .i64 k0, .string ⟨t0.toArray⟩, .int .i64 o0, .slice A0 kids0.len c0] 25) = wY := ⟨_, rfl⟩
  have hY := bh_alloc (BH.refl w2) (.cells #[.int .i64 k0, .string ⟨t0.toArray⟩, .int .i64 o0, .slice A0 kids0.len c0] 25)
  have eY := heap_alloc_new w2 (.cells #[.int .i64 k0, .string ⟨t0.toArray⟩, .int .i64 o0, .slice A0 kids0.len c0] 25)
  rw [hwY] at hY eY ⊢
  obtain ⟨g5, hg5⟩ : ∃ g5, w2.heap.size = g5 := ⟨_, rfl⟩
  rw [hg5] at eY ⊢
  have EY := Lib.hid eY
  have KY := Lib.hid (K0.out.below hY)
  have BY := Lib.hid (show BH w wY from HB2.out.trans (hY.mono HB2.out.size))
  clear hY eY hwY hg5 K0 HB2 HB1
  refine (new_any _ _ _ _).mono ?_
  rintro e4 u1 ⟨rfl, rfl⟩
  go_wp2_with (fail)
  refine (base_any _).mono ?_
  rintro e5 w3 ⟨A9, c9, rfl, hD, hb⟩
  obtain ⟨gd2, od2, rfl, hG⟩ := genD_new BY.out HI1.out.ints.1 HI1.out.ints.2 TW.out HSh.out hb hD
  have HG := Lib.hid hG
  have HB3 := Lib.hid (BH.trans (bh_alloc (BH.refl wY) (.cells #[.slice a1 len1 cap1, .int .i64 0] 42)) hb)
  have HZ3 := Lib.hid (show wY.heap.size < w3.heap.size by have h := Below.size hb; simp at h; omega)
  clear hD hb hG
  go_wp2_with (fail)
  refine (termC _ 0 _ HG.out).mono ?_
  rintro e6 w4 ⟨ky, k1, o1, t1, kids1, A1, c1, ys1, rfl, g1, g2, g3, g4, q5, g6, g7, g8, g9⟩
  have K1 := Lib.hid (show KS w4 (fun x => w3.heap.size ≤ x) kids1 A1 c1 from ⟨g1, ys1, g2, g3⟩)
  have hky : ky ≤ len1 := g8.st.2.2.2.1
  have s1 : fsize kids1 ≤ 4194304 := by omega
  have HB4 := Lib.hid (show BH wY w4 from below_gb_of HB3.out g9 (Nat.le_refl _))
  have HC1 := Lib.hid g7
  have HG8 := Lib.hid g8
  have HS4 := Lib.hid g9.size
  clear g1 g2 g3 g4 q5 g6 g7 g8 g9 HG
  go_wp2_with (fail)
  refine (base_any _).mono ?_
  rintro e7 w5 ⟨A10, c10, rfl, hD, hb⟩
  have hG8 := HG8.out.below hb
  obtain ⟨gd3, od3, rfl, hG⟩ := genD_of hG8.st hG8.leaf HSh.out hD
  have HG := Lib.hid hG
  have HB5 := Lib.hid hb
  clear hD hb hG hG8
  go_wp2_with (fail)
  refine (termC _ ky _ HG.out).mono ?_
  rintro e8 w6 ⟨kz, k2, o2, t2, kids2, A2, c2, ys2, rfl, g1, g2, g3, g4, q5, g6, g7, g8, g9⟩
  have K2 := Lib.hid (KT.of g1 g2 g3)
  have hkz : kz ≤ len1 := g8.st.2.2.2.1
  have s2 : fsize kids2 ≤ 4194304 := by omega
  have hB6 : BH wY w6 := below_gb_of (BH.trans HB4.out HB5.out) g9 (Nat.le_refl _)
  have K1' := Lib.hid (show KT w6 kids1 A1 c1 from (K1.out.keep (w' := w6) (S' := fun _ => True) (Nat.le_trans (Below.size HB5.out) g9.size) fun x hx hl => ⟨(g9.block x (Nat.lt_of_lt_of_le hl (Below.size HB5.out)) (by have := HZ3.out; simp; omega)).trans (Below.block HB5.out x hl), trivial⟩).kt)
  have HB6 := Lib.hid hB6
  clear g1 g2 g3 g4 q5 g6 g7 g8 g9 HG HG8 hB6 HB5 HB4 HB3 K1
  go_upto_region 4 with (fail)
  refine gen_wp _ (fun X => PX w X g5 w6.heap.size k0 o0 t0 kids0 A0 c0 k1 o1 t1 kids1 A1 c1 k2 o2 t2 kids2 A2 c2) ?_ ?_
  · have f1 := bh_alloc (BH.refl w6) (.cells #[.int .i64 k1, .string ⟨t1.toArray⟩, .int .i64 o1, .slice A1 kids1.len c1, .int .i64 k2, .string ⟨t2.toArray⟩, .int .i64 o2, .slice A2 kids2.len c2] 25)
    have h1 := heap_alloc_new w6 (.cells #[.int .i64 k1, .string ⟨t1.toArray⟩, .int .i64 o1, .slice A1 kids1.len c1, .int .i64 k2, .string ⟨t2.toArray⟩, .int .i64 o2, .slice A2 kids2.len c2] 25)
    have fY := BH.trans HB6.out f1
    exact ⟨(Below.block fY _ (heap_lt EY.out)).trans EY.out, h1, KY.out.below fY, K1'.out.below f1, K2.out.below f1, BH.trans BY.out fY⟩
  rintro W5 hP
  obtain ⟨g6, hg6⟩ : ∃ g6, w6.heap.size = g6 := ⟨_, rfl⟩
  rw [hg6] at hP ⊢
  clear hg6 K1' K2 HB6 EY KY BY hky hkz HS4 HZ3
  obtain ⟨y, hy⟩ : ∃ y, rep1 (Gs ⟨k1, t1, kids1, o1⟩) shs k0 t0 o0 kids0 0 = y := ⟨_, rfl⟩
  have hys : fsize y.kids ≤ 4611686018427387904 := by
    have h := rep1_size (G := Gs ⟨k1, t1, kids1, o1⟩) (sh := shs) (fsize kids1) (fun f z hz => Gs_size (Nat.le_refl _) hz) k0 t0 o0 kids0 0
    rw [hy] at h
    have h2 : fsize kids0 * (fsize kids1 + 1) ≤ 4194304 * 4194305 := Nat.mul_le_mul s0 (by omega)
    omega
  obtain ⟨L2, hL2⟩ : ∃ L2, Fo.cons k1 t1 kids1 o1 (.cons k2 t2 kids2 o2 .nil) = L2 := ⟨_, rfl⟩
  have hLs : fsize L2 ≤ 8388610 := by rw [← hL2]; simp only [fsize]; omega
  have hLl : L2.len = 2 := by rw [← hL2]; rfl
  obtain ⟨z, hz⟩ : ∃ z, rep1 (Gi L2) shi k0 t0 o0 kids0 0 = z := ⟨_, rfl⟩
  have hzs : fsize z.kids ≤ 4611686018427387904 := by
    have h := rep1_size (G := Gi L2) (sh := shi) (fsize L2) (fun f z hz => nthF_size L2 _ z hz) k0 t0 o0 kids0 0
    rw [hz] at h
    have h2 : fsize kids0 * (fsize L2 + 1) ≤ 4194304 * 8388611 := Nat.mul_le_mul s0 (by omega)
    omega
  have CS : Hid (∀ X, PX w X g5 g6 k0 o0 t0 kids0 A0 c0 k1 o1 t1 kids1 A1 c1 k2 o2 t2 kids2 A2 c2 → Calls Tryd.prog 12 #[.agg #[.int .i64 k0, .string ⟨t0.toArray⟩, .int .i64 o0, .slice A0 kids0.len c0], .agg #[.int .i64 k1, .string ⟨t1.toArray⟩, .int .i64 o1, .slice A1 kids1.len c1]] X fun e u => ∃ A c, e = .returned (.agg #[.int .i64 y.k, .string ⟨y.t.toArray⟩, .int .i64 y.o, .slice A y.kids.len c]) ∧ KT u y.kids A c ∧ BH X u) := Lib.hid (by
    intro X h
    refine (substitute_any V k0 o0 t0 kids0 A0 c0 ⟨k1, t1, kids1, o1⟩ A1 c1 X hv0 (by omega) (by omega) (by show fsize kids1 ≤ _; omega) h.r0 h.r1 HC0.out).mono ?_
    rintro e u ⟨A, c, h1, h2, h3⟩
    rw [hy] at h1 h2
    exact ⟨A, c, h1, h2.kt, h3⟩)
  have CR : Hid (∀ X, PX w X g5 g6 k0 o0 t0 kids0 A0 c0 k1 o1 t1 kids1 A1 c1 k2 o2 t2 kids2 A2 c2 → Calls Tryd.prog 13 #[.agg #[.int .i64 k0, .string ⟨t0.toArray⟩, .int .i64 o0, .slice A0 kids0.len c0], .agg #[.int .i64 k1, .string ⟨t1.toArray⟩, .int .i64 o1, .slice A1 kids1.len c1]] X fun e u => ∃ A c, e = .returned (.agg #[.int .i64 y.k, .string ⟨y.t.toArray⟩, .int .i64 y.o, .slice A y.kids.len c]) ∧ KT u y.kids A c ∧ BH X u) := Lib.hid (by
    intro X h
    refine (rsubstitute_any V (fun x => x < X.heap.size) k0 o0 t0 kids0 A0 c0 ⟨k1, t1, kids1, o1⟩ A1 c1 X hv0 (by omega) (fun _ h => h) (by omega) h.r0 (KS.of h.r1) HC0.out).mono ?_
    rintro e u ⟨A, c, h1, h2, h3⟩
    rw [hy] at h1 h2
    exact ⟨A, c, h1, h2.kt, h3⟩)
  have CI : Hid (∀ X, PX w X g5 g6 k0 o0 t0 kids0 A0 c0 k1 o1 t1 kids1 A1 c1 k2 o2 t2 kids2 A2 c2 → Calls Tryd.prog 14 #[.agg #[.int .i64 k0, .string ⟨t0.toArray⟩, .int .i64 o0, .slice A0 kids0.len c0], .slice (some ⟨g6, 0, none⟩) 2 2] X fun e u => ∃ A c, e = .returned (.agg #[.int .i64 z.k, .string ⟨z.t.toArray⟩, .int .i64 z.o, .slice A z.kids.len c]) ∧ KT u z.kids A c ∧ BH X u) := Lib.hid (by
    intro X h
    have h2 := h.two
    rw [hL2] at h2
    have hh := instantiate_any V k0 o0 t0 kids0 A0 c0 L2 (some ⟨g6, 0, none⟩) 2 X hv0 (by omega) (by omega) (by omega) h.r0 h2 HC0.out
    rw [hLl] at hh
    refine hh.mono ?_
    rintro e u ⟨A, c, h1, h2, h3⟩
    rw [hz] at h1 h2
    exact ⟨A, c, h1, h2.kt, h3⟩)
  have CJ : Hid (∀ X, PX w X g5 g6 k0 o0 t0 kids0 A0 c0 k1 o1 t1 kids1 A1 c1 k2 o2 t2 kids2 A2 c2 → Calls Tryd.prog 15 #[.agg #[.int .i64 k0, .string ⟨t0.toArray⟩, .int .i64 o0, .slice A0 kids0.len c0], .slice (some ⟨g6, 0, none⟩) 2 2] X fun e u => ∃ A c, e = .returned (.agg #[.int .i64 z.k, .string ⟨z.t.toArray⟩, .int .i64 z.o, .slice A z.kids.len c]) ∧ KT u z.kids A c ∧ BH X u) := Lib.hid (by
    intro X h
    have h2 := h.two
    rw [hL2] at h2
    have hh := rinstantiate_any V (fun x => x < X.heap.size) k0 o0 t0 kids0 A0 c0 L2 (some ⟨g6, 0, none⟩) 2 X hv0 (by omega) (fun _ h => h) (by omega) h.r0 (by omega) (KS.of h2) HC0.out
    rw [hLl] at hh
    refine hh.mono ?_
    rintro e u ⟨A, c, h1, h2, h3⟩
    rw [hz] at h1 h2
    exact ⟨A, c, h1, h2.kt, h3⟩)
  have CE : Hid (∀ X (q : Tm) A c A' c', fsize q.kids ≤ 4611686018427387904 ∧ KT X q.kids A c → KT X q.kids A' c' → Calls Tryd.prog 11 #[.agg #[.int .i64 q.k, .string ⟨q.t.toArray⟩, .int .i64 q.o, .slice A q.kids.len c], .agg #[.int .i64 q.k, .string ⟨q.t.toArray⟩, .int .i64 q.o, .slice A' q.kids.len c']] X fun e u => e = .returned (.bool true) ∧ BH X u) := Lib.hid (by
    intro X q A c A' c' h h'
    refine (equalT_any q.k q.o q.k q.o q.t q.t q.kids q.kids A A' c c' X h.1 h.1 h.2 h').mono ?_
    rintro e u ⟨rfl, hb⟩
    exact ⟨by rw [cmp1_self]; rfl, hb⟩)
  have CQ : Hid (∀ X (q : Tm) A c A' c', fsize q.kids ≤ 4611686018427387904 ∧ KT X q.kids A c → KT X q.kids A' c' → Calls Tryd.prog 16 #[.agg #[.int .i64 q.k, .string ⟨q.t.toArray⟩, .int .i64 q.o, .slice A q.kids.len c], .agg #[.int .i64 q.k, .string ⟨q.t.toArray⟩, .int .i64 q.o, .slice A' q.kids.len c']] X fun e u => e = .returned (.bool true) ∧ BH X u) := Lib.hid (by
    intro X q A c A' c' h h'
    refine (requalT_any q.k q.o q.k q.o q.t q.t q.kids q.kids A A' c c' X h.1 h.1 h.2 h').mono ?_
    rintro e u ⟨rfl, hb⟩
    exact ⟨by rw [cmp1_self]; rfl, hb⟩)
  have HYs := Lib.hid hys
  have HZs := Lib.hid hzs
  clear hy hys hz hzs hL2 hLs hLl s0 s1 s2 L2
  have HPn := Lib.hid (hP.bh (below_drew W5))
  obtain ⟨p0, p1, p2, p3, b0, b1, b2, b3⟩ := hP.cells
  clear hP
  go_region_held3 (fun X => X.cell? ⟨g5, 0, none⟩ = some (.int .i64 k0) ∧ X.cell? ⟨g5, 1, none⟩ = some (.string ⟨t0.toArray⟩) ∧ X.cell? ⟨g5, 2, none⟩ = some (.int .i64 o0) ∧ X.cell? ⟨g5, 3, none⟩ = some (.slice A0 kids0.len c0) ∧ X.cell? ⟨g6, 0, none⟩ = some (.int .i64 k1) ∧ X.cell? ⟨g6, 1, none⟩ = some (.string ⟨t1.toArray⟩) ∧ X.cell? ⟨g6, 2, none⟩ = some (.int .i64 o1) ∧ X.cell? ⟨g6, 3, none⟩ = some (.slice A1 kids1.len c1)) (go_keep)
    (first
      | (go_at_call 10; refine (check2_any _).mono ?_; rintro e u ⟨rfl, hb⟩; have HPn := Lib.hid (HPn.out.bh hb); clear hb; obtain ⟨p0, p1, p2, p3, b0, b1, b2, b3⟩ := HPn.out.cells)
      | (go_at_call 12; (with_reducible refine (CS.out _ HPn.out).mono ?_); rintro e u ⟨As, cs, rfl, hk, hb⟩; have HKs := Lib.hid (And.intro HYs.out hk); have HPn := Lib.hid (HPn.out.bh hb); clear hk hb; obtain ⟨p0, p1, p2, p3, b0, b1, b2, b3⟩ := HPn.out.cells)
      | (go_at_call 13; (with_reducible refine (CR.out _ HPn.out).mono ?_); rintro e u ⟨Ar, cr, rfl, hk, hb⟩; have HKs := Lib.hid (And.intro HKs.out.1 (HKs.out.2.below hb)); have HKr := Lib.hid hk; have HPn := Lib.hid (HPn.out.bh hb); clear hk hb; obtain ⟨p0, p1, p2, p3, b0, b1, b2, b3⟩ := HPn.out.cells)
      | (go_at_call 14; (with_reducible refine (CI.out _ HPn.out).mono ?_); rintro e u ⟨As, cs, rfl, hk, hb⟩; have HKs := Lib.hid (And.intro HZs.out hk); have HPn := Lib.hid (HPn.out.bh hb); clear hk hb; obtain ⟨p0, p1, p2, p3, b0, b1, b2, b3⟩ := HPn.out.cells)
      | (go_at_call 15; (with_reducible refine (CJ.out _ HPn.out).mono ?_); rintro e u ⟨Ar, cr, rfl, hk, hb⟩; have HKs := Lib.hid (And.intro HKs.out.1 (HKs.out.2.below hb)); have HKr := Lib.hid hk; have HPn := Lib.hid (HPn.out.bh hb); clear hk hb; obtain ⟨p0, p1, p2, p3, b0, b1, b2, b3⟩ := HPn.out.cells)
      | (go_at_call 11; (with_reducible refine (CE.out _ _ _ _ _ _ HKs.out HKr.out).mono ?_); rintro e u ⟨rfl, hb⟩; have HPn := Lib.hid (HPn.out.bh hb); clear hb; obtain ⟨p0, p1, p2, p3, b0, b1, b2, b3⟩ := HPn.out.cells)
      | (go_at_call 16; (with_reducible refine (CQ.out _ _ _ _ _ _ HKs.out HKr.out).mono ?_); rintro e u ⟨rfl, hb⟩; have HPn := Lib.hid (HPn.out.bh hb); clear hb; obtain ⟨p0, p1, p2, p3, b0, b1, b2, b3⟩ := HPn.out.cells))
  all_goals
    go_wp2_with (fail)
    go_ret
    exact ⟨rfl, HPn.out.bel⟩
end Go.Proofs.YtddfpbcdopcdhaaDoor
