/- tellaw2.TermCompare: the walk. What is laid: the leaves' names. The bound: each list has at most 2^20 integers. -/
import Derived.Test.YtnidngpenhblcaaDoorGw
import Derived.Test.YtnidngpenhblcaaDoorTeq
import Derived.Deep.CutBlock
set_option linter.unusedVariables false
set_option linter.unusedSimpArgs false
namespace Go.Proofs.YtnidngpenhblcaaDoor.TQ
open Go.RowKit Sx TL

theorem requalT_any (k o k' o' : Int) (t t' : List UInt8) (kids kids' : Fo) (A A' : Option Addr) (c c' : Nat) (w : World) (hN2 : fsize kids ≤ 1073741824) (hN3 : fsize kids' ≤ 1073741824) (hK : KT w kids A c) (hK' : KT w kids' A' c') :
    Calls Tryd.prog 36 #[.agg #[.int .i64 k, .string ⟨t.toArray⟩, .int .i64 o, .slice A kids.len c], .agg #[.int .i64 k', .string ⟨t'.toArray⟩, .int .i64 o', .slice A' kids'.len c']] w fun e w' => e = .returned (.bool (cmp1 k t o kids k' t' o' kids' == 0)) ∧ Below w.heap.size w w' := by
  have B2 : Below w.heap.size w ((w.alloc (.cells #[.int .i64 k, .string ⟨t.toArray⟩, .int .i64 o, .slice A kids.len c] 25 (0, 0))).alloc (.cells #[.int .i64 k', .string ⟨t'.toArray⟩, .int .i64 o', .slice A' kids'.len c'] 25 (0, 0))) :=
    ((Below.refl _ _).alloc (Nat.le_refl _) _).alloc (by simp) _
  have HC := Lib.hid (rcompare_any (fsize kids) k o k' o' t t' kids kids' A A' c c' _ (Nat.le_refl _) hN2 hN3 (hK.below B2) (hK'.below B2))
  have HB := Lib.hid B2
  clear B2 hK hK'
  go_enter Tryd.func36, Tryd.ntmps36
  go_wp2_with (go_at_call 38; refine HC.out.mono ?_; rintro e w4 ⟨rfl, hb⟩; have HB4 := Lib.hid hb; clear hb)
  go_ret
  exact ⟨rfl, HB.out.trans (HB4.out.mono HB.out.size)⟩
theorem mod_big (n m : Int) (w : World) (hm : 0 < m) (hm2 : m ≤ 4294967296) :
    Calls Tryd.prog 29 #[.int .i64 n, .int .i64 m] w fun e w' => e = .returned (.int .i64 (modI n m)) ∧ w = w' := by
  obtain ⟨h1, h2⟩ := tmod_bounds n m hm
  have hne : ¬ m = 0 := by omega
  unfold modI
  generalize hk : n.tmod m = k at *
  by_cases h0 : k < 0
  · rw [if_pos h0]
    go_enter Tryd.func29, Tryd.ntmps29
    go_wp2
    go_ret
    exact ⟨rfl, rfl⟩
  · rw [if_neg h0]
    go_enter Tryd.func29, Tryd.ntmps29
    go_wp2
    go_ret
    exact ⟨rfl, rfl⟩

/-- two terms in their boxes -/
structure P2 (w X : World) (N N1 : Nat) (k o : Int) (t : List UInt8) (kids : Fo) (A : Option Addr) (c : Nat) (k' o' : Int) (t' : List UInt8) (kids' : Fo) (A' : Option Addr) (c' : Nat) : Prop where
  r0 : X.heap[N]? = some (.cells #[.int .i64 k, .string ⟨t.toArray⟩, .int .i64 o, .slice A kids.len c] 25 (0, 0))
  r1 : X.heap[N1]? = some (.cells #[.int .i64 k', .string ⟨t'.toArray⟩, .int .i64 o', .slice A' kids'.len c'] 25 (0, 0))
  k0 : KT X kids A c
  k1 : KT X kids' A' c'
  bel : Below w.heap.size w X
theorem P2.below {w X X' : World} {N N1 : Nat} {k o : Int} {t : List UInt8} {kids : Fo} {A : Option Addr} {c : Nat} {k' o' : Int} {t' : List UInt8} {kids' : Fo} {A' : Option Addr} {c' : Nat}
    (h : P2 w X N N1 k o t kids A c k' o' t' kids' A' c') (hb : Below X.heap.size X X') : P2 w X' N N1 k o t kids A c k' o' t' kids' A' c' :=
  ⟨(hb.block _ (heap_lt h.r0)).trans h.r0, (hb.block _ (heap_lt h.r1)).trans h.r1, h.k0.below hb, h.k1.below hb, h.bel.trans (hb.mono h.bel.size)⟩
theorem P2.cells {w X : World} {N N1 : Nat} {k o : Int} {t : List UInt8} {kids : Fo} {A : Option Addr} {c : Nat} {k' o' : Int} {t' : List UInt8} {kids' : Fo} {A' : Option Addr} {c' : Nat}
    (h : P2 w X N N1 k o t kids A c k' o' t' kids' A' c') :
    X.cell? ⟨N, 0, none⟩ = some (.int .i64 k) ∧ X.cell? ⟨N, 1, none⟩ = some (.string ⟨t.toArray⟩) ∧ X.cell? ⟨N, 2, none⟩ = some (.int .i64 o) ∧ X.cell? ⟨N, 3, none⟩ = some (.slice A kids.len c) ∧
    X.cell? ⟨N1, 0, none⟩ = some (.int .i64 k') ∧ X.cell? ⟨N1, 1, none⟩ = some (.string ⟨t'.toArray⟩) ∧ X.cell? ⟨N1, 2, none⟩ = some (.int .i64 o') ∧ X.cell? ⟨N1, 3, none⟩ = some (.slice A' kids'.len c') := by
  obtain ⟨a0, a1, a2, a3, _⟩ := row4 h.r0
  obtain ⟨b0, b1, b2, b3, _⟩ := row4 h.r1
  exact ⟨a0, a1, a2, a3, b0, b1, b2, b3⟩

theorem cel_row {w : World} {a : Option Addr} {len cap : Nat} {zs : List Int} (h : IsRow .i64 w a len cap zs) : Cel w 1 a len cap ((zs.take len).map (Value.int .i64)) ∧ (zs.take len).length = len := by
  have hI := h.ints.2
  rcases h with ⟨rfl, rfl, rfl, rfl⟩ | ⟨x, rfl, hl, hm, hz, hcell, hwz⟩
  · exact ⟨Cel.nil w 1, rfl⟩
  · have hlen : (zs.take len).length = len := by rw [List.length_take]; omega
    refine ⟨⟨by rw [List.length_map, hlen]; omega, hl, hm, (fun e => by cases e), fun hp => ?_⟩, hlen⟩
    obtain ⟨g, off, e, hg, hc⟩ := hI hp
    refine ⟨g, off, e, hg, fun j u hu => ?_⟩
    rw [List.getElem?_map, Option.map_eq_some_iff] at hu
    obtain ⟨z, hz, rfl⟩ := hu
    rw [List.getElem?_take] at hz
    split at hz
    · rename_i hj
      rw [hc j hj, List.getD_eq_getElem?_getD, hz]
      rfl
    · cases hz
theorem ints_of_cel {w : World} {A : Option Addr} {n c : Nat} {zs : List Int} (h : Cel w 1 A n c (zs.map (Value.int .i64))) : Ints w A n zs := by
  intro hp
  obtain ⟨hl, _, _, _, h5⟩ := h
  obtain ⟨g, off, e, hg, hc⟩ := h5 hp
  refine ⟨g, off, e, hg, fun i hi => hc i _ ?_⟩
  have hz : i < zs.length := by rw [List.length_map] at hl; omega
  rw [List.getElem?_map, List.getD_eq_getElem?_getD, List.getElem?_eq_getElem hz]
  rfl
theorem all_int (l : List Int) : ∀ u ∈ l.map (Value.int .i64), u.oneCell' = true := by
  intro u hu
  obtain ⟨z, _, rfl⟩ := List.mem_map.1 hu
  rfl
theorem tab_keep {w w' : World} {v n : Nat} {S : List (List UInt8)} {g o c : Nat} (h : TabW w v n S g o c) (hB : Below w.heap.size w w') : TabW w' v n S g o c := by
  obtain ⟨h1, h2⟩ := h.lt
  exact ⟨(World.cell?_of_block (hB.block v h1)).trans h.head, fun i hi => by
    obtain ⟨s, hs, hc⟩ := h.row i hi
    exact ⟨s, hs, (World.cell?_of_block (hB.block g h2)).trans hc⟩, h.pos⟩
theorem infoI64 : (Tryd.prog.info? 3).map (fun i => (i.zero, i.size, i.bytes)) = some (some (.int .i64 0), 1, 8) := by kernel_rfl

set_option maxHeartbeats 8000000 in
set_option maxRecDepth 100000 in
theorem compare_walk (a0 : Option Addr) (len0 cap0 : Nat) (z0 : List Int) (a1 : Option Addr) (len1 cap1 : Nat) (z1 : List Int) (n : Int) (w : World)
    (hr0 : IsRow .i64 w a0 len0 cap0 z0) (hr1 : IsRow .i64 w a1 len1 cap1 z1) (hb0 : len0 ≤ 1048576) (hb1 : len1 ≤ 1048576) (W : List (List UInt8)) (gw ow cw : Nat) (tW : TabW w 1 4 W gw ow cw) (hs : ∀ s ∈ W, s.length ≤ 1000) :
    Calls Tryd.prog 8 #[.slice a0 len0 cap0, .slice a1 len1 cap1, .int .i64 n] w fun e w' => e = .returned (.bool true) ∧ Below w.heap.size w w' := by
  have HI0 := Lib.hid hr0
  have HI1 := Lib.hid hr1
  have TW := Lib.hid tW
  have HSh := Lib.hid hs
  obtain ⟨i0, hi, hz0, hz1, hz2⟩ := info_parts infoI64
  clear hr0 hr1 tW hs
  go_enter Tryd.func8, Tryd.ntmps8
  go_wp2_with (fail)
  refine (new_any _ _ _ _).mono ?_
  rintro e1 u0 ⟨rfl, rfl⟩
  go_wp2_with (fail)
  refine (base_any _).mono ?_
  rintro e2 w1 ⟨A1, c1, rfl, hD, hb⟩
  have HB1 := Lib.hid ((bh_alloc (BH.refl w) (.cells #[.slice a0 len0 cap0, .int .i64 0] 55)).trans hb)
  obtain ⟨gd, od, rfl, hG⟩ := genD_new (Below.refl _ _) HI0.out.ints.1 HI0.out.ints.2 TW.out HSh.out hb hD
  have HG := Lib.hid hG
  clear hD hb hG
  go_wp2_with (fail)
  refine (termC _ 0 _ HG.out).mono ?_
  rintro e3 w2 ⟨kx, k0, o0, t0, kids0, A0, c0, ys0, rfl, g1, g2, g3, g4, g5, g6, g7, g8, g9⟩
  have K0 := Lib.hid (KT.of g1 g2 g3)
  have s0 : fsize kids0 ≤ 1073741824 := by
    have h := g8.st.2.2.2.1
    have h' : kx ≤ len0 := h
    omega
  have HB2 := Lib.hid (below_gb_of HB1.out g9 (Nat.le_refl _))
  clear g1 g2 g3 g4 g5 g6 g7 g8 g9 HG
  go_upto_region 2 with (fail)
  obtain ⟨wY, hwY⟩ : ∃ wY, w2.alloc (.cells #[.int .i64 k0, .string ⟨t0.toArray⟩, .int .i64 o0, .slice A0 kids0.len c0] 25) = wY := ⟨_, rfl⟩
  have hY := bh_alloc (BH.refl w2) (.cells #[.int .i64 k0, .string ⟨t0.toArray⟩, .int .i64 o0, .slice A0 kids0.len c0] 25)
  have eY := heap_alloc_new w2 (.cells #[.int .i64 k0, .string ⟨t0.toArray⟩, .int .i64 o0, .slice A0 kids0.len c0] 25)
  rw [hwY] at hY eY ⊢
  have EY := Lib.hid eY
  have KY := Lib.hid (K0.out.below hY)
  have BY := Lib.hid (HB2.out.trans (hY.mono HB2.out.size))
  clear hY eY hwY K0 HB2 HB1
  obtain ⟨g5, hg5⟩ : ∃ g5, w2.heap.size = g5 := ⟨_, rfl⟩
  rw [hg5] at EY ⊢
  clear hg5
  go_cut [8] (fun s8 wx => ∃ (A8 : Option Addr) (n8 c8 : Nat) (zs8 : List Int), s8 = .slice A8 n8 c8 ∧ Hid (n8 ≤ 2097152 ∧ Ints wx A8 n8 zs8 ∧ BH wY wx))
  case first =>
    obtain ⟨kk, hkk⟩ : ∃ kk : Nat, modI n ((len0 : Int) + 1) = (kk : Int) := ⟨(modI n ((len0 : Int) + 1)).toNat, by have := (modI_bounds n ((len0 : Int) + 1) (by omega)).1; omega⟩
    have hkl : kk ≤ len0 := by have := (modI_bounds n ((len0 : Int) + 1) (by omega)).2; omega
    obtain ⟨hc0, hl0⟩ := cel_row HI0.out
    have hcc : kk ≤ cap0 := by have := hc0.2.1; omega
    have HM : Hid (∀ X, Calls Tryd.prog 29 #[.int .i64 n, .int .i64 ((len0 : Int) + 1)] X fun e w' => e = .returned (.int .i64 (kk : Int)) ∧ X = w') := Lib.hid fun X => (mod_big n ((len0 : Int) + 1) X (by omega) (by omega)).mono fun e w' h => ⟨by rw [h.1, hkk], h.2⟩
    have hC0 := (hc0.bh BY.out).take hkl
    rw [Nat.mul_one, ← List.map_take, List.take_take, Nat.min_eq_left hkl] at hC0
    have HC0 := Lib.hid (And.intro hC0 (show (z0.take kk).length = kk by rw [List.length_take] at hl0 ⊢; omega))
    have hkc : (kk : Int) ≤ (cap0 : Int) := by omega
    have hk0 : (0 : Int) ≤ (kk : Int) := by omega
    have hwl : IntKind.i64.wrap ((len0 : Int) + 1) = (len0 : Int) + 1 := (IntKind.wrap_i64 _).trans (by omega)
    have hwl2 : wrap64 ((len0 : Int) + 1) = (len0 : Int) + 1 := wrap64_in (by omega) (by omega)
    have HL0 := Lib.hid hkl
    clear hkk hkl hc0 hl0 hcc hC0
    have hshape : a0 = none ∧ len0 = 0 ∧ cap0 = 0 ∨ ∃ x, a0 = some x := by
      rcases HI0.out with ⟨h1, h2, h3, _⟩ | ⟨x, h1, _⟩
      · exact .inl ⟨h1, h2, h3⟩
      · exact .inr ⟨x, h1⟩
    rcases hshape with ⟨rfl, rfl, rfl⟩ | ⟨x, rfl⟩
    all_goals
      go_wp2_with (first
        | (go_at_call 29; (refine (HM.out _).mono ?_); rintro e u ⟨rfl, rfl⟩)
        | (at_builtin; go_loud (refine wpList_app _ (by rfl) _ _ _ (by rfl) wY.heap.size 3 i0 _ 1 8 Tryd.underlying22 hi hz0 hz1 hz2 rfl (by decide) (.slice (some ⟨wY.heap.size, 0, none⟩) 0 0) 0 [] (by rfl) (own0 (heap_alloc_new wY _) (Nat.le_refl _)) _ kk _ ((z0.take kk).map (Value.int .i64)) (by rfl) (HC0.out.1.bh (bh_alloc (BH.refl wY) _)) (all_int _) (by have := HL0.out; unfold maxLen; omega) (by have := HL0.out; omega) (by simp) ?_)))
      intro v1 w3 ho1 hg1 ha1
      obtain ⟨A6, c6, rfl, hc6⟩ := own_shape ho1
      have BX := Lib.hid (bh_alloc (BH.refl wY) (.cells #[] 3))
      have hg1' : (wY.alloc (.cells #[] 3)).grownBy w3 (some wY.heap.size) := hg1
      have B3 := Lib.hid (below_gb_of BX.out hg1' (Nat.le_refl _))
      have HO := Lib.hid ho1
      have HA := Lib.hid ha1
      clear ho1 hg1 ha1 hg1' hc6
      have hc1 := cel_row HI1.out
      have hCl : Cel w3 1 a1 len1 cap1 ((z1.take len1).map (Value.int .i64)) := hc1.1.bh (BY.out.trans (B3.out.mono BY.out.size))
      have HC1 := Lib.hid (And.intro hCl hc1.2)
      clear hc1 hCl
      go_wp2_with (at_builtin; go_loud (refine wpList_app _ (by rfl) _ _ _ (by rfl) wY.heap.size 3 i0 _ 1 8 Tryd.underlying22 hi hz0 hz1 hz2 rfl (by decide) _ _ _ (by rfl) HO.out a1 len1 cap1 ((z1.take len1).map (Value.int .i64)) (by rfl) HC1.out.1 (all_int _) (by have := HL0.out; unfold maxLen; omega) (by have := HL0.out; omega) B3.out.size ?_))
      intro v2 w4 ho2 hg2 ha2
      obtain ⟨A8, c8, rfl, hc8⟩ := own_shape ho2
      have HO2 := Lib.hid ho2
      have HA2 := Lib.hid ha2
      have HG2 := Lib.hid hg2
      clear ho2 hg2 ha2 hc8
      go_wp2_with (fail)
      go_meet
      refine ⟨A8, kk + len1, c8, z0.take kk ++ z1.take len1, rfl, Lib.hid ⟨by have := HL0.out; omega, ints_of_cel (c := c8) (by rw [List.map_append, List.map_take, List.map_take]; exact Cel.of_own HO2.out), ?_⟩⟩
      have hg := HG2.out
      rcases HA.out with h | h
      · rw [h] at hg
        exact below_gb_of B3.out hg (Nat.le_refl _)
      · rw [h] at hg
        exact below_gb_of B3.out hg (by simp)
  case rest =>
  obtain ⟨A8, n8, c8, zs8, rfl, H8⟩ := hcut
  go_wp2_with (fail)
  refine (new_any _ _ _ _).mono ?_
  rintro e4 u1 ⟨rfl, rfl⟩
  go_wp2_with (fail)
  refine (base_any _).mono ?_
  rintro e5 w3 ⟨A9, c9, rfl, hD, hb⟩
  have TWc := tab_keep TW.out (BY.out.trans (H8.out.2.2.mono BY.out.size))
  obtain ⟨gd2, od2, rfl, hG⟩ := genD_new (Below.refl _ _) (by have := H8.out.1; unfold maxLen; omega) H8.out.2.1 TWc HSh.out hb hD
  have HG := Lib.hid hG
  have HB3 := Lib.hid ((bh_alloc (BH.refl wc) (.cells #[.slice A8 n8 c8, .int .i64 0] 55)).trans hb)
  clear hD hb hG TWc
  go_wp2_with (fail)
  refine (termC _ 0 _ HG.out).mono ?_
  rintro e6 w4 ⟨ky, k1, o1, t1, kids1, A1, c1, ys1, rfl, g1, g2, g3, g4, q5, g6, g7, g8, g9⟩
  have K1 := Lib.hid (KT.of g1 g2 g3)
  have s1 : fsize kids1 ≤ 1073741824 := by
    have h := g8.st.2.2.2.1
    have h' : ky ≤ n8 := h
    have h8 := H8.out.1
    omega
  have HB4 := Lib.hid (show BH wc w4 from below_gb_of HB3.out g9 (Nat.le_refl _))
  clear g1 g2 g3 g4 q5 g6 g7 g8 g9 HG
  go_upto_region 4 with (fail)
  refine gen_wp _ (fun X => P2 w X g5 w4.heap.size k0 o0 t0 kids0 A0 c0 k1 o1 t1 kids1 A1 c1) ?_ ?_
  · have h1 := heap_alloc_new w4 (.cells #[.int .i64 k1, .string ⟨t1.toArray⟩, .int .i64 o1, .slice A1 kids1.len c1] 25)
    have f1 := bh_alloc (BH.refl w4) (.cells #[.int .i64 k1, .string ⟨t1.toArray⟩, .int .i64 o1, .slice A1 kids1.len c1] 25)
    have fY := (BH.trans H8.out.2.2 HB4.out).trans f1
    exact ⟨(Below.block fY _ (heap_lt EY.out)).trans EY.out, h1, KY.out.below fY, K1.out.below f1, BY.out.trans (fY.mono BY.out.size)⟩
  rintro W5 hP
  obtain ⟨g6, hg6⟩ : ∃ g6, w4.heap.size = g6 := ⟨_, rfl⟩
  rw [hg6] at hP ⊢
  clear hg6 K1 HB4 HB3 H8 EY KY BY
  obtain ⟨x, hx⟩ : ∃ x, cmp1 k0 t0 o0 kids0 k1 t1 o1 kids1 = x := ⟨_, rfl⟩
  have CC : Hid (∀ X, P2 w X g5 g6 k0 o0 t0 kids0 A0 c0 k1 o1 t1 kids1 A1 c1 → Calls Tryd.prog 37 #[.agg #[.int .i64 k0, .string ⟨t0.toArray⟩, .int .i64 o0, .slice A0 kids0.len c0], .agg #[.int .i64 k1, .string ⟨t1.toArray⟩, .int .i64 o1, .slice A1 kids1.len c1]] X fun e u => e = .returned (.int .i64 x) ∧ P2 w u g5 g6 k0 o0 t0 kids0 A0 c0 k1 o1 t1 kids1 A1 c1) := Lib.hid (by
    intro X h
    refine (compare_any (fsize kids0) k0 o0 k1 o1 t0 t1 kids0 kids1 A0 A1 c0 c1 _ (Nat.le_refl _) s0 s1 h.k0 h.k1).mono ?_
    rintro e u ⟨rfl, hb⟩
    exact ⟨congrArg (fun z : Int => Ending.returned (.int .i64 z)) hx, h.below hb⟩)
  have CR : Hid (∀ X, P2 w X g5 g6 k0 o0 t0 kids0 A0 c0 k1 o1 t1 kids1 A1 c1 → Calls Tryd.prog 38 #[.agg #[.int .i64 k0, .string ⟨t0.toArray⟩, .int .i64 o0, .slice A0 kids0.len c0], .agg #[.int .i64 k1, .string ⟨t1.toArray⟩, .int .i64 o1, .slice A1 kids1.len c1]] X fun e u => e = .returned (.int .i64 x) ∧ P2 w u g5 g6 k0 o0 t0 kids0 A0 c0 k1 o1 t1 kids1 A1 c1) := Lib.hid (by
    intro X h
    refine (rcompare_any (fsize kids0) k0 o0 k1 o1 t0 t1 kids0 kids1 A0 A1 c0 c1 _ (Nat.le_refl _) s0 s1 h.k0 h.k1).mono ?_
    rintro e u ⟨rfl, hb⟩
    exact ⟨congrArg (fun z : Int => Ending.returned (.int .i64 z)) hx, h.below hb⟩)
  have CE : Hid (∀ X, P2 w X g5 g6 k0 o0 t0 kids0 A0 c0 k1 o1 t1 kids1 A1 c1 → Calls Tryd.prog 31 #[.agg #[.int .i64 k0, .string ⟨t0.toArray⟩, .int .i64 o0, .slice A0 kids0.len c0], .agg #[.int .i64 k1, .string ⟨t1.toArray⟩, .int .i64 o1, .slice A1 kids1.len c1]] X fun e u => e = .returned (.bool (x == 0)) ∧ P2 w u g5 g6 k0 o0 t0 kids0 A0 c0 k1 o1 t1 kids1 A1 c1) := Lib.hid (by
    intro X h
    refine (equalT_any k0 o0 k1 o1 t0 t1 kids0 kids1 A0 A1 c0 c1 _ s0 s1 h.k0 h.k1).mono ?_
    rintro e u ⟨rfl, hb⟩
    exact ⟨by rw [hx], h.below hb⟩)
  have CQ : Hid (∀ X, P2 w X g5 g6 k0 o0 t0 kids0 A0 c0 k1 o1 t1 kids1 A1 c1 → Calls Tryd.prog 36 #[.agg #[.int .i64 k0, .string ⟨t0.toArray⟩, .int .i64 o0, .slice A0 kids0.len c0], .agg #[.int .i64 k1, .string ⟨t1.toArray⟩, .int .i64 o1, .slice A1 kids1.len c1]] X fun e u => e = .returned (.bool (x == 0)) ∧ P2 w u g5 g6 k0 o0 t0 kids0 A0 c0 k1 o1 t1 kids1 A1 c1) := Lib.hid (by
    intro X h
    refine (requalT_any k0 o0 k1 o1 t0 t1 kids0 kids1 A0 A1 c0 c1 _ s0 s1 h.k0 h.k1).mono ?_
    rintro e u ⟨rfl, hb⟩
    exact ⟨by rw [hx], h.below hb⟩)
  obtain ⟨bb, hbb⟩ : ∃ bb : Bool, (x == 0) = bb := ⟨_, rfl⟩
  rw [hbb] at CE CQ
  clear hx hbb s0 s1
  have HPn := Lib.hid (hP.below (below_drew W5))
  obtain ⟨p0, p1, p2, p3, b0, b1, b2, b3⟩ := hP.cells
  clear hP
  go_region_held3 (fun X => X.cell? ⟨g5, 0, none⟩ = some (.int .i64 k0) ∧ X.cell? ⟨g5, 1, none⟩ = some (.string ⟨t0.toArray⟩) ∧ X.cell? ⟨g5, 2, none⟩ = some (.int .i64 o0) ∧ X.cell? ⟨g5, 3, none⟩ = some (.slice A0 kids0.len c0) ∧ X.cell? ⟨g6, 0, none⟩ = some (.int .i64 k1) ∧ X.cell? ⟨g6, 1, none⟩ = some (.string ⟨t1.toArray⟩) ∧ X.cell? ⟨g6, 2, none⟩ = some (.int .i64 o1) ∧ X.cell? ⟨g6, 3, none⟩ = some (.slice A1 kids1.len c1)) (go_keep)
    (first
      | (go_at_call 15; refine (check2_any _).mono ?_; rintro e u ⟨rfl, hb⟩; have HPn := Lib.hid (HPn.out.below hb); clear hb; obtain ⟨p0, p1, p2, p3, b0, b1, b2, b3⟩ := HPn.out.cells)
      | (go_at_call 37; (with_reducible refine (CC.out _ HPn.out).mono ?_); rintro e u ⟨rfl, hp⟩; have HPn := Lib.hid hp; clear hp; obtain ⟨p0, p1, p2, p3, b0, b1, b2, b3⟩ := HPn.out.cells)
      | (go_at_call 38; (with_reducible refine (CR.out _ HPn.out).mono ?_); rintro e u ⟨rfl, hp⟩; have HPn := Lib.hid hp; clear hp; obtain ⟨p0, p1, p2, p3, b0, b1, b2, b3⟩ := HPn.out.cells)
      | (go_at_call 31; (with_reducible refine (CE.out _ HPn.out).mono ?_); rintro e u ⟨rfl, hp⟩; have HPn := Lib.hid hp; clear hp; obtain ⟨p0, p1, p2, p3, b0, b1, b2, b3⟩ := HPn.out.cells)
      | (go_at_call 36; (with_reducible refine (CQ.out _ HPn.out).mono ?_); rintro e u ⟨rfl, hp⟩; have HPn := Lib.hid hp; clear hp; obtain ⟨p0, p1, p2, p3, b0, b1, b2, b3⟩ := HPn.out.cells))
  all_goals
    go_wp2_with (fail)
    go_ret
    exact ⟨rfl, HPn.out.bel⟩
end Go.Proofs.YtnidngpenhblcaaDoor.TQ
