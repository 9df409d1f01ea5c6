/- tellaw3.HierarchyDeclare: the walk. What is laid: the two tables of names. The bound: at most 2^20 integers, a name of at most 2^20 letters. -/
import Derived.Test.YtpkiheenkpcebaaGreatDoorMbr
import Derived.Deep.CutBlock
set_option linter.unusedVariables false
set_option linter.unusedSimpArgs false
namespace Go.Proofs.YtpkiheenkpcebaaGreatDoor.JH
open Go.RowKit Sx TL

set_option maxHeartbeats 16000000 in
set_option maxRecDepth 100000 in
theorem declare_walk (a0 : Option Addr) (len0 cap0 : Nat) (z0 : List Int) (a1 : Option Addr) (len1 cap1 : Nat) (z1 : List Int) (which how n : Int) (nm : List UInt8) (vars : Int) (w : World)
    (hr0 : IsRow .i64 w a0 len0 cap0 z0) (hr1 : IsRow .i64 w a1 len1 cap1 z1) (hb0 : len0 ≤ 1048576) (hb1 : len1 ≤ 1048576) (hnm : nm.length ≤ 1048576) (Wl : List (List UInt8)) (gw ow cw : Nat) (tW : TabW w 1 4 Wl gw ow cw) (hs : ∀ s ∈ Wl, s.length ≤ 1000) (Xl : List (List UInt8)) (gx ox cx : Nat) (tX : TabW w 0 4 Xl gx ox cx) (hsx : ∀ s ∈ Xl, s.length ≤ 1000) :
    Calls Tryz.prog 4 #[.slice a0 len0 cap0, .slice a1 len1 cap1, .int .i64 which, .int .i64 how, .int .i64 n, .string ⟨nm.toArray⟩, .int .i64 vars] w fun e w' => e = .returned (.bool true) ∧ Below w.heap.size w w' := by
  have B : XB w ⟨w.heap.size, a0, len0, cap0, z0, Wl, gw, ow, cw, Xl, gx, ox, cx⟩ := ⟨tW, tX, hs, hsx, Nat.le_refl _, hr0.ints.2⟩
  have hdec := decls_any w w _ B rfl (Below.refl _ _) hr0.ints.1
  have HDec := Lib.hid hdec
  have HI1 := Lib.hid hr1
  have HSh := Lib.hid (And.intro hs hsx)
  have TW := Lib.hid tW
  have Hnm := Lib.hid hnm
  clear hr0 hr1 tW tX hs hsx hnm B hdec
  go_enter Tryz.func4, Tryz.ntmps4
  go_wp2_with (fail)
  refine HDec.out.mono ?_
  rintro e u1 ⟨k1, gB, u0, v, es, xs, rfl, hx, hes, hok, hb⟩
  obtain ⟨gd, cd, rfl, hgd0, hgd1⟩ := hx.shape (by simp [baseD])
  have hdc := hx.dcs
  obtain ⟨dl, hdl⟩ : ∃ dl, baseD ++ es = dl := ⟨_, rfl⟩
  rw [hdl] at hdc ⊢
  have hok3 : ∀ d ∈ dl, OkD 3 d := by
    rw [← hdl]
    intro d hd
    rcases List.mem_append.1 hd with hd | hd
    · exact baseD_okD d hd
    · exact (hok d hd).okD HSh.out.2 (by show len0 ≤ _; omega) (by decide)
  have hav : ∀ d ∈ dl, avX d := by
    rw [← hdl]
    intro d hd
    rcases List.mem_append.1 hd with hd | hd
    · exact baseD_ok d hd
    · exact (hok d hd).av HSh.out.2
  have hfl : ∀ d ∈ dl, d.fields.length ≤ 2 := by
    rw [← hdl]
    intro d hd
    rcases List.mem_append.1 hd with hd | hd
    · have key : ∀ d ∈ baseD, d.fields.length ≤ 2 := by decide
      exact key d hd
    · have := (hok d hd).2.2.2.2.1
      omega
  have hlen : 0 < dl.length ∧ dl.length ≤ 12 := by
    rw [← hdl, List.length_append, show baseD.length = 8 from rfl]
    omega
  have hds0 : ∀ d ∈ ds0, OkD 3 d := fun d hd => (good0 d hd).mono (by decide)
  have hhi := hierarchies_any 3 dl (some ⟨gd, 0, none⟩) cd u1 hdc (by decide) (by decide) hok3 hds0 (by omega)
  have HHi := Lib.hid hhi
  have HB1 := Lib.hid hb
  have HDl := Lib.hid (And.intro hdc (And.intro hok3 (And.intro hav hfl)))
  have HDs0 := Lib.hid hds0
  clear hx hes hok hb hdc hdl hok3 hav hfl hhi hds0 HDec
  go_wp2_with (fail)
  refine HHi.out.mono ?_
  rintro e u2 ⟨p, b, q, vH, lH, rfl, h1, h2, h3, h4⟩
  have HH := Lib.hid (And.intro h1 (And.intro h2 (And.intro h3 h4)))
  clear h1 h2 h3 h4 HHi
  go_wp2_with (fail)
  refine (check3_any _).mono ?_
  rintro e W0 ⟨rfl, hb3⟩
  have HB3 := Lib.hid hb3
  clear hb3
  go_upto_region 5 with (fail)
  have b02 := BH.trans HH.out.2.2.1 HB3.out
  have bw0 := BH.trans HB1.out b02
  have hs10 := Below.size b02
  have hP := modI_bounds which (dl.length : Int) (by omega)
  obtain ⟨P, hPe⟩ : ∃ P : Nat, modI which (dl.length : Int) = (P : Int) := ⟨(modI which (dl.length : Int)).toNat, by omega⟩
  have hPl : P < dl.length := by omega
  obtain ⟨d, hd⟩ : ∃ d, dl[P]? = some d := ⟨_, List.getElem?_eq_getElem hPl⟩
  obtain ⟨vr, hvr⟩ : ∃ vr, modI vars 3 = vr := ⟨_, rfl⟩
  have hv := modI_bounds vars 3 (by decide)
  rw [hvr] at hv
  obtain ⟨g', off', A1, c1, F1, x1, e', hS', hgl, p0, p1, p2, p3, p4, p5, p6, p7, kk, ff⟩ := (HDl.out.1.bh b02).at hd
  cases e'
  simp only [Nat.zero_add] at p0 p1 p2 p3 p4 p5 p6 p7
  have CM1 := Lib.hid (fun X : World => mod_any which (dl.length : Int) X (by omega) (by omega))
  have CM2 := Lib.hid (fun X : World => mod_any vars 3 X (by decide) (by decide))
  have HPe := Lib.hid (And.intro hPe hvr)
  have HK := Lib.hid (And.intro kk ff)
  have HOd := Lib.hid (And.intro (HDl.out.2.1 d (List.mem_of_getElem? hd)) (HDl.out.2.2.2 d (List.mem_of_getElem? hd)))
  have HW := Lib.hid (And.intro bw0 (And.intro b02 (And.intro hs10 hgd1)))
  have HV := Lib.hid hv
  have HP := Lib.hid hPl
  have HLen := Lib.hid hlen
  have hi0 : (0 : Int) ≤ (P : Int) := by omega
  have hiL : (P : Int) < (dl.length : Int) := by omega
  have HCell := Lib.hid (And.intro p0 (And.intro p1 (And.intro p2 (And.intro p3 (And.intro p4 (And.intro p5 (And.intro p6 p7)))))))
  obtain ⟨RR, hRR⟩ : ∃ RR : Value → World → Prop, RR = (fun s W => Hid (∃ (g : Nat) (e : De) (A2 F2 : Option Addr) (c2 x2 : Nat), s = .pointer (some ⟨g, 0, none⟩) ∧ OkD 3 e ∧ W0.heap.size ≤ g ∧ W.heap[g]? = some (.cells #[.string ⟨e.name.toArray⟩, .int .i64 e.arity, .int .i64 e.super.k, .string ⟨e.super.t.toArray⟩, .int .i64 e.super.o, .slice A2 e.super.kids.len c2, .bool e.conc, .slice F2 e.fields.length x2] 37 (0, 0)) ∧ KS W (fun y => (y < u1.heap.size ∨ W0.heap.size ≤ y) ∧ y ≠ g) e.super.kids A2 c2 ∧ FlS W (fun y => (y < u1.heap.size ∨ W0.heap.size ≤ y) ∧ y ≠ g) e.fields F2 x2 ∧ BH W0 W)) := ⟨_, rfl⟩
  have HRR := Lib.hid hRR
  clear hRR hPe hvr hv hPl hP hlen kk ff bw0 b02 hs10 hS' hgl hgd0 hgd1 p0 p1 p2 p3 p4 p5 p6 p7
  go_cut [19] (fun s19 wx => RR s19 wx)
  case first =>
    refine wp_region_last (γ := DeG) (by kernel_rfl) (dgV u1.heap.size W0.heap.size gd dl.length cd P d A1 c1 F1 x1 how n vars vr nm a1 len1 cap1 which) (dgI W0 a1 len1 cap1 z1) (dgT W0 a1 len1 cap1 z1) dgZ (fun a W => RR (a.tmps.getD 19 undef) W) ⟨0, 0, 0, 0⟩ 18 _ rfl ?_ (fun _ => ⟨fun _ => rfl, fun _ => Nat.zero_le _, fun _ => rfl⟩) (fun _ _ _ _ _ h => h.1) dgV_T (by kernel_rfl) ?_ ?_ ?_
    · exact ⟨below_drew W0, fun h => absurd h (by show ¬ (0 : Nat) = 1; decide), fun h => absurd h (by show ¬ 1 ≤ (0 : Nat); decide), fun h => absurd h (by show ¬ (0 : Nat) = 1; decide), by show (0 : Nat) ≤ 2; decide, by show (0 : Nat) ≤ 1; decide⟩
    · refine ⟨?_, ?_, ?_, ?_, ?_, ?_, ?_, ?_, ?_, ?_, ?_, ?_, ?_, ?_, ?_, ?_, ?_, ?_, trivial⟩
      · intro m a W hI hZ hF hD
        have h := same_of hF 15 (by kernel_rfl)
        go_simp
        exact ⟨_, rfl, m, rfl, dg_same hI, fun _ _ h => h⟩
      · intro m a W hI hZ hF hD
        have h := same_of hF 2 (by kernel_rfl)
        go_simp
        exact ⟨_, rfl, m, rfl, dg_same hI, fun _ _ h => h⟩
      · intro m a W hI hZ hF hD
        have h := same_of hF 15 (by kernel_rfl)
        go_simp
        exact ⟨_, rfl, m, rfl, dg_same hI, fun _ _ h => h⟩
      · intro m a W hI hZ hF hD
        have h : a.tmps[36]?.getD undef = .slice (some ⟨gd, 0, none⟩) dl.length cd := dep_of hD 2 36 (by kernel_rfl) rfl rfl
        go_simp
        exact ⟨_, rfl, m, rfl, dg_same hI, fun _ _ h => h⟩
      · intro m a W hI hZ hF hD
        have h : a.tmps[35]?.getD undef = .int .i64 which := dep_of hD 1 35 (by kernel_rfl) rfl rfl
        have h' : a.tmps[37]?.getD undef = .int .i64 (dl.length : Int) := dep_of hD 3 37 (by kernel_rfl) rfl rfl
        go_simp
        refine (CM1.out W).mono ?_
        rintro e u ⟨rfl, rfl⟩
        exact ⟨_, rfl, m, by rw [HPe.out.1]; rfl, dg_same hI, fun _ _ h => h⟩
      · intro m a W hI hZ hF hD
        have h : a.tmps[34]?.getD undef = .slice (some ⟨gd, 0, none⟩) dl.length cd := dep_of hD 0 34 (by kernel_rfl) rfl rfl
        have h' : a.tmps[38]?.getD undef = .int .i64 (P : Int) := dep_of hD 4 38 (by kernel_rfl) rfl rfl
        go_simp
        exact ⟨_, rfl, m, rfl, dg_same hI, fun _ _ h => h⟩
      · intro m a W hI hZ hF hD
        have h : a.tmps[39]?.getD undef = .pointer (some ⟨gd, P * 8, none⟩) := dep_of hD 5 39 (by kernel_rfl) rfl rfl

        obtain ⟨p0, p1, p2, p3, p4, p5, p6, p7⟩ := HCell.out
        have l0 := BH.cell hI.1 p0; have l1 := BH.cell hI.1 p1; have l2 := BH.cell hI.1 p2; have l3 := BH.cell hI.1 p3; have l4 := BH.cell hI.1 p4; have l5 := BH.cell hI.1 p5; have l6 := BH.cell hI.1 p6; have l7 := BH.cell hI.1 p7
        clear p0 p1 p2 p3 p4 p5 p6 p7
        go_simp
        exact ⟨_, rfl, m, rfl, dg_same hI, fun _ _ h => h⟩
      · intro m a W hI hZ hF hD
        have h := same_of hF 3 (by kernel_rfl)
        go_simp
        exact ⟨_, rfl, m, rfl, dg_same hI, fun _ _ h => h⟩
      · intro m a W hI hZ hF hD
        have h := same_of hF 4 (by kernel_rfl)
        go_simp
        exact ⟨_, rfl, m, rfl, dg_same hI, fun _ _ h => h⟩
      · intro m a W hI hZ hF hD
        have h := same_of hF 5 (by kernel_rfl)
        go_simp
        exact ⟨_, rfl, m, rfl, dg_same hI, fun _ _ h => h⟩
      · intro m a W hI hZ hF hD
        have h := same_of hF 1 (by kernel_rfl)
        go_simp
        exact ⟨_, rfl, m, rfl, dg_same hI, fun _ _ h => h⟩
      · intro m a W hI hZ hF hD
        have h : a.tmps[44]?.getD undef = .slice a1 len1 cap1 := dep_of hD 10 44 (by kernel_rfl) rfl rfl
        have HI := Lib.hid (And.intro hI hZ)
        clear hI hZ hF hD
        go_simp
        refine (new_any a1 len1 cap1 W).mono ?_
        rintro e u ⟨rfl, rfl⟩
        obtain ⟨hI, hZ⟩ := HI.out
        obtain ⟨mn, mb, mal, mg⟩ := m
        obtain rfl : mn = 0 := hZ.1 rfl
        obtain ⟨i1, i2, i3, i4, i5, i6⟩ := hI
        have hb := bh_alloc (BH.refl W) (.cells #[.slice a1 len1 cap1, .int .i64 0] 98)
        have hst := strm_new (w0 := w) (w := W) (cap := cap1) (BH.trans HW.out.1 i1) HI1.out.ints.1 HI1.out.ints.2
        have hsz := Below.size i1
        refine ⟨_, rfl, ⟨1, W.heap.size, mal, mg⟩, ⟨Nat.le_refl _, rfl⟩, ⟨⟨BH.trans i1 hb, fun _ => hst, fun _ => ⟨hsz, by simp, fun h => ?_⟩, fun h => ⟨(i4 h).1, by have := (i4 h).2; simp at this ⊢; omega⟩, by show (1 : Nat) ≤ 2; decide, i6⟩, by simp, Nat.zero_le _, fun h => absurd h (by show ¬ 1 ≤ (0 : Nat); decide), fun h => ⟨h, rfl⟩, fun h1 h2 => ?_, fun y hy _ => Below.block hb y hy, fun _ => hb⟩, fun j hj hz => ⟨fun e => absurd e hj, fun _ => Nat.le_refl _, hz.2.2⟩⟩
        · have := (i4 h).2
          show ¬ W.heap.size = mg
          simp only at this
          omega
        · exfalso
          simp only at h1 h2
          omega
      · intro m a W hI hZ hF hD
        have h := same_of hF 15 (by kernel_rfl)
        go_simp
        exact ⟨_, rfl, m, rfl, dg_same hI, fun _ _ h => h⟩
      · intro m a W hI hZ hF hD
        have h := same_of hF 6 (by kernel_rfl)
        go_simp
        exact ⟨_, rfl, m, rfl, dg_same hI, fun _ _ h => h⟩
      · intro m a W hI hZ hF hD
        have h : a.tmps[47]?.getD undef = .int .i64 vars := dep_of hD 13 47 (by kernel_rfl) rfl rfl
        go_simp
        refine (CM2.out W).mono ?_
        rintro e u ⟨rfl, rfl⟩
        exact ⟨_, rfl, m, by rw [HPe.out.2]; rfl, dg_same hI, fun _ _ h => h⟩
      · intro m a W hI hZ hF hD
        obtain ⟨mn, mb, mal, mg⟩ := m
        obtain ⟨h1, h⟩ : 1 ≤ mn ∧ a.tmps[45]?.getD undef = .pointer (some ⟨mb, 0, none⟩) := dep_of hD 11 45 (by kernel_rfl) rfl rfl
        have h' : a.tmps[46]?.getD undef = .slice (some ⟨gd, 0, none⟩) dl.length cd := dep_of hD 12 46 (by kernel_rfl) rfl rfl
        have h'' : a.tmps[48]?.getD undef = .int .i64 vr := dep_of hD 14 48 (by kernel_rfl) rfl rfl
        have hz1 : mn ≤ 1 := hZ.2.1 rfl
        obtain rfl : mn = 1 := by omega
        obtain ⟨i1, i2, i3, i4, i5, i6⟩ := hI
        obtain ⟨j1, j2, j3⟩ := i3 (Nat.le_refl _)
        have hdcW := HDl.out.1.bh (BH.trans HW.out.2.1 i1)
        have hsW := HW.out.2.2
        have hG : GenD W ⟨mb, a1, len1, cap1, z1, Wl, gw, ow, cw, gd, 0, dl.length, cd, dl.map fun d => (d.name, d.arity.toNat)⟩ 0 := ⟨i2 rfl, TW.out.tab (BH.trans HW.out.1 i1) (by have := Below.size HW.out.1; simp only at j1; show w.heap.size ≤ mb; omega), dn_of hdcW rfl rfl rfl rfl (by show ¬ gd = mb; simp only at j1; omega) (by have := Below.size i1; omega) (by have := HLen.out; omega) HDl.out.2.2.1, HSh.out.1⟩
        have hC := openTermC _ 0 vr W hG HV.out.1 (by have := HV.out.2; omega)
        have HC := Lib.hid hC
        have HI := Lib.hid (And.intro i1 (And.intro i4 (And.intro i6 (And.intro j1 (And.intro j2 j3)))))
        clear hC hG hdcW hsW i1 i2 i3 i4 i5 i6 j1 j2 j3 hZ hF hD h1 hz1
        go_simp
        refine HC.out.mono ?_
        rintro e u ⟨k', q1, o1, t1, kids1, A2, c2, ys, rfl, y1, y2, y3, y4, y5, y6, y7, y8, y9⟩
        obtain ⟨i1, i4, i6, j1, j2, j3⟩ := HI.out
        simp only at i4 i6 j1 j2 j3
        have hk' : k' ≤ len1 := y8.st.2.2.2.1
        have hbu : BH W0 u := below_gb_of i1 y9 j1
        have hsu := y9.size
        refine ⟨_, rfl, ⟨2, mb, mal, mg⟩, ⟨rfl, i6, ⟨q1, t1, kids1, o1⟩, A2, c2, rfl, ⟨y1, ys, y2.keep (Nat.le_refl _) (fun y hy _ => ⟨rfl, .inr (by have := Below.size i1; omega), fun h => by have := (i4 h).2; show ¬ y = mg; omega⟩), y3.keep (Nat.le_refl _) (fun y hy _ => ⟨rfl, .inr (by have := Below.size i1; omega), fun h => by have := (i4 h).2; show ¬ y = mg; omega⟩) _⟩, ⟨by show fsize kids1 ≤ _; omega, y6.1.1, lenG_lenT _ y6.2.1, closed1_mono (by have := HV.out.2; omega) y7⟩, by show fsize kids1 ≤ _; omega⟩,
          ⟨⟨hbu, fun h => absurd h (by show ¬ (2 : Nat) = 1; decide), fun _ => ⟨j1, by show mb < u.heap.size; omega, j3⟩, fun h => ⟨(i4 h).1, by have := (i4 h).2; show mg < u.heap.size; omega⟩, Nat.le_refl _, i6⟩, hsu, by show (1 : Nat) ≤ 2; decide, fun _ => rfl, fun h => ⟨h, rfl⟩, fun h1 h2 => by simp only at h1 h2; omega, fun y hy hne => y9.block y hy (by simp; exact hne rfl), fun h => absurd h (by show ¬ (1 : Nat) = 2; decide)⟩, fun j hj hz => ⟨fun e => absurd (hz.1 e) (by show ¬ (1 : Nat) = 0; decide), fun e => absurd e hj, hz.2.2⟩⟩
      · intro m a W hI hZ hF hD
        obtain ⟨mn, mb, mal, mg⟩ := m
        have h40 : a.tmps[40]?.getD undef = .agg #[.string ⟨d.name.toArray⟩, .int .i64 d.arity, .int .i64 d.super.k, .string ⟨d.super.t.toArray⟩, .int .i64 d.super.o, .slice A1 d.super.kids.len c1, .bool d.conc, .slice F1 d.fields.length x1] := dep_of hD 6 40 (by kernel_rfl) rfl rfl
        have h41 : a.tmps[41]?.getD undef = .int .i64 how := dep_of hD 7 41 (by kernel_rfl) rfl rfl
        have h42 : a.tmps[42]?.getD undef = .int .i64 n := dep_of hD 8 42 (by kernel_rfl) rfl rfl
        have h43 : a.tmps[43]?.getD undef = .string ⟨nm.toArray⟩ := dep_of hD 9 43 (by kernel_rfl) rfl rfl
        obtain ⟨e1, e2, y, A2, c2, h49, k2, ok2, sz2⟩ : mn = 2 ∧ mal ≤ 1 ∧ ∃ (y : Tm) (A2 : Option Addr) (c2 : Nat), a.tmps[49]?.getD undef = .agg #[.int .i64 y.k, .string ⟨y.t.toArray⟩, .int .i64 y.o, .slice A2 y.kids.len c2] ∧ KS W (dgS u1.heap.size W0.heap.size ⟨mn, mb, mal, mg⟩) y.kids A2 c2 ∧ OkT 3 y ∧ fsize y.kids ≤ 1000000000 := dep_of hD 15 49 (by kernel_rfl) rfl rfl
        subst e1
        obtain ⟨i1, i2, i3, i4, i5, i6⟩ := hI
        simp only at i4
        have hkk : ∀ y, y < u1.heap.size → y < W0.heap.size → W.heap[y]? = W0.heap[y]? ∧ dgS u1.heap.size W0.heap.size ⟨2, mb, mal, mg⟩ y := fun y hy hl => ⟨Below.block i1 y hl, .inl hy, fun h => by have := (i4 h).1; show ¬ y = mg; omega⟩
        obtain ⟨nn, ar, ⟨k, t, kids, o⟩, cc, fs⟩ := d
        obtain ⟨yk, yt, ykids, yo⟩ := y
        have hC := spoil_any (dgS u1.heap.size W0.heap.size ⟨2, mb, mal, mg⟩) how n nm nn ar k o t kids cc fs A1 F1 c1 x1 yk yo yt ykids A2 c2 W (by have := HOd.out.2; simp only at this; omega) (fun y hy => ⟨.inr (by have := Below.size i1; omega), fun h => by have := (i4 h).2; show ¬ y = mg; omega⟩) (HK.out.1.keep (Below.size i1) hkk) (HK.out.2.keep (Below.size i1) hkk) k2
        have HC := Lib.hid hC
        have HI := Lib.hid (And.intro i1 (And.intro i2 (And.intro i3 (And.intro i4 (And.intro i5 i6)))))
        have HY := Lib.hid (And.intro ok2 sz2)
        clear hC hkk i1 i2 i3 i4 i5 i6 hZ hF hD k2 ok2 sz2
        go_simp
        refine HC.out.mono ?_
        rintro e u ⟨A3, F3, c3, x3, rfl, k3, f3, b3⟩
        obtain ⟨i1, i2, i3, i4, i5, i6⟩ := HI.out
        exact ⟨_, rfl, ⟨2, mb, mal, mg⟩, ⟨rfl, i6, _, A3, c3, F3, x3, rfl, k3, f3, spD_ok HOd.out.1 HY.out.1 HY.out.2 Hnm.out (by have := HOd.out.2; omega)⟩, dg_bh ⟨i1, i2, i3, i4, i5, i6⟩ b3, fun _ _ h => h⟩
      · intro m a W hI hZ hF hD
        have HI := Lib.hid (And.intro hI hZ)
        clear hI hZ hF hD
        go_simp
        obtain ⟨hI, hZ⟩ := HI.out
        obtain ⟨mn, mb, mal, mg⟩ := m
        obtain rfl : mal = 0 := hZ.2.2 rfl
        obtain ⟨i1, i2, i3, i4, i5, i6⟩ := hI
        simp only at i2 i3 i4 i5 i6
        have hb := bh_alloc (BH.refl W) (.cells zero8 37)
        have hsz := Below.size i1
        refine ⟨_, rfl, ⟨mn, mb, 1, W.heap.size⟩, ⟨rfl, by simp, fun h => ?_, rfl, heap_alloc_new W _⟩, ⟨⟨BH.trans i1 hb, fun h => (i2 h).keep hb, fun h => ⟨(i3 h).1, by have := (i3 h).2.1; simp; omega, fun _ => by have := (i3 h).2.1; show ¬ mb = W.heap.size; omega⟩, fun _ => ⟨hsz, by simp⟩, i5, Nat.le_refl _⟩, by simp, Nat.le_refl _, fun _ => rfl, fun h => absurd h (by show ¬ (0 : Nat) = 1; decide), fun _ _ => Nat.le_refl _, fun y hy _ => Below.block hb y hy, fun _ => hb⟩, fun j hj hz => ⟨hz.1, hz.2.1, fun e => absurd e hj⟩⟩
        have := (i3 (by simp only at h; omega)).2.1
        show ¬ mb = W.heap.size
        omega
    · intro m a W hI hF hall
      obtain ⟨mn, mb, mal, mg⟩ := m
      obtain ⟨e1, e2, e, A2, c2, F2, x2, h50, k2, f2, ok2⟩ : mn = 2 ∧ mal ≤ 1 ∧ ∃ (e : De) (A2 : Option Addr) (c2 : Nat) (F2 : Option Addr) (x2 : Nat), a.tmps[50]?.getD undef = .agg #[.string ⟨e.name.toArray⟩, .int .i64 e.arity, .int .i64 e.super.k, .string ⟨e.super.t.toArray⟩, .int .i64 e.super.o, .slice A2 e.super.kids.len c2, .bool e.conc, .slice F2 e.fields.length x2] ∧ KS W (dgS u1.heap.size W0.heap.size ⟨mn, mb, mal, mg⟩) e.super.kids A2 c2 ∧ FlS W (dgS u1.heap.size W0.heap.size ⟨mn, mb, mal, mg⟩) e.fields F2 x2 ∧ OkD 3 e := all_of hall 16 50 rfl rfl
      obtain ⟨y1, y2, y3, h19, y4⟩ : mal = 1 ∧ mg < W.heap.size ∧ (mn = 1 → mb ≠ mg) ∧ a.tmps[19]?.getD undef = .pointer (some ⟨mg, 0, none⟩) ∧ W.heap[mg]? = some (.cells #[.string ⟨#[]⟩, .int .i64 0, .int .i64 0, .string ⟨#[]⟩, .int .i64 0, .slice none 0 0, .bool false, .slice none 0 0] 37 (0, 0)) := all_of hall 17 19 rfl rfl
      obtain ⟨i1, i2, i3, i4, i5, i6⟩ := hI
      simp only at i4
      have hg0 := (i4 y1).1
      have hfin : RR (.pointer (some ⟨mg, 0, none⟩)) ((((((((W.setCell ⟨mg, 0, none⟩ (.string ⟨e.name.toArray⟩)).setCell ⟨mg, 1, none⟩ (.int .i64 e.arity)).setCell ⟨mg, 2, none⟩ (.int .i64 e.super.k)).setCell ⟨mg, 3, none⟩ (.string ⟨e.super.t.toArray⟩)).setCell ⟨mg, 4, none⟩ (.int .i64 e.super.o)).setCell ⟨mg, 5, none⟩ (.slice A2 e.super.kids.len c2)).setCell ⟨mg, 6, none⟩ (.bool e.conc)).setCell ⟨mg, 7, none⟩ (.slice F2 e.fields.length x2)) := by
        rw [HRR.out]
        have hkk : ∀ y, dgS u1.heap.size W0.heap.size ⟨mn, mb, mal, mg⟩ y → y < W.heap.size → ((((((((W.setCell ⟨mg, 0, none⟩ (.string ⟨e.name.toArray⟩)).setCell ⟨mg, 1, none⟩ (.int .i64 e.arity)).setCell ⟨mg, 2, none⟩ (.int .i64 e.super.k)).setCell ⟨mg, 3, none⟩ (.string ⟨e.super.t.toArray⟩)).setCell ⟨mg, 4, none⟩ (.int .i64 e.super.o)).setCell ⟨mg, 5, none⟩ (.slice A2 e.super.kids.len c2)).setCell ⟨mg, 6, none⟩ (.bool e.conc)).setCell ⟨mg, 7, none⟩ (.slice F2 e.fields.length x2)).heap[y]? = W.heap[y]? ∧ ((y < u1.heap.size ∨ W0.heap.size ≤ y) ∧ y ≠ mg) := fun y hy _ => ⟨s8_far (hy.2 y1) _ _ _ _ _ _ _ _, hy.1, hy.2 y1⟩
        exact Lib.hid ⟨mg, e, A2, F2, c2, x2, rfl, ok2, hg0, s8 y4 _ _ _ _ _ _ _ _, k2.keep (by simp [size_set]) hkk, f2.keep (by simp [size_set]) hkk, below_gb_of (BH.refl W0) (s8_gb (gb_below i1 (some mg)) hg0 _ _ _ _ _ _ _ _) hg0⟩
      obtain ⟨⟨r0, r1, r2, r3, r4, r5, r6, r7⟩, t0, t1, t2, t3, t4, t5, t6, t7⟩ := row8 y4
      have HFin := Lib.hid hfin
      clear hfin k2 f2 ok2 i1 i2 i3 i4 i5 i6 y1 y2 y3 y4 hg0 hall e1 e2
      go_simp
      exact HFin.out
    · intro a W hF hR
      have HA := Lib.hid (Frm.act hF)
      have HRW := Lib.hid hR
      clear hF hR
      simp only [Exit.inBlock, Exit.then]
      apply_assumption
      refine Met.intro ?_
      go_step
      (repeat apply Exists.intro)
      refine ⟨?_, HA.out.trans rfl⟩
      first | exact HRW.out | (rw [Array.getD_eq_getD_getElem?]; exact HRW.out)
  case rest =>
    have hRR := hcut
    rw [HRR.out] at hRR
    obtain ⟨g, e, A2, F2, c2, x2, rfl, o1, o2, o3, o4, o5, o6⟩ := hRR.out
    have HU := Lib.hid (And.intro o1 (And.intro o2 (And.intro o3 (And.intro o4 (And.intro o5 o6)))))
    have HOk3 := Lib.hid HDl.out.2.1
    have HQu := Lib.hid HH.out.2.2.2
    clear hRR hcut HRR o1 o2 o3 o4 o5 o6 HDl HK HOd HCell CM1 CM2
    go_upto_if 53 with (fail)
    generalize (n.tmod 2 == 0) = z4
    obtain ⟨RB, hRB⟩ : ∃ RB : World → Prop, RB = (fun W => Hid (∃ f : De, f.super = e.super ∧ f.fields = e.fields ∧ OkD 3 f ∧ W.heap[g]? = some (.cells #[.string ⟨f.name.toArray⟩, .int .i64 f.arity, .int .i64 f.super.k, .string ⟨f.super.t.toArray⟩, .int .i64 f.super.o, .slice A2 f.super.kids.len c2, .bool f.conc, .slice F2 f.fields.length x2] 37 (0, 0)) ∧ KS W (fun y => (y < u1.heap.size ∨ W0.heap.size ≤ y) ∧ y ≠ g) f.super.kids A2 c2 ∧ FlS W (fun y => (y < u1.heap.size ∨ W0.heap.size ≤ y) ∧ y ≠ g) f.fields F2 x2 ∧ BH W0 W)) := ⟨_, rfl⟩
    have HRB := Lib.hid hRB
    clear hRB
    go_cut [] (fun wx => RB wx)
    case first =>
      cases z4 with
      | false =>
        go_wp2_with (fail)
        go_meet
        case rel =>
          rw [HRB.out]
          obtain ⟨o1, o2, o3, o4, o5, o6⟩ := HU.out
          exact Lib.hid ⟨e, rfl, rfl, o1, o3, o4, o5, o6⟩
      | true =>
        obtain ⟨o1, o2, o3, o4, o5, o6⟩ := HU.out
        obtain ⟨⟨r0, r1, r2, r3, r4, r5, r6, r7⟩, t0, t1, t2, t3, t4, t5, t6, t7⟩ := row8 o3
        clear o1 o2 o3 o4 o5 o6
        go_wp2_with (fail)
        go_meet
        case rel =>
          rw [HRB.out]
          obtain ⟨o1, o2, o3, o4, o5, o6⟩ := HU.out
          have hkk : ∀ y, ((y < u1.heap.size ∨ W0.heap.size ≤ y) ∧ y ≠ g) → y < wc.heap.size → (wc.setCell ⟨g, 0, none⟩ (.string ⟨#[70, 114, 101, 115, 104]⟩)).heap[y]? = wc.heap[y]? ∧ ((y < u1.heap.size ∨ W0.heap.size ≤ y) ∧ y ≠ g) := fun y hy _ => ⟨heap_far (p := ⟨g, 0, none⟩) hy.2 _, hy⟩
          exact Lib.hid ⟨{ e with name := [70, 114, 101, 115, 104] }, rfl, rfl, ⟨by show ([70, 114, 101, 115, 104] : List UInt8).length ≤ _; decide, o1.2.1, o1.2.2⟩, heap_set (i := 0) o3 _, o4.keep (by simp [size_set]) hkk, o5.keep (by simp [size_set]) hkk, below_gb_of (BH.refl W0) (gb_setCell (gb_below o6 (some g)) (.inl rfl) _) o2⟩
    case rest =>
      have hRR := hcut
      rw [HRB.out] at hRR
      obtain ⟨f, q1, q2, q3, q4, q5, q6, q7⟩ := hRR.out
      obtain ⟨ds, hds⟩ : ∃ ds, hds dl = ds := ⟨_, rfl⟩
      have hq := HH.out
      rw [hds] at hq
      obtain ⟨h1, h2, h3, h4⟩ := hq
      have hg0 := HU.out.2.1
      have hdsl : ds.length ≤ 100 := by
        have h := fold_len dl ds0
        have h5 : ds0.length = 4 := rfl
        rw [← hds, Sx.hds]
        have := HLen.out.2
        omega
      have hdso : ∀ d ∈ ds, OkD 3 d := by
        rw [← hds]
        exact fold_mem (OkD 3) _ _ HDs0.out HOk3.out
      have hdd : (declD ds f).length ≤ 101 := by
        have := declD_len ds f
        omega
      have hddo : ∀ d ∈ declD ds f, OkD 3 d := by
        have h := fold_mem (OkD 3) [f] ds hdso (fun d hd => by simp at hd; subst hd; exact q3)
        exact h
      have hbW := BH.trans HB3.out q7
      have hS : ∀ y, ((y < u1.heap.size ∨ W0.heap.size ≤ y) ∧ y ≠ g) → HS p b vH (fun x => x = q) y := fun y hy => hs_of h1 h4 HB3.out hy.1
      have hSg : HS p b vH (fun x => x = q) g := hs_of h1 h4 HB3.out (.inr hg0)
      have hI0 : h8I u1 p b q g ds f A2 c2 F2 x2 ⟨0, vH, lH⟩ wc.drew := by
        refine ⟨?_, ?_, ?_, ?_, q4, hSg, BH.trans h3 (BH.trans hbW (below_drew wc)), Nat.zero_le _⟩
        · rw [if_pos rfl]; exact h1.bh (BH.trans hbW (below_drew wc))
        · rw [if_neg (by show ¬ (0 : Nat) = 2; decide)]; exact h2.bh (BH.trans hbW (below_drew wc))
        · exact (q5.bh (below_drew wc)).keep (Nat.le_refl _) fun y hy _ => ⟨rfl, hS y hy⟩
        · exact (q6.bh (below_drew wc)).keep (Nat.le_refl _) fun y hy _ => ⟨rfl, hS y hy⟩
      have HI0 := Lib.hid hI0
      have HL := Lib.hid (And.intro hdsl (And.intro hdso (And.intro hdd (And.intro hddo q3))))
      obtain ⟨z, hz⟩ : ∃ z, declE ds f = z := ⟨_, rfl⟩
      have Hz := Lib.hid hz
      have hzz : (z == z) = true := by simp
      have HBw := Lib.hid HB1.out
      obtain ⟨RQ, hRQ⟩ : ∃ RQ : World → Prop, RQ = (fun W => BH u1 W) := ⟨_, rfl⟩
      have HRQ := Lib.hid hRQ
      clear hRR hcut HRB q1 q2 q3 q4 q5 q6 q7 hds h1 h2 h3 h4 hg0 hdsl hdso hdd hddo hbW hS hSg hI0 hz hRQ HU HH HB3
      go_upto_region 8 with (fail)
      go_cut [14] (fun s14 wx => s14 = .bool true ∧ RQ wx)
      case first =>
        refine wp_region_gg (by kernel_rfl) (h8V p q ds f A2 c2 F2 x2 z) (h8I u1 p b q g ds f A2 c2 F2 x2) (h8T u1 p b q g ds f A2 c2 F2 x2) h8Z (fun _ => true) ⟨0, vH, lH⟩ HI0.out (fun _ => ⟨fun _ => rfl, fun _ => Nat.zero_le _⟩) (fun _ _ _ _ _ h => h.1) h8V_T (fun _ _ h => h8_same h) (by kernel_rfl) ?_ ?_
        · refine ⟨⟨rfl, ?_⟩, ⟨rfl, ?_⟩, ⟨rfl, ?_⟩, ⟨rfl, ?_⟩, ⟨rfl, ?_⟩, ⟨rfl, ?_⟩, ⟨rfl, ?_⟩, ⟨rfl, ?_⟩, ⟨fun m v w h => (by obtain ⟨rfl, _⟩ := (show v = .bool true ∧ m.n = 2 from h); rfl), ?_⟩, ⟨fun m v w h => (by obtain ⟨rfl, _⟩ := (show v = .bool true ∧ m.n = 2 from h); rfl), ?_⟩, ⟨fun m v w h => (by obtain ⟨rfl, _⟩ := (show v = .bool true ∧ m.n = 2 from h); rfl), ?_⟩, ⟨fun m v w h => (by obtain ⟨rfl, _⟩ := (show v = .bool true ∧ m.n = 2 from h); rfl), ?_⟩, ⟨fun m v w h => (by obtain ⟨rfl, _⟩ := (show v = .bool true ∧ m.n = 2 from h); rfl), ?_⟩, ⟨rfl, ?_⟩, ⟨rfl, ?_⟩, trivial⟩
          · intro m a W hI hZ hF hD
            have h := same_of hF 16 (by kernel_rfl)
            go_simp
            exact ⟨_, rfl, m, rfl, h8_same hI, fun _ _ h => h⟩
          · intro m a W hI hZ hF hD
            have h := same_of hF 19 (by kernel_rfl)
            obtain ⟨⟨r0, r1, r2, r3, r4, r5, r6, r7⟩, _⟩ := row8 hI.2.2.2.2.1
            go_simp
            exact ⟨_, rfl, m, rfl, h8_same hI, fun _ _ h => h⟩
          · intro m a W hI hZ hF hD
            obtain ⟨mn, mv, ml⟩ := m
            obtain rfl : mn = 0 := hZ.1 rfl
            have h : a.tmps[55]?.getD undef = .pointer (some ⟨p, 0, none⟩) := dep_of hD 0 55 (by kernel_rfl) rfl rfl
            have h' : a.tmps[56]?.getD undef = .agg #[.string ⟨f.name.toArray⟩, .int .i64 f.arity, .int .i64 f.super.k, .string ⟨f.super.t.toArray⟩, .int .i64 f.super.o, .slice A2 f.super.kids.len c2, .bool f.conc, .slice F2 f.fields.length x2] := dep_of hD 1 56 (by kernel_rfl) rfl rfl
            obtain ⟨i1, i2, i3, i4, i5, i6, i7, i8⟩ := hI
            have hC := hDeclare 3 u1.heap.size p b _ mv ml ds f A2 F2 c2 x2 W i1 HL.out.2.1 HL.out.2.2.2.2 (Below.size i7) (by have := HL.out.1; omega) (by decide) (by decide) i3 i4
            have HC := Lib.hid hC
            have HI := Lib.hid (And.intro i1 (And.intro i2 (And.intro i3 (And.intro i4 (And.intro i5 (And.intro i6 i7))))))
            clear hC i1 i2 i3 i4 i5 i6 i7 i8 hZ hF hD
            go_simp
            refine HC.out.mono ?_
            rintro r u ⟨v', l', rfl, n1, n2⟩
            obtain ⟨i1, i2, i3, i4, i5, i6, i7⟩ := HI.out
            rw [if_neg (by show ¬ (0 : Nat) = 2; decide)] at i2
            have hq1 : q < W.heap.size := i1.hQ q rfl
            have hgf := n2.far i6 (heap_lt i5) i1.hQ
            refine ⟨_, rfl, ⟨1, v', l'⟩, ⟨by rw [Hz.out], Nat.le_refl _⟩, ⟨⟨?_, ?_, ?_, ?_, hgf.1.trans i5, hgf.2, ?_, by show (1 : Nat) ≤ 2; decide⟩, Nat.zero_le _, fun h => absurd h (by show ¬ (0 : Nat) = 2; decide)⟩, fun j hj _ => ⟨fun e => absurd e hj, fun _ => Nat.le_refl _⟩⟩
            · rw [if_neg (by show ¬ (1 : Nat) = 0; decide)]; exact n1
            · rw [if_neg (by show ¬ (1 : Nat) = 2; decide)]
              exact i2.keep n2.size (fun x hx hl => n2.far hx hl i1.hQ) (n2.block q hq1 (fun e => i1.hnQ.1 e.symm) (fun e => i1.hnQ.2.1 e.symm) (fun e => i1.hnQ.2.2 q e rfl)) (fun h => h.2 rfl)
            · exact i3.keep n2.size fun x hx hl => n2.far hx hl i1.hQ
            · exact i4.keep n2.size fun x hx hl => n2.far hx hl i1.hQ
            · exact Below.trans (show Below u1.heap.size u1 W from i7) (n2.below i1 (Below.size i7))
          · intro m a W hI hZ hF hD
            have h := same_of hF 17 (by kernel_rfl)
            go_simp
            exact ⟨_, rfl, m, rfl, h8_same hI, fun _ _ h => h⟩
          · intro m a W hI hZ hF hD
            have h := same_of hF 19 (by kernel_rfl)
            obtain ⟨⟨r0, r1, r2, r3, r4, r5, r6, r7⟩, _⟩ := row8 hI.2.2.2.2.1
            go_simp
            exact ⟨_, rfl, m, rfl, h8_same hI, fun _ _ h => h⟩
          · intro m a W hI hZ hF hD
            obtain ⟨mn, mv, ml⟩ := m
            have hm1 : 1 ≤ mn := (show a.tmps[57]?.getD undef = .int .i64 z ∧ 1 ≤ mn from dep_of hD 2 57 (by kernel_rfl) rfl rfl).2
            have hm2 : mn ≤ 1 := hZ.2 rfl
            obtain rfl : mn = 1 := by omega
            have h : a.tmps[58]?.getD undef = .pointer (some ⟨q, 0, none⟩) := dep_of hD 3 58 (by kernel_rfl) rfl rfl
            have h' : a.tmps[59]?.getD undef = .agg #[.string ⟨f.name.toArray⟩, .int .i64 f.arity, .int .i64 f.super.k, .string ⟨f.super.t.toArray⟩, .int .i64 f.super.o, .slice A2 f.super.kids.len c2, .bool f.conc, .slice F2 f.fields.length x2] := dep_of hD 4 59 (by kernel_rfl) rfl rfl
            obtain ⟨i1, i2, i3, i4, i5, i6, i7, i8⟩ := hI
            have hq1 : q < W.heap.size := i1.hQ q rfl
            have hnew : ∀ y, W.heap.size ≤ y → HS p b mv (fun x => x = q) y := fun y hy => ⟨⟨by have := heap_lt i1.blk; omega, by have := i1.map.lt; omega, fun e => by have := (i1.own.lt y e).2; omega⟩, fun e => by omega⟩
            rw [if_neg (by show ¬ (1 : Nat) = 2; decide)] at i2
            rw [if_neg (by show ¬ (1 : Nat) = 0; decide)] at i1
            have hqq : u1.heap.size ≤ q := HQu.out
            have hC := rDeclare 3 (HS p b mv (fun x => x = q)) q ds f A2 F2 c2 x2 W i2 HL.out.2.1 HL.out.2.2.2.2 (by have := HL.out.1; omega) hnew i3 i4
            have HC := Lib.hid hC
            have HI := Lib.hid (And.intro i1 (And.intro i3 (And.intro i4 (And.intro i5 (And.intro i6 (And.intro i7 (And.intro hq1 hqq)))))))
            clear hC hnew i1 i2 i3 i4 i5 i6 i7 i8 hq1 hqq hZ hF hD hm1 hm2
            go_simp
            refine HC.out.mono ?_
            rintro r u ⟨rfl, n1, n2⟩
            obtain ⟨i1, i3, i4, i5, i6, i7, hq1, hqq⟩ := HI.out
            have hkk : ∀ x, HS p b mv (fun x => x = q) x → x < W.heap.size → u.heap[x]? = W.heap[x]? ∧ HS p b mv (fun x => x = q) x := fun x hx hl => ⟨n2.block x hl (by simpa using hx.2), hx⟩
            refine ⟨_, rfl, ⟨2, mv, ml⟩, ⟨by rw [Hz.out], rfl⟩, ⟨⟨?_, ?_, i3.keep n2.size hkk, i4.keep n2.size hkk, (hkk g i6 (heap_lt i5)).1.trans i5, i6, below_gb_of i7 n2 hqq, Nat.le_refl _⟩, by show (1 : Nat) ≤ 2; decide, fun h => absurd h (by show ¬ (1 : Nat) = 2; decide)⟩, fun j hj hz => ⟨fun e => absurd (hz.1 e) (by show ¬ (1 : Nat) = 0; decide), fun e => absurd e hj⟩⟩
            · rw [if_neg (by show ¬ (2 : Nat) = 0; decide)]
              exact i1.keep n2.size (fun x hx hl => ⟨n2.block x hl (by simpa using hx), hx⟩) (fun x hx => by have := n2.size; omega)
            · rw [if_pos (by rfl)]; exact n1
          · intro m a W hI hZ hF hD
            have h := (show a.tmps[57]?.getD undef = .int .i64 z ∧ 1 ≤ m.n from dep_of hD 2 57 (by kernel_rfl) rfl rfl).1
            obtain ⟨h', hm⟩ := (show a.tmps[60]?.getD undef = .int .i64 z ∧ m.n = 2 from dep_of hD 5 60 (by kernel_rfl) rfl rfl)
            have HM := Lib.hid hm
            clear hm
            go_simp
            exact ⟨_, rfl, m, ⟨rfl, HM.out⟩, h8_same hI, fun _ _ h => h⟩
          · intro m a W hI hZ hF hD
            obtain ⟨h, hm⟩ := (show a.tmps[61]?.getD undef = .bool true ∧ m.n = 2 from dep_of hD 6 61 (by kernel_rfl) rfl rfl)
            have HM := Lib.hid hm
            clear hm
            go_simp
            exact ⟨_, rfl, m, ⟨rfl, HM.out⟩, h8_same hI, fun _ _ h => h⟩
          · intro m a W hI hZ hF hD
            have h := same_of hF 16 (by kernel_rfl)
            have HM := Lib.hid (show a.tmps[62]?.getD undef = .bool true ∧ m.n = 2 from dep_of hD 7 62 (by kernel_rfl) rfl rfl).2
            go_simp
            exact ⟨_, rfl, m, ⟨rfl, HM.out⟩, h8_same hI, fun _ _ h => h⟩
          · intro m a W hI hZ hF hD
            obtain ⟨h, hm⟩ := (show a.tmps[63]?.getD undef = .pointer (some ⟨p, 0, none⟩) ∧ m.n = 2 from dep_of hD 8 63 (by kernel_rfl) rfl rfl)
            have HI := Lib.hid (And.intro hI hm)
            have hI1 := hI.1
            rw [if_neg (by omega)] at hI1
            have hC := hDecls_any 3 u1.heap.size p b _ m.v m.l (declD ds f) W hI1 HL.out.2.2.2.1 (Below.size hI.2.2.2.2.2.2.1) (by have := HL.out.2.2.1; omega) (by decide) (by decide)
            have HC := Lib.hid hC
            clear hC hI hI1 hm hZ hF hD
            go_simp
            refine HC.out.mono ?_
            rintro r u ⟨A, c, rfl, n1, n2⟩
            exact ⟨_, rfl, m, ⟨HI.out.2, A, c, rfl, n1.keep (Nat.le_refl _) fun _ _ _ => ⟨rfl, trivial⟩⟩, h8_bh HI.out.1 n2, fun _ _ h => h⟩
          · intro m a W hI hZ hF hD
            have h := same_of hF 17 (by kernel_rfl)
            have HM := Lib.hid (show a.tmps[62]?.getD undef = .bool true ∧ m.n = 2 from dep_of hD 7 62 (by kernel_rfl) rfl rfl).2
            go_simp
            exact ⟨_, rfl, m, ⟨rfl, HM.out⟩, h8_same hI, fun _ _ h => h⟩
          · intro m a W hI hZ hF hD
            obtain ⟨h, hm⟩ := (show a.tmps[65]?.getD undef = .pointer (some ⟨q, 0, none⟩) ∧ m.n = 2 from dep_of hD 10 65 (by kernel_rfl) rfl rfl)
            have HI := Lib.hid (And.intro hI hm)
            have hI2 := hI.2.1
            rw [if_pos hm] at hI2
            have hC := rDecls_any _ q (declD ds f) W hI2 (by have := HL.out.2.2.1; omega)
            have HC := Lib.hid hC
            clear hC hI hI2 hm hZ hF hD
            go_simp
            refine HC.out.mono ?_
            rintro r u ⟨A, c, xs4, rfl, n1, n2, n3⟩
            exact ⟨_, rfl, m, ⟨HI.out.2, A, c, rfl, (DcS.own rfl n1 n2).keep (Nat.le_refl _) fun _ _ _ => ⟨rfl, trivial⟩⟩, h8_bh HI.out.1 n3, fun _ _ h => h⟩
          · intro m a W hI hZ hF hD
            obtain ⟨hm, A3, c3, h, d3⟩ : m.n = 2 ∧ ∃ A c, a.tmps[64]?.getD undef = .slice A (declD ds f).length c ∧ DcS W (fun _ => True) (declD ds f) A c := dep_of hD 9 64 (by kernel_rfl) rfl rfl
            obtain ⟨_, A4, c4, h', d4⟩ : m.n = 2 ∧ ∃ A c, a.tmps[66]?.getD undef = .slice A (declD ds f).length c ∧ DcS W (fun _ => True) (declD ds f) A c := dep_of hD 11 66 (by kernel_rfl) rfl rfl
            have hE := rDeclsEq_any (declD ds f) (declD ds f) A3 A4 c3 c4 W 3 3 _ _ d3 d4 HL.out.2.2.2.1 HL.out.2.2.2.1 (by have := HL.out.2.2.1; omega) (by have := HL.out.2.2.1; omega)
            rw [desB_self] at hE
            have HE := Lib.hid hE
            have HI := Lib.hid (And.intro hI hm)
            clear hE hI hm hZ hF hD d3 d4
            go_simp
            refine HE.out.mono ?_
            rintro r u ⟨rfl, n3⟩
            exact ⟨_, rfl, m, ⟨rfl, HI.out.2⟩, h8_bh HI.out.1 n3, fun _ _ h => h⟩
          · intro m a W hI hZ hF hD
            obtain ⟨h, hm⟩ := (show a.tmps[62]?.getD undef = .bool true ∧ m.n = 2 from dep_of hD 7 62 (by kernel_rfl) rfl rfl)
            obtain ⟨h', _⟩ := (show a.tmps[67]?.getD undef = .bool true ∧ m.n = 2 from dep_of hD 12 67 (by kernel_rfl) rfl rfl)
            have HM := Lib.hid hm
            clear hm
            go_simp
            exact ⟨_, rfl, m, ⟨rfl, HM.out⟩, h8_same hI, fun _ _ h => h⟩
          · intro m a W hI hZ hF hD
            obtain ⟨h, hm⟩ := (show a.tmps[68]?.getD undef = .bool true ∧ m.n = 2 from dep_of hD 13 68 (by kernel_rfl) rfl rfl)
            have HM := Lib.hid hm
            clear hm
            go_simp
            exact ⟨_, rfl, m, ⟨rfl, HM.out⟩, h8_same hI, fun _ _ h => h⟩
        · intro m a W hI hF hN hall
          obtain ⟨h14, hm⟩ := (show a.tmps[14]?.getD undef = .bool true ∧ m.n = 2 from all_of hall 14 14 rfl rfl)
          have HA2 := Lib.hid (Frm.act hF)
          have H14 := Lib.hid h14
          have HR : RQ W := by rw [HRQ.out]; exact hI.2.2.2.2.2.2.1
          have HRW := Lib.hid HR
          clear hm h14 hF hN hall hI HR
          simp only [Exit.inBlock, Exit.then]
          apply_assumption
          refine Met.intro ?_
          go_step
          (repeat apply Exists.intro)
          refine ⟨?_, HA2.out.trans rfl⟩
          exact ⟨(Array.getD_eq_getD_getElem? ..).trans H14.out, HRW.out⟩
      case rest =>
        obtain ⟨rfl, hC⟩ := hcut
        rw [HRQ.out] at hC
        have HC := Lib.hid (BH.trans HBw.out hC)
        clear hC
        go_wp2_with (fail)
        go_ret
        exact ⟨rfl, HC.out⟩
end Go.Proofs.YtpkiheenkpcebaaGreatDoor.JH
