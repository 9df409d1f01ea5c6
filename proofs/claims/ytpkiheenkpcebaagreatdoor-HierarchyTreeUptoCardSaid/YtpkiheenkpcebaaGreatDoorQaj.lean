/- tellaw3.HierarchyTree: the walk. What is laid: the two tables of names. The bound: at most 2^20 integers. Made by mktw.py. -/
import Derived.Test.YtpkiheenkpcebaaGreatDoorQag
import Derived.Test.YtpkiheenkpcebaaGreatDoorMbt
import Derived.Test.YtpkiheenkpcebaaGreatDoorQai
import Derived.Test.YtpkiheenkpcebaaGreatDoorMaw
import Derived.Deep.CutBlock
set_option linter.unusedVariables false
set_option linter.unusedSimpArgs false
namespace Go.Proofs.YtpkiheenkpcebaaGreatDoor.JT
open Go.RowKit Sx TL

theorem ChB.mono {ds : List De} {n m : Nat} (h : ChB ds n) (hn : n ≤ m) : ChB ds m := fun d hd => by obtain ⟨r, h1, h2⟩ := h d hd; exact ⟨r, h1, by omega⟩

set_option maxHeartbeats 16000000 in
set_option maxRecDepth 100000 in
theorem tree_walk (a0 : Option Addr) (len0 cap0 : Nat) (z0 : List Int) (a1 : Option Addr) (len1 cap1 : Nat) (z1 : List Int) (i k : Int) (w : World)
    (hr0 : IsRow .i64 w a0 len0 cap0 z0) (hr1 : IsRow .i64 w a1 len1 cap1 z1) (hb0 : len0 ≤ 1048576) (hb1 : len1 ≤ 1048576) (Wl : List (List UInt8)) (gw ow cw : Nat) (tW : TabW w 1 4 Wl gw ow cw) (hs : ∀ s ∈ Wl, s.length ≤ 1000) (Xl : List (List UInt8)) (gx ox cx : Nat) (tX : TabW w 0 4 Xl gx ox cx) (hsx : ∀ s ∈ Xl, s.length ≤ 1000 ∧ s ≠ sAny) :
    Calls Tryz.prog 8 #[.slice a0 len0 cap0, .slice a1 len1 cap1, .int .i64 i, .int .i64 k] w fun e w' => e = .returned (.bool true) ∧ Below w.heap.size w w' := by
  have B1 : XB w ⟨w.heap.size, a0, len0, cap0, z0, Wl, gw, ow, cw, Xl, gx, ox, cx⟩ := ⟨tW, tX, hs, fun s h => (hsx s h).1, Nat.le_refl _, hr0.ints.2⟩
  have HD1 : Hid (∀ Q : Value → World → Prop, (∀ (A : Option Addr) (n c : Nat) (u : World), BH w u → Calls Tryz.prog 20 #[.slice A n c] u (HtP w w) → Q (.slice A n c) u) → Calls Tryz.prog 19 #[.slice a0 len0 cap0] w fun e u => ∃ v, e = .returned v ∧ Q v u) := Lib.hid fun Q hQ => dt_any B1 rfl (Below.refl _ _) hb0 (fun s h => (hsx s h).2) Q hQ
  have HI := Lib.hid (And.intro hr1.ints.2 (And.intro tW (And.intro hs hb1)))
  clear hr0 hr1 tW tX hs hsx B1 hb0 hb1
  go_enter Tryz.func8, Tryz.ntmps8
  go_wp2_with (fail)
  refine (HD1.out (fun v u => ∃ A n c, v = .slice A n c ∧ BH w u ∧ Calls Tryz.prog 20 #[.slice A n c] u (HtP w w)) (fun A n c u h1 h2 => ⟨A, n, c, rfl, h1, h2⟩)).mono ?_
  rintro e u1 ⟨_, rfl, A1, n1, c1, rfl, hb1, hc1⟩
  have HC1 := Lib.hid hc1
  clear hc1 hb1 HD1
  go_wp2_with (fail)
  refine HC1.out.mono ?_
  rintro e u2 ⟨ds, B, p, b, q, v, l, rfl, h1, h2, h3, h4, ⟨h5, h6⟩, h7, ⟨h8, h9, h10⟩, h11⟩
  have HH := Lib.hid (And.intro h1 (And.intro h2 (And.intro h3 (And.intro h4 h11))))
  have HOk := Lib.hid (And.intro (fun d hd => (h7 d hd).1) (fun d hd => (h7 d hd).2))
  have HW := Lib.hid (And.intro h8 (And.intro h9 h10))
  have HL := Lib.hid (And.intro h5 h6)
  obtain ⟨L, hL⟩ : ∃ L, ds.length = L := ⟨_, rfl⟩
  have HLen := Lib.hid hL
  clear h1 h2 h3 h4 h5 h6 h7 h8 h9 h10 h11 HC1 hL
  go_wp2_with (fail)
  refine (check3_any _).mono ?_
  rintro e u3 ⟨rfl, hb3⟩
  have HB3 := Lib.hid (And.intro (BH.trans HH.out.2.2.2.2 hb3) hb3)
  clear hb3
  go_wp2_with (fail)
  refine (new_any _ _ _ _).mono ?_
  rintro e u4 ⟨rfl, rfl⟩
  have f4 := bh_alloc (BH.refl u3) (.cells #[.slice a1 len1 cap1, .int .i64 0] 98)
  have hw3 := BH.trans HB3.out.1 f4
  have hst := strm_new (cap := cap1) HB3.out.1 (by have := HI.out.2.2.2; unfold maxLen; omega) HI.out.1
  have HS4 := Lib.hid (And.intro f4 (And.intro hw3 hst))
  clear f4 hst hw3
  go_wp2_with (fail)
  refine (known_any _ q ds _ (HH.out.2.1.bh (BH.trans HB3.out.2 HS4.out.1)) HL.out.2 (by have := HL.out.1; omega)).mono ?_
  rintro e u5 ⟨gk, ok, ck, ck', rfl, g1, g2, g3, ⟨S', g4⟩, g5⟩
  have hG : GenD u5 ⟨u3.heap.size, a1, len1, cap1, z1, Wl, gw, ow, cw, gk, ok, ds.length - 4, ck', (ds.drop 4).map fun d => (d.name, d.arity.toNat)⟩ 0 :=
    ⟨HS4.out.2.2.keep g5, HI.out.2.1.tab (BH.trans HS4.out.2.1 g5) (Below.size HB3.out.1), dn_drop 4 g4 rfl g1 rfl rfl (by simp at g2; show gk ≠ u3.heap.size; omega) g3 (by have := HL.out.1; omega) HW.out.2.2, HI.out.2.2.1⟩
  have HG := Lib.hid hG
  have HB5 := Lib.hid (BH.trans HS4.out.1 g5)
  clear hG g1 g2 g3 g4 g5
  go_wp2_with (fail)
  refine (termC _ 0 u5 HG.out).mono ?_
  rintro e u6 ⟨k', tq, tO, tt, tk, tA, tc, ys, rfl, h1, h2, h3, h4, ⟨h5, h6⟩, h7, h8, h9, h10⟩
  have hk' : k' ≤ 1048576 := Nat.le_trans h9.st.2.2.2.1 HI.out.2.2.2
  obtain ⟨tm, htm⟩ : ∃ tm : Tm, tm = ⟨tq, tt, tk, tO⟩ := ⟨_, rfl⟩
  obtain ⟨rfl, rfl, rfl, rfl⟩ : tm.k = tq ∧ tm.t = tt ∧ tm.kids = tk ∧ tm.o = tO := by rw [htm]; exact ⟨rfl, rfl, rfl, rfl⟩
  have HT := Lib.hid (And.intro h8 (And.intro (show fsize tm.kids ≤ 4194304 by omega) (show tm.t.length ≤ 1048576 from h7.1.1)))
  have h36 : BH u3 u6 := below_gb_of HB5.out h10 (Nat.le_refl _)
  have f6 := bh_alloc (BH.refl u6) (.cells #[.int .i64 tm.k, .string ⟨tm.t.toArray⟩, .int .i64 tm.o, .slice tA tm.kids.len tc] 34)
  have e6 := heap_alloc_new u6 (.cells #[.int .i64 tm.k, .string ⟨tm.t.toArray⟩, .int .i64 tm.o, .slice tA tm.kids.len tc] 34)
  have HK6 := Lib.hid ((KS.kt (S := fun x => u5.heap.size ≤ x) ⟨h1, ys, h2, h3⟩).below f6)
  have H6 := Lib.hid (HH.out.1.bh (BH.trans HB3.out.2 (BH.trans h36 f6)))
  have HB6 := Lib.hid (And.intro (BH.trans HB3.out.1 (BH.trans h36 f6)) (And.intro e6 (Nat.le_trans HH.out.2.2.2.1 (Below.size (BH.trans HB3.out.2 (BH.trans h36 f6))))))
  clear h1 h2 h3 h4 h5 h6 h7 h8 h9 h10 hk' h36 f6 e6 HG HB5 HS4 htm
  go_wp2_with (fail)
  refine (hDecls_any 3 B p b _ v l ds _ H6.out HOk.out.1 HB6.out.2.2 (by have := HL.out.1; omega) (by decide) (by decide)).mono ?_
  rintro e u7 ⟨A7, c7, rfl, hD7, hb7⟩
  have H7 := Lib.hid (H6.out.bh hb7)
  have HK7 := Lib.hid (HK6.out.below hb7)
  have HB7 := Lib.hid (And.intro (BH.trans HB6.out.1 hb7) ((Below.block hb7 _ (heap_lt HB6.out.2.1)).trans HB6.out.2.1))
  obtain ⟨g12, hg12⟩ : ∃ g, u6.heap.size = g := ⟨_, rfl⟩
  rw [hg12] at HB7 ⊢
  clear hb7 H6 HK6 HB6 hg12
  have hl1 := HL.out.1
  have hl2 := HL.out.2
  obtain ⟨j, hj⟩ : ∃ j : Nat, modI i (ds.length : Int) = (j : Int) := ⟨(modI i (ds.length : Int)).toNat, by have := (modI_bounds i (ds.length : Int) (by omega)).1; omega⟩
  obtain ⟨jj, hjj⟩ : ∃ jj : Nat, modI k (ds.length : Int) = (jj : Int) := ⟨(modI k (ds.length : Int)).toNat, by have := (modI_bounds k (ds.length : Int) (by omega)).1; omega⟩
  have hjn : j < ds.length := by have := (modI_bounds i (ds.length : Int) (by omega)).2; omega
  have hjjn : jj < ds.length := by have := (modI_bounds k (ds.length : Int) (by omega)).2; omega
  have HM : Hid (∀ X, Calls Tryz.prog 22 #[.int .i64 i, .int .i64 (ds.length : Int)] X fun e w' => e = .returned (.int .i64 (j : Int)) ∧ X = w') := Lib.hid fun X => (modT i _ X (by omega) (by omega)).mono fun e w' h => ⟨by rw [h.1, hj], h.2⟩
  have HM2 : Hid (∀ X, Calls Tryz.prog 22 #[.int .i64 k, .int .i64 (ds.length : Int)] X fun e w' => e = .returned (.int .i64 (jj : Int)) ∧ X = w') := Lib.hid fun X => (modT k _ X (by omega) (by omega)).mono fun e w' h => ⟨by rw [h.1, hjj], h.2⟩
  obtain ⟨d, hd⟩ : ∃ d, ds[j]? = some d := ⟨_, List.getElem?_eq_getElem hjn⟩
  obtain ⟨d2, hd2⟩ : ∃ d, ds[jj]? = some d := ⟨_, List.getElem?_eq_getElem hjjn⟩
  obtain ⟨gA, off, _, _, _, _, rfl, _, hlt, cA, _⟩ := hD7.at hd
  obtain ⟨gA2, off2, _, _, _, _, hA2, _, _, cA2, _⟩ := hD7.at hd2
  cases hA2
  have HDm := Lib.hid (And.intro (List.mem_of_getElem? hd) (List.mem_of_getElem? hd2))
  obtain ⟨an, han⟩ : ∃ an, d.name = an := ⟨_, rfl⟩
  obtain ⟨bn, hbn⟩ : ∃ bn, d2.name = bn := ⟨_, rfl⟩
  rw [han] at cA
  rw [hbn] at cA2
  have HNm := Lib.hid (And.intro han hbn)
  have hnc : ds.length ≤ c7 := hD7.1
  obtain ⟨RR, hRR⟩ : ∃ RR : World → Prop, RR = (fun W => BH u7 W) := ⟨_, rfl⟩
  have HRR := Lib.hid hRR
  clear hd hd2 han hbn hj hjj hD7 hRR hlt
  go_upto_region 6 with (fail)
  go_cut [14, 15] (fun s14 s15 wx => s14 = .string ⟨an.toArray⟩ ∧ s15 = .string ⟨bn.toArray⟩ ∧ RR wx)
  case first =>
    refine wp_region_facts (by kernel_rfl) (trV (some ⟨gA, off, none⟩) ds.length c7 gA off i k j jj an bn) (fun _ _ _ _ h _ => h) (by kernel_rfl) ?_ ?_
    · refine ⟨?_, ?_, ?_, ?_, ?_, ?_, ?_, ?_, ?_, ?_, ?_, ?_, ?_, ?_, ?_, ?_, ?_, ?_, trivial⟩
      · intro a W hI hF hD; have h := same_of hF 13 (by kernel_rfl); go_simp; exact ⟨_, rfl, rfl, BH.refl _⟩
      · intro a W hI hF hD; have h := same_of hF 2 (by kernel_rfl); go_simp; exact ⟨_, rfl, rfl, BH.refl _⟩
      · intro a W hI hF hD; have h := same_of hF 13 (by kernel_rfl); go_simp; exact ⟨_, rfl, rfl, BH.refl _⟩
      · intro a W hI hF hD; have h : a.tmps[46]?.getD undef = .slice (some ⟨gA, off, none⟩) ds.length c7 := dep_of hD 2 46 (by kernel_rfl) rfl rfl; go_simp; exact ⟨_, rfl, rfl, BH.refl _⟩
      · intro a W hI hF hD; have h : a.tmps[45]?.getD undef = .int .i64 i := dep_of hD 1 45 (by kernel_rfl) rfl rfl; have h' : a.tmps[47]?.getD undef = .int .i64 (ds.length : Int) := dep_of hD 3 47 (by kernel_rfl) rfl rfl; go_simp; refine (HM.out W).mono ?_; rintro r u ⟨rfl, rfl⟩; exact ⟨_, rfl, rfl, BH.refl _⟩
      · intro a W hI hF hD; have h : a.tmps[44]?.getD undef = .slice (some ⟨gA, off, none⟩) ds.length c7 := dep_of hD 0 44 (by kernel_rfl) rfl rfl; have h' : a.tmps[48]?.getD undef = .int .i64 (j : Int) := dep_of hD 4 48 (by kernel_rfl) rfl rfl; go_simp; exact ⟨_, rfl, rfl, BH.refl _⟩
      · intro a W hI hF hD; have h : a.tmps[49]?.getD undef = .pointer (some ⟨gA, off + j * 8, none⟩) := dep_of hD 5 49 (by kernel_rfl) rfl rfl; go_simp; exact ⟨_, rfl, rfl, BH.refl _⟩
      · intro a W hI hF hD; have h : a.tmps[50]?.getD undef = .pointer (some ⟨gA, off + j * 8, none⟩) := dep_of hD 6 50 (by kernel_rfl) rfl rfl; have l0 := BH.cell hI cA; go_simp; exact ⟨_, rfl, rfl, BH.refl _⟩
      · intro a W hI hF hD; have h := same_of hF 13 (by kernel_rfl); go_simp; exact ⟨_, rfl, rfl, BH.refl _⟩
      · intro a W hI hF hD; have h := same_of hF 3 (by kernel_rfl); go_simp; exact ⟨_, rfl, rfl, BH.refl _⟩
      · intro a W hI hF hD; have h := same_of hF 13 (by kernel_rfl); go_simp; exact ⟨_, rfl, rfl, BH.refl _⟩
      · intro a W hI hF hD; have h : a.tmps[54]?.getD undef = .slice (some ⟨gA, off, none⟩) ds.length c7 := dep_of hD 10 54 (by kernel_rfl) rfl rfl; go_simp; exact ⟨_, rfl, rfl, BH.refl _⟩
      · intro a W hI hF hD; have h : a.tmps[53]?.getD undef = .int .i64 k := dep_of hD 9 53 (by kernel_rfl) rfl rfl; have h' : a.tmps[55]?.getD undef = .int .i64 (ds.length : Int) := dep_of hD 11 55 (by kernel_rfl) rfl rfl; go_simp; refine (HM2.out W).mono ?_; rintro r u ⟨rfl, rfl⟩; exact ⟨_, rfl, rfl, BH.refl _⟩
      · intro a W hI hF hD; have h : a.tmps[52]?.getD undef = .slice (some ⟨gA, off, none⟩) ds.length c7 := dep_of hD 8 52 (by kernel_rfl) rfl rfl; have h' : a.tmps[56]?.getD undef = .int .i64 (jj : Int) := dep_of hD 12 56 (by kernel_rfl) rfl rfl; go_simp; exact ⟨_, rfl, rfl, BH.refl _⟩
      · intro a W hI hF hD; have h : a.tmps[57]?.getD undef = .pointer (some ⟨gA, off + jj * 8, none⟩) := dep_of hD 13 57 (by kernel_rfl) rfl rfl; go_simp; exact ⟨_, rfl, rfl, BH.refl _⟩
      · intro a W hI hF hD; have h : a.tmps[58]?.getD undef = .pointer (some ⟨gA, off + jj * 8, none⟩) := dep_of hD 14 58 (by kernel_rfl) rfl rfl; have l0 := BH.cell hI cA2; go_simp; exact ⟨_, rfl, rfl, BH.refl _⟩
      · intro a W hI hF hD; have h : a.tmps[51]?.getD undef = .string ⟨an.toArray⟩ := dep_of hD 7 51 (by kernel_rfl) rfl rfl; go_simp; exact ⟨_, rfl, rfl, BH.refl _⟩
      · intro a W hI hF hD; have h : a.tmps[59]?.getD undef = .string ⟨bn.toArray⟩ := dep_of hD 15 59 (by kernel_rfl) rfl rfl; go_simp; exact ⟨_, rfl, rfl, BH.refl _⟩
    · intro a W hI hF hall
      have h14 : a.tmps[14]?.getD undef = .string ⟨an.toArray⟩ := all_of hall 16 14 rfl rfl
      have h15 : a.tmps[15]?.getD undef = .string ⟨bn.toArray⟩ := all_of hall 17 15 rfl rfl
      have HA2 := Lib.hid (Frm.act hF)
      have H14 := Lib.hid h14
      have H15 := Lib.hid h15
      have HR : RR W := by rw [HRR.out]; exact hI
      have HRW := Lib.hid HR
      clear h14 h15 hF hall hI HR
      simp only [Exit.inBlock, Exit.then]
      apply_assumption
      refine Met.intro ?_
      go_step
      (repeat apply Exists.intro)
      refine ⟨?_, HA2.out.trans rfl⟩
      exact ⟨(Array.getD_eq_getD_getElem? ..).trans H14.out, (Array.getD_eq_getD_getElem? ..).trans H15.out, HRW.out⟩
  case rest =>
  obtain ⟨rfl, rfl, hC⟩ := hcut
  rw [HRR.out] at hC
  have HSup : Hid (∀ W, BH wc W → ∀ (x : Tm) (A : Option Addr) (c : Nat) (nm : List UInt8), KT W x.kids A c → closed1 x.k x.o x.kids 0 = true → fsize x.kids ≤ 1099511627776 → x.t.length ≤ 1048576 → Calls Tryz.prog 35 #[.pointer (some ⟨p, 0, none⟩), .agg #[.int .i64 x.k, .string ⟨x.t.toArray⟩, .int .i64 x.o, .slice A x.kids.len c], .string ⟨nm.toArray⟩] W (ScP W.heap.size (supT ds x nm) W)) :=
    Lib.hid fun W hW x A c nm h1 h2 h3 h4 => hSupertype 0 B p b _ v l ds nm x.k x.o x.t x.kids A c W ((H7.out.bh hC).bh hW) HW.out.1 (ChB.mono HW.out.2.1 (by decide)) (by decide) (by decide) h1 h2 h3 h4
  have HAnc : Hid (∀ W, BH wc W → ∀ (nm of_ : List UInt8), of_.length ≤ 1048576 → Calls Tryz.prog 30 #[.pointer (some ⟨p, 0, none⟩), .string ⟨nm.toArray⟩, .string ⟨of_.toArray⟩] W fun e w' => e = .returned (.bool (ancB ds nm of_)) ∧ BH W w') :=
    Lib.hid fun W hW nm of_ h => hIsAnc B p b _ v l ds nm of_ W ((H7.out.bh hC).bh hW) HW.out.1 (ChB.mono HW.out.2.1 (by decide)) h
  have HK8 := Lib.hid (HK7.out.below hC)
  have e12 := (Below.block hC _ (heap_lt HB7.out.2)).trans HB7.out.2
  obtain ⟨x0, x1, x2, x3, _⟩ := row4 e12
  have HB8 := Lib.hid (And.intro (BH.trans HB7.out.1 hC) e12)
  clear hC e12 HM HM2 hjn hjjn cA cA2 hnc H7 HK7 HB7 HRR
  go_wp2_with (fail)
  refine (HSup.out _ (BH.refl _) tm tA tc an HK8.out HT.out.1 (by have := HT.out.2.1; omega) HT.out.2.2).mono ?_
  rintro e u9 ⟨A9, c9, rfl, hk9, hb9⟩
  obtain ⟨xr, hxr⟩ : ∃ xr, resT (supT ds tm an) = xr := ⟨_, rfl⟩
  obtain ⟨xi, hxi⟩ : ∃ xi, (supT ds tm an).isSome = xi := ⟨_, rfl⟩
  rw [hxr] at hk9 ⊢
  rw [hxi]
  have f9 := bh_alloc (BH.refl u9) (.cells #[.int .i64 xr.k, .string ⟨xr.t.toArray⟩, .int .i64 xr.o, .slice A9 xr.kids.len c9] 34)
  have e9 := heap_alloc_new u9 (.cells #[.int .i64 xr.k, .string ⟨xr.t.toArray⟩, .int .i64 xr.o, .slice A9 xr.kids.len c9] 34)
  have e12 := (Below.block (BH.trans hb9 f9) _ (heap_lt HB8.out.2)).trans HB8.out.2
  have HX := Lib.hid (And.intro hxr hxi)
  have HE9 := Lib.hid (And.intro (BH.trans hb9 f9) (And.intro e12 (And.intro e9 (And.intro (HK8.out.below (BH.trans hb9 f9)) (hk9.kt.below f9)))))
  clear x0 x1 x2 x3 hk9 hb9 hxr hxi f9
  obtain ⟨x0, x1, x2, x3, _⟩ := row4 e12
  clear e12 e9
  go_wp2_with (fail)
  refine (HSup.out _ HE9.out.1 tm tA tc bn HE9.out.2.2.2.1 HT.out.1 (by have := HT.out.2.1; omega) HT.out.2.2).mono ?_
  rintro e u10 ⟨A10, c10, rfl, hk10, hb10⟩
  obtain ⟨yr, hyr⟩ : ∃ yr, resT (supT ds tm bn) = yr := ⟨_, rfl⟩
  obtain ⟨yi, hyi⟩ : ∃ yi, (supT ds tm bn).isSome = yi := ⟨_, rfl⟩
  rw [hyr] at hk10 ⊢
  rw [hyi]
  have f10 := bh_alloc (BH.refl u10) (.cells #[.int .i64 yr.k, .string ⟨yr.t.toArray⟩, .int .i64 yr.o, .slice A10 yr.kids.len c10] 34)
  have e18 := heap_alloc_new u10 (.cells #[.int .i64 yr.k, .string ⟨yr.t.toArray⟩, .int .i64 yr.o, .slice A10 yr.kids.len c10] 34)
  have e16 := (Below.block (BH.trans hb10 f10) _ (heap_lt HE9.out.2.2.1)).trans HE9.out.2.2.1
  have HY := Lib.hid (And.intro hyr hyi)
  have HE10 := Lib.hid (And.intro (BH.trans HE9.out.1 (BH.trans hb10 f10)) (And.intro e16 (And.intro e18 (And.intro (HE9.out.2.2.2.2.below (BH.trans hb10 f10)) (hk10.kt.below f10)))))
  clear x0 x1 x2 x3 hk10 hb10 hyr hyi f10
  obtain ⟨x0, x1, x2, x3, _⟩ := row4 e16
  obtain ⟨y0, y1, y2, y3, _⟩ := row4 e18
  clear e16 e18
  cases xi with
  | false =>
    cases yi <;> (go_wp2_with (fail); go_ret; exact ⟨rfl, BH.trans HB8.out.1 HE10.out.1⟩)
  | true =>
  cases yi with
  | false => go_wp2_with (fail); go_ret; exact ⟨rfl, BH.trans HB8.out.1 HE10.out.1⟩
  | true =>
  have hX := resT_some HX.out.1 HX.out.2
  have hY := resT_some HY.out.1 HY.out.2
  have hna := HOk.out.2 d HDm.out.1
  have hnb := HOk.out.2 d2 HDm.out.2
  have hfa := (HW.out.1 d HDm.out.1).me
  have hfb := (HW.out.1 d2 HDm.out.2).me
  have hla := (HW.out.1 d HDm.out.1).g.2.2.1
  have hlb := (HW.out.1 d2 HDm.out.2).g.2.2.1
  rw [HNm.out.1] at hna hfa hla
  rw [HNm.out.2] at hnb hfb hlb
  obtain ⟨up, down, t1, t2, t3, t4, t5⟩ := tree_law HW.out.1 (ChB.mono HW.out.2.1 (by decide)) hna hnb (supT_k hX) hX hY ⟨_, hfa⟩ ⟨_, hfb⟩
  have sx := supT_ok HW.out.1 HW.out.2.1 (Int.le_refl 0) hX HT.out.2.1 HT.out.1 HT.out.2.2
  have sy := supT_ok HW.out.1 HW.out.2.1 (Int.le_refl 0) hY HT.out.2.1 HT.out.1 HT.out.2.2
  have HTr := Lib.hid (And.intro t1 (And.intro t2 (And.intro t3 (And.intro t4 t5))))
  have HSx := Lib.hid sx
  have HSy := Lib.hid sy
  have HLn := Lib.hid (And.intro hla hlb)
  clear t1 t2 t3 t4 t5 sx sy hX hY hna hnb hfa hfb hla hlb HX HY HOk HW HDm HNm HL hl1 hl2
  go_wp2_with (fail)
  refine (HSup.out _ HE10.out.1 xr A9 c9 bn HE10.out.2.2.2.1 HSx.out.2.1 (by have := HSx.out.1; omega) HSx.out.2.2.1).mono ?_
  rintro e u11 ⟨A11, c11, rfl, hk11, hb11⟩
  obtain ⟨pr, hpr⟩ : ∃ pr, resT (supT ds xr bn) = pr := ⟨_, rfl⟩
  have hpi : (supT ds xr bn).isSome = up := by rw [HTr.out.1]; cases up <;> rfl
  rw [hpr] at hk11 ⊢
  rw [hpi]
  have f11 := bh_alloc (BH.refl u11) (.cells #[.int .i64 pr.k, .string ⟨pr.t.toArray⟩, .int .i64 pr.o, .slice A11 pr.kids.len c11] 34)
  have e20 := heap_alloc_new u11 (.cells #[.int .i64 pr.k, .string ⟨pr.t.toArray⟩, .int .i64 pr.o, .slice A11 pr.kids.len c11] 34)
  have e16 := (Below.block (BH.trans hb11 f11) _ (heap_lt HE10.out.2.1)).trans HE10.out.2.1
  have e18 := (Below.block (BH.trans hb11 f11) _ (heap_lt HE10.out.2.2.1)).trans HE10.out.2.2.1
  have HP := Lib.hid (show up = true → yr = pr by intro h; rw [← hpr, HTr.out.1, h]; rfl)
  have HE11 := Lib.hid (And.intro (BH.trans HE10.out.1 (BH.trans hb11 f11)) (And.intro e16 (And.intro e18 (And.intro e20 (And.intro (HE10.out.2.2.2.1.below (BH.trans hb11 f11)) (And.intro (HE10.out.2.2.2.2.below (BH.trans hb11 f11)) (hk11.kt.below f11)))))))
  clear x0 x1 x2 x3 y0 y1 y2 y3 hk11 hb11 hpr hpi f11
  obtain ⟨x0, x1, x2, x3, _⟩ := row4 e16
  obtain ⟨y0, y1, y2, y3, _⟩ := row4 e18
  clear e16 e18 e20
  go_wp2_with (fail)
  refine (HSup.out _ HE11.out.1 yr A10 c10 an HE11.out.2.2.2.2.2.1 HSy.out.2.1 (by have := HSy.out.1; omega) HSy.out.2.2.1).mono ?_
  rintro e u12 ⟨A12, c12, rfl, hk12, hb12⟩
  obtain ⟨qr, hqr⟩ : ∃ qr, resT (supT ds yr an) = qr := ⟨_, rfl⟩
  have hqi : (supT ds yr an).isSome = down := by rw [HTr.out.2.1]; cases down <;> rfl
  rw [hqr] at hk12 ⊢
  rw [hqi]
  have f12 := bh_alloc (BH.refl u12) (.cells #[.int .i64 qr.k, .string ⟨qr.t.toArray⟩, .int .i64 qr.o, .slice A12 qr.kids.len c12] 34)
  have e22 := heap_alloc_new u12 (.cells #[.int .i64 qr.k, .string ⟨qr.t.toArray⟩, .int .i64 qr.o, .slice A12 qr.kids.len c12] 34)
  have e16 := (Below.block (BH.trans hb12 f12) _ (heap_lt HE11.out.2.1)).trans HE11.out.2.1
  have e18 := (Below.block (BH.trans hb12 f12) _ (heap_lt HE11.out.2.2.1)).trans HE11.out.2.2.1
  have e20 := (Below.block (BH.trans hb12 f12) _ (heap_lt HE11.out.2.2.2.1)).trans HE11.out.2.2.2.1
  have HQ := Lib.hid (show down = true → xr = qr by intro h; rw [← hqr, HTr.out.2.1, h]; rfl)
  have HE12 := Lib.hid (And.intro (BH.trans HE11.out.1 (BH.trans hb12 f12)) (And.intro (HE11.out.2.2.2.2.1.below (BH.trans hb12 f12)) (And.intro (HE11.out.2.2.2.2.2.1.below (BH.trans hb12 f12)) (And.intro (HE11.out.2.2.2.2.2.2.below (BH.trans hb12 f12)) (hk12.kt.below f12)))))
  have HR := Lib.hid (And.intro e16 (And.intro e18 (And.intro e20 e22)))
  clear x0 x1 x2 x3 y0 y1 y2 y3 hk12 hb12 hqr hqi f12 e16 e18 e20 e22
  obtain ⟨x0, x1, x2, x3, _⟩ := row4 HR.out.1
  obtain ⟨y0, y1, y2, y3, _⟩ := row4 HR.out.2.1
  obtain ⟨p0, p1, p2, p3, _⟩ := row4 HR.out.2.2.1
  obtain ⟨q0, q1, q2, q3, _⟩ := row4 HR.out.2.2.2
  cases up with
  | false =>
    cases down with
    | false => exact absurd HTr.out.2.2.1 (by decide)
    | true =>
      obtain rfl := HQ.out rfl
      go_wp2_with (fail)
      refine (hTermEq xr.k xr.o xr.k xr.o xr.t xr.t xr.kids xr.kids A12 A9 c12 c9 _ (by have := HSx.out.1; omega) (by have := HSx.out.1; omega) HE12.out.2.2.2.2 HE12.out.2.1).mono ?_
      rintro e v0 ⟨rfl, hv0⟩
      rw [cmp1_self]
      have HZ := Lib.hid hv0
      clear hv0
      go_wp2_with (fail)
      refine (HAnc.out _ (BH.trans HE12.out.1 HZ.out) bn an HLn.out.1).mono ?_
      rintro e v1 ⟨rfl, hv1⟩
      rw [HTr.out.2.2.2.1]
      have HZ1 := Lib.hid (BH.trans HZ.out hv1)
      clear hv1
      go_wp2_with (fail)
      refine (HAnc.out _ (BH.trans HE12.out.1 HZ1.out) an bn HLn.out.2).mono ?_
      rintro e v2 ⟨rfl, hv2⟩
      rw [HTr.out.2.2.2.2]
      have HZ2 := Lib.hid (BH.trans HZ1.out hv2)
      clear hv2
      go_wp2_with (fail)
      go_ret
      exact ⟨rfl, BH.trans HB8.out.1 (BH.trans HE12.out.1 HZ2.out)⟩
  | true =>
    obtain rfl := HP.out rfl
    go_wp2_with (fail)
    refine (hTermEq yr.k yr.o yr.k yr.o yr.t yr.t yr.kids yr.kids A11 A10 c11 c10 _ (by have := HSy.out.1; omega) (by have := HSy.out.1; omega) HE12.out.2.2.2.1 HE12.out.2.2.1).mono ?_
    rintro e v0 ⟨rfl, hv0⟩
    rw [cmp1_self]
    have HZ := Lib.hid hv0
    clear hv0
    cases down with
    | false =>
      go_wp2_with (fail)
      refine (HAnc.out _ (BH.trans HE12.out.1 HZ.out) bn an HLn.out.1).mono ?_
      rintro e v1 ⟨rfl, hv1⟩
      rw [HTr.out.2.2.2.1]
      have HZ1 := Lib.hid (BH.trans HZ.out hv1)
      clear hv1
      go_wp2_with (fail)
      refine (HAnc.out _ (BH.trans HE12.out.1 HZ1.out) an bn HLn.out.2).mono ?_
      rintro e v2 ⟨rfl, hv2⟩
      rw [HTr.out.2.2.2.2]
      have HZ2 := Lib.hid (BH.trans HZ1.out hv2)
      clear hv2
      go_wp2_with (fail)
      go_ret
      exact ⟨rfl, BH.trans HB8.out.1 (BH.trans HE12.out.1 HZ2.out)⟩
    | true =>
      obtain rfl := HQ.out rfl
      have x0' := BH.cell HZ.out x0
      have x1' := BH.cell HZ.out x1
      have x2' := BH.cell HZ.out x2
      have x3' := BH.cell HZ.out x3
      have q0' := BH.cell HZ.out q0
      have q1' := BH.cell HZ.out q1
      have q2' := BH.cell HZ.out q2
      have q3' := BH.cell HZ.out q3
      go_wp2_with (fail)
      refine (hTermEq xr.k xr.o xr.k xr.o xr.t xr.t xr.kids xr.kids A12 A9 c12 c9 _ (by have := HSx.out.1; omega) (by have := HSx.out.1; omega) (HE12.out.2.2.2.2.below HZ.out) (HE12.out.2.1.below HZ.out)).mono ?_
      rintro e v3 ⟨rfl, hv3⟩
      rw [cmp1_self]
      have HZ := Lib.hid (BH.trans HZ.out hv3)
      clear hv3
      go_wp2_with (fail)
      refine (HAnc.out _ (BH.trans HE12.out.1 HZ.out) bn an HLn.out.1).mono ?_
      rintro e v1 ⟨rfl, hv1⟩
      rw [HTr.out.2.2.2.1]
      have HZ1 := Lib.hid (BH.trans HZ.out hv1)
      clear hv1
      go_wp2_with (fail)
      refine (HAnc.out _ (BH.trans HE12.out.1 HZ1.out) an bn HLn.out.2).mono ?_
      rintro e v2 ⟨rfl, hv2⟩
      rw [HTr.out.2.2.2.2]
      have HZ2 := Lib.hid (BH.trans HZ1.out hv2)
      clear hv2
      go_wp2_with (fail)
      go_ret
      exact ⟨rfl, BH.trans HB8.out.1 (BH.trans HE12.out.1 HZ2.out)⟩
end Go.Proofs.YtpkiheenkpcebaaGreatDoor.JT
