/- tellaw2.TermMeasures: the walk. No condition but the names. -/
import Derived.Test.YtnidngpenhblcaaDoorTp1
import Derived.Test.YtnidngpenhblcaaDoorTrw
import Derived.Test.YtnidngpenhblcaaDoorTsl
import Derived.Test.YtnidngpenhblcaaDoorTsn
import Derived.Test.YtnidngpenhblcaaDoorTsm
set_option linter.unusedVariables false
set_option linter.unusedSimpArgs false
namespace Go.Proofs.YtnidngpenhblcaaDoor.Sx
theorem insI_G (l : List Int) (n : Int) : insI l n = insG l n := by
  induction l with
  | nil => rfl
  | cons x r ih => simp only [insI, insG, ih]
theorem setI_eq (xs : List Int) : insA [] xs = setI xs := by
  unfold setI
  rw [set_eq lin_int]
  have : insI = insG := funext fun l => funext fun n => insI_G l n
  unfold insA insAG
  rw [this]
theorem setS_eq (xs : List (List UInt8)) : insAG [] xs = setS xs := by
  unfold setS
  rw [set_eq lin_str]
theorem setI_len (xs : List Int) : (setI xs).length ≤ xs.length := by
  have := insA_len xs []
  rw [setI_eq] at this
  simpa using this
theorem setS_len (xs : List (List UInt8)) : (setS xs).length ≤ xs.length := by
  have := insAG_len xs []
  rw [setS_eq] at this
  simpa using this
end Go.Proofs.YtnidngpenhblcaaDoor.Sx
namespace Go.Proofs.YtnidngpenhblcaaDoor.TL
open Go.RowKit Go.Sort Sx

/-- a term in its box, and the four rows -/
structure PM (w X : World) (N : Nat) (k o : Int) (t : List UInt8) (kids : Fo) (A : Option Addr) (c : Nat) (RI : List Int) (RS : List (List UInt8)) (A4 : Option Addr) (c4 : Nat) (A5 : Option Addr) (c5 : Nat) (A6 : Option Addr) (c6 : Nat) (A7 : Option Addr) (c7 : Nat) : Prop where
  p : P1 w X N k o t kids A c
  i4 : Cel X 1 A4 RI.length c4 (RI.map (Value.int .i64))
  i5 : Cel X 1 A5 RI.length c5 (RI.map (Value.int .i64))
  s6 : Cel X 1 A6 RS.length c6 (RS.map encStr)
  s7 : Cel X 1 A7 RS.length c7 (RS.map encStr)
theorem PM.below {w X X' : World} {N : Nat} {k o : Int} {t : List UInt8} {kids : Fo} {A : Option Addr} {c : Nat} {RI : List Int} {RS : List (List UInt8)} {A4 : Option Addr} {c4 : Nat} {A5 : Option Addr} {c5 : Nat} {A6 : Option Addr} {c6 : Nat} {A7 : Option Addr} {c7 : Nat}
    (h : PM w X N k o t kids A c RI RS A4 c4 A5 c5 A6 c6 A7 c7) (hb : Below X.heap.size X X') : PM w X' N k o t kids A c RI RS A4 c4 A5 c5 A6 c6 A7 c7 :=
  ⟨h.p.below hb, h.i4.bh hb, h.i5.bh hb, h.s6.bh hb, h.s7.bh hb⟩

set_option maxHeartbeats 8000000 in
set_option maxRecDepth 100000 in
theorem measures_walk (a0 : Option Addr) (len0 cap0 : Nat) (z0 : List Int) (w : World)
    (hl0 : len0 ≤ maxLen) (hI0 : Ints w a0 len0 z0) (W : List (List UInt8)) (gw ow cw : Nat) (tW : TabW w 0 11 W gw ow cw) :
    Calls Tryd.prog 3 #[.slice a0 len0 cap0] w fun e w' => e = .returned (.bool true) ∧ Below w.heap.size w w' := by
  have HI0 := Lib.hid hI0
  have TW := Lib.hid tW
  clear hI0 tW
  go_enter Tryd.func3, Tryd.ntmps3
  go_wp2_with (fail)
  refine (new_any _ _ _ _).mono ?_
  rintro e1 u0 ⟨rfl, rfl⟩
  go_wp2_with (fail)
  refine (anyTerm_any 5 ⟨_, _, _, _, z0, W, gw, ow, cw⟩ _ (gen_newT (Below.refl _ _) hl0 HI0.out TW.out) (by decide)).mono ?_
  rintro e2 w0 ⟨k, o, t, kids, A, c, ys, rfl, hc, hr, hk, hok, hG, hgb⟩
  have B0 : Below w.heap.size w w0 := below_gb_of (Below.alloc (Below.refl _ _) (Nat.le_refl _) _) hgb (Nat.le_refl _)
  have s0 := kids_okA5 hok
  have K0 := Lib.hid (KT.of hc hr hk)
  have HB0 := Lib.hid B0
  clear hc hr hk hok hG hgb B0
  go_upto_region 2 with (fail)
  refine gen_wp _ (fun X => P1 w X w0.heap.size k o t kids A c) ?_ ?_
  · have h1 := heap_alloc_new w0 (.cells #[.int .i64 k, .string ⟨t.toArray⟩, .int .i64 o, .slice A kids.len c] 25 (0, 0))
    have f1 : Below w0.heap.size w0 (w0.alloc (.cells #[.int .i64 k, .string ⟨t.toArray⟩, .int .i64 o, .slice A kids.len c] 25 (0, 0))) := (Below.refl _ _).alloc (Nat.le_refl _) _
    exact ⟨h1, K0.out.below f1, HB0.out.trans (f1.mono HB0.out.size)⟩
  rintro W5 hP
  obtain ⟨g5, hg5⟩ : ∃ g5, w0.heap.size = g5 := ⟨_, rfl⟩
  rw [hg5] at hP ⊢
  clear hg5 K0 HB0
  obtain ⟨RI, hRI⟩ : ∃ RI, setI (free1 k o kids 0) = RI := ⟨_, rfl⟩
  obtain ⟨RS, hRS⟩ : ∃ RS, setS (nm1 k t kids) = RS := ⟨_, rfl⟩
  obtain ⟨nI, hnI⟩ : ∃ nI, RI.length = nI := ⟨_, rfl⟩
  obtain ⟨nS, hnS⟩ : ∃ nS, RS.length = nS := ⟨_, rfl⟩
  have hbI : RI.length ≤ 1099511627776 := by
    have h1 := setI_len (free1 k o kids 0)
    have h2 := free1_len k o kids 0
    rw [hRI] at h1; omega
  have hbS : RS.length ≤ 1099511627776 := by
    have h1 := setS_len (nm1 k t kids)
    have h2 := nm1_len k t kids
    rw [hRS] at h1; omega
  have CF : Hid (∀ X, P1 w X g5 k o t kids A c → Calls Tryd.prog 11 #[.agg #[.int .i64 k, .string ⟨t.toArray⟩, .int .i64 o, .slice A kids.len c]] X fun e u => ∃ A' c', e = .returned (.slice A' nI c') ∧ Cel u 1 A' nI c' (RI.map (Value.int .i64)) ∧ P1 w u g5 k o t kids A c ∧ BH X u) := Lib.hid (by
    intro X h
    refine (freeVars_any k o t kids A c X s0 h.k0 hRI).mono ?_
    rintro e u ⟨v', rfl, ho, hb⟩
    obtain ⟨A', c', rfl, _⟩ := own_shape ho
    rw [← hnI]
    exact ⟨A', c', rfl, Cel.of_own ho, h.below hb, hb⟩)
  have CRF : Hid (∀ X, P1 w X g5 k o t kids A c → Calls Tryd.prog 12 #[.agg #[.int .i64 k, .string ⟨t.toArray⟩, .int .i64 o, .slice A kids.len c]] X fun e u => ∃ A' c', e = .returned (.slice A' nI c') ∧ Cel u 1 A' nI c' (RI.map (Value.int .i64)) ∧ P1 w u g5 k o t kids A c ∧ BH X u) := Lib.hid (by
    intro X h
    refine (rTermFreeVars_any k o t kids A c X s0 h.k0).mono ?_
    rintro e u ⟨A', c', rfl, ho, hb⟩
    rw [setI_eq, hRI] at ho ⊢
    rw [← hnI]
    exact ⟨A', c', rfl, ho, h.below hb, hb⟩)
  have CN : Hid (∀ X, P1 w X g5 k o t kids A c → Calls Tryd.prog 13 #[.agg #[.int .i64 k, .string ⟨t.toArray⟩, .int .i64 o, .slice A kids.len c]] X fun e u => ∃ A' c', e = .returned (.slice A' nS c') ∧ Cel u 1 A' nS c' (RS.map encStr) ∧ P1 w u g5 k o t kids A c ∧ BH X u) := Lib.hid (by
    intro X h
    refine (names_any k o t kids A c X s0 h.k0 hRS).mono ?_
    rintro e u ⟨v', rfl, ho, hb⟩
    obtain ⟨A', c', rfl, _⟩ := own_shape ho
    rw [← hnS]
    exact ⟨A', c', rfl, Cel.of_own ho, h.below hb, hb⟩)
  have CRN : Hid (∀ X, P1 w X g5 k o t kids A c → Calls Tryd.prog 14 #[.agg #[.int .i64 k, .string ⟨t.toArray⟩, .int .i64 o, .slice A kids.len c]] X fun e u => ∃ A' c', e = .returned (.slice A' nS c') ∧ Cel u 1 A' nS c' (RS.map encStr) ∧ P1 w u g5 k o t kids A c ∧ BH X u) := Lib.hid (by
    intro X h
    refine (rTermNames_any k o t kids A c X s0 h.k0).mono ?_
    rintro e u ⟨A', c', rfl, ho, hb⟩
    rw [setS_eq, hRS] at ho ⊢
    rw [← hnS]
    exact ⟨A', c', rfl, ho, h.below hb, hb⟩)
  have HPn := Lib.hid (hP.below (below_drew W5))
  obtain ⟨p0, p1, p2, p3⟩ := hP.cells
  clear hP
  go_cut [4, 5] (fun s4 s5 wx => ∃ A4 c4 A5 c5, s4 = .slice A4 nI c4 ∧ s5 = .slice A5 nI c5 ∧ Cel wx 1 A4 nI c4 (RI.map (Value.int .i64)) ∧ Cel wx 1 A5 nI c5 (RI.map (Value.int .i64)) ∧ P1 w wx g5 k o t kids A c)
  case first =>
    go_region_held3 (fun X => X.cell? ⟨g5, 0, none⟩ = some (.int .i64 k) ∧ X.cell? ⟨g5, 1, none⟩ = some (.string ⟨t.toArray⟩) ∧ X.cell? ⟨g5, 2, none⟩ = some (.int .i64 o) ∧ X.cell? ⟨g5, 3, none⟩ = some (.slice A kids.len c)) (go_keep)
      (first
        | (go_at_call 11; (with_reducible refine (CF.out _ HPn.out).mono ?_); rintro e u4 ⟨A4, c4, rfl, hcel, hp, hb⟩; have HC4 := Lib.hid hcel; have HPn := Lib.hid hp; have HB4 := Lib.hid hb; clear hcel hp hb; obtain ⟨p0, p1, p2, p3⟩ := HPn.out.cells)
        | (go_at_call 12; (with_reducible refine (CRF.out _ HPn.out).mono ?_); rintro e u5 ⟨A5, c5, rfl, hcel, hp, hb⟩; have HC5 := Lib.hid hcel; have HPn := Lib.hid hp; have HB5 := Lib.hid hb; clear hcel hp hb; obtain ⟨p0, p1, p2, p3⟩ := HPn.out.cells))
    all_goals
      go_wp2_with (fail)
      go_meet
      first
        | exact ⟨_, _, _, _, rfl, rfl, HC4.out.bh HB5.out, HC5.out, HPn.out⟩
        | exact ⟨_, _, _, _, rfl, rfl, HC4.out, HC5.out.bh HB4.out, HPn.out⟩
  case rest =>
  clear p0 p1 p2 p3 HPn
  obtain ⟨A4, c4, A5, c5, rfl, rfl, hC4, hC5, hP⟩ := hcut
  have HC4 := Lib.hid hC4
  have HC5 := Lib.hid hC5
  have HPb := Lib.hid hP
  have HPn := Lib.hid (hP.below (below_drew _))
  obtain ⟨p0, p1, p2, p3⟩ := hP.cells
  clear hC4 hC5 hP
  obtain ⟨wk, hwk⟩ : ∃ wk, wc = wk := ⟨_, rfl⟩
  rw [hwk] at HC4 HC5 HPb HPn p0 p1 p2 p3 ⊢
  clear hwk
  go_upto_region 3 with (fail)
  go_cut [6, 7] (fun s6 s7 wx => ∃ A6 c6 A7 c7, s6 = .slice A6 nS c6 ∧ s7 = .slice A7 nS c7 ∧ Cel wx 1 A6 nS c6 (RS.map encStr) ∧ Cel wx 1 A7 nS c7 (RS.map encStr) ∧ P1 w wx g5 k o t kids A c ∧ BH wk wx)
  case first =>
    have HBd := Lib.hid (BH.drew wk)
    go_region_held3 (fun X => X.cell? ⟨g5, 0, none⟩ = some (.int .i64 k) ∧ X.cell? ⟨g5, 1, none⟩ = some (.string ⟨t.toArray⟩) ∧ X.cell? ⟨g5, 2, none⟩ = some (.int .i64 o) ∧ X.cell? ⟨g5, 3, none⟩ = some (.slice A kids.len c)) (go_keep)
      (first
        | (go_at_call 13; (with_reducible refine (CN.out _ HPn.out).mono ?_); rintro e u6 ⟨A6, c6, rfl, hcel, hp, hb⟩; have HC6 := Lib.hid hcel; have HPn := Lib.hid hp; have HB6 := Lib.hid hb; clear hcel hp hb; obtain ⟨p0, p1, p2, p3⟩ := HPn.out.cells)
        | (go_at_call 14; (with_reducible refine (CRN.out _ HPn.out).mono ?_); rintro e u7 ⟨A7, c7, rfl, hcel, hp, hb⟩; have HC7 := Lib.hid hcel; have HPn := Lib.hid hp; have HB7 := Lib.hid hb; clear hcel hp hb; obtain ⟨p0, p1, p2, p3⟩ := HPn.out.cells))
    all_goals
      go_wp2_with (fail)
      go_meet
      first
        | exact ⟨_, _, _, _, rfl, rfl, HC6.out.bh HB7.out, HC7.out, HPn.out, BH.trans HBd.out (BH.trans HB6.out HB7.out)⟩
        | exact ⟨_, _, _, _, rfl, rfl, HC6.out, HC7.out.bh HB6.out, HPn.out, BH.trans HBd.out (BH.trans HB7.out HB6.out)⟩
  case rest =>
  clear p0 p1 p2 p3 HPn
  obtain ⟨A6, c6, A7, c7, rfl, rfl, hC6, hC7, hP, hB⟩ := hcut
  have hPM : PM w wc g5 k o t kids A c RI RS A4 c4 A5 c5 A6 c6 A7 c7 := ⟨hP, by rw [hnI]; exact HC4.out.bh hB, by rw [hnI]; exact HC5.out.bh hB, by rw [hnS]; exact hC6, by rw [hnS]; exact hC7⟩
  clear hP hB hC6 hC7 HC4 HC5 HPb CF CRF CN CRN
  have CS : Hid (∀ X, PM w X g5 k o t kids A c RI RS A4 c4 A5 c5 A6 c6 A7 c7 → Calls Tryd.prog 16 #[.agg #[.int .i64 k, .string ⟨t.toArray⟩, .int .i64 o, .slice A kids.len c]] X fun e u => e = .returned (.int .i64 ((fsize kids : Int) + 1)) ∧ PM w u g5 k o t kids A c RI RS A4 c4 A5 c5 A6 c6 A7 c7) := Lib.hid (by
    intro X h
    refine (size_any _ k o t kids A c X (Nat.le_refl _) s0 h.p.k0).mono ?_
    rintro e u ⟨rfl, hb⟩
    exact ⟨rfl, h.below hb⟩)
  have CRS : Hid (∀ X, PM w X g5 k o t kids A c RI RS A4 c4 A5 c5 A6 c6 A7 c7 → Calls Tryd.prog 17 #[.agg #[.int .i64 k, .string ⟨t.toArray⟩, .int .i64 o, .slice A kids.len c]] X fun e u => e = .returned (.int .i64 ((fsize kids : Int) + 1)) ∧ PM w u g5 k o t kids A c RI RS A4 c4 A5 c5 A6 c6 A7 c7) := Lib.hid (by
    intro X h
    refine (rsize_any _ k o t kids A c X (Nat.le_refl _) s0 h.p.k0).mono ?_
    rintro e u ⟨rfl, hb⟩
    exact ⟨rfl, h.below hb⟩)
  have CD : Hid (∀ X, PM w X g5 k o t kids A c RI RS A4 c4 A5 c5 A6 c6 A7 c7 → Calls Tryd.prog 18 #[.agg #[.int .i64 k, .string ⟨t.toArray⟩, .int .i64 o, .slice A kids.len c]] X fun e u => e = .returned (.int .i64 ((depT kids : Int) + 1)) ∧ PM w u g5 k o t kids A c RI RS A4 c4 A5 c5 A6 c6 A7 c7) := Lib.hid (by
    intro X h
    refine (depth_anyT _ k o t kids A c X (Nat.le_refl _) s0 h.p.k0).mono ?_
    rintro e u ⟨rfl, hb⟩
    exact ⟨rfl, h.below hb⟩)
  have CRD : Hid (∀ X, PM w X g5 k o t kids A c RI RS A4 c4 A5 c5 A6 c6 A7 c7 → Calls Tryd.prog 19 #[.agg #[.int .i64 k, .string ⟨t.toArray⟩, .int .i64 o, .slice A kids.len c]] X fun e u => e = .returned (.int .i64 ((depT kids : Int) + 1)) ∧ PM w u g5 k o t kids A c RI RS A4 c4 A5 c5 A6 c6 A7 c7) := Lib.hid (by
    intro X h
    refine (rdepth_any _ k o t kids A c X (Nat.le_refl _) s0 h.p.k0).mono ?_
    rintro e u ⟨rfl, hb⟩
    exact ⟨rfl, h.below hb⟩)
  have CP : Hid (∀ X, PM w X g5 k o t kids A c RI RS A4 c4 A5 c5 A6 c6 A7 c7 → Calls Tryd.prog 22 #[.agg #[.int .i64 k, .string ⟨t.toArray⟩, .int .i64 o, .slice A kids.len c]] X fun e u => e = .returned (.bool (plain1 k o kids)) ∧ PM w u g5 k o t kids A c RI RS A4 c4 A5 c5 A6 c6 A7 c7) := Lib.hid (by
    intro X h
    refine (isPlain_any k o t kids A c X s0 h.p.k0).mono ?_
    rintro e u ⟨rfl, hb⟩
    exact ⟨rfl, h.below hb⟩)
  have CRP : Hid (∀ X, PM w X g5 k o t kids A c RI RS A4 c4 A5 c5 A6 c6 A7 c7 → Calls Tryd.prog 23 #[.agg #[.int .i64 k, .string ⟨t.toArray⟩, .int .i64 o, .slice A kids.len c]] X fun e u => e = .returned (.bool (plain1 k o kids)) ∧ PM w u g5 k o t kids A c RI RS A4 c4 A5 c5 A6 c6 A7 c7) := Lib.hid (by
    intro X h
    refine (rPlain_any _ k o t kids A c X (Nat.le_refl _) s0 h.p.k0).mono ?_
    rintro e u ⟨rfl, hb⟩
    exact ⟨rfl, h.below hb⟩)
  have CI : Hid (∀ X, PM w X g5 k o t kids A c RI RS A4 c4 A5 c5 A6 c6 A7 c7 → Calls Tryd.prog 20 #[.slice A4 nI c4, .slice A5 nI c5] X fun e u => e = .returned (.bool true) ∧ PM w u g5 k o t kids A c RI RS A4 c4 A5 c5 A6 c6 A7 c7) := Lib.hid (by
    intro X h
    rw [← hnI]
    refine (sameInts_any RI A4 A5 c4 c5 X h.i4 h.i5 hbI).mono ?_
    rintro e u ⟨rfl, hb⟩
    exact ⟨rfl, h.below hb⟩)
  have CSs : Hid (∀ X, PM w X g5 k o t kids A c RI RS A4 c4 A5 c5 A6 c6 A7 c7 → Calls Tryd.prog 21 #[.slice A6 nS c6, .slice A7 nS c7] X fun e u => e = .returned (.bool true) ∧ PM w u g5 k o t kids A c RI RS A4 c4 A5 c5 A6 c6 A7 c7) := Lib.hid (by
    intro X h
    rw [← hnS]
    refine (sameStrings_any RS A6 A7 c6 c7 X h.s6 h.s7 hbS).mono ?_
    rintro e u ⟨rfl, hb⟩
    exact ⟨rfl, h.below hb⟩)
  obtain ⟨pl, hpl⟩ : ∃ pl, plain1 k o kids = pl := ⟨_, rfl⟩
  obtain ⟨fs, hfs⟩ : ∃ fs : Int, (fsize kids : Int) + 1 = fs := ⟨_, rfl⟩
  obtain ⟨dp, hdp⟩ : ∃ dp : Int, (depT kids : Int) + 1 = dp := ⟨_, rfl⟩
  rw [hpl] at CP CRP
  rw [hfs] at CS CRS
  rw [hdp] at CD CRD
  clear hRI hRS hnI hnS hbI hbS s0 hpl hfs hdp
  have HPn := Lib.hid (hPM.below (below_drew _))
  obtain ⟨p0, p1, p2, p3⟩ := hPM.p.cells
  clear hPM
  obtain ⟨wk, hwk⟩ : ∃ wk, wc = wk := ⟨_, rfl⟩
  rw [hwk] at HPn p0 p1 p2 p3 ⊢
  clear hwk
  go_upto_region 4 with (fail)
  go_region_held3 (fun X => X.cell? ⟨g5, 0, none⟩ = some (.int .i64 k) ∧ X.cell? ⟨g5, 1, none⟩ = some (.string ⟨t.toArray⟩) ∧ X.cell? ⟨g5, 2, none⟩ = some (.int .i64 o) ∧ X.cell? ⟨g5, 3, none⟩ = some (.slice A kids.len c)) (go_keep)
    (first
      | (go_at_call 15; refine (check2_any _).mono ?_; rintro e u ⟨rfl, hb⟩; have HPn := Lib.hid (HPn.out.below hb); clear hb; obtain ⟨p0, p1, p2, p3⟩ := HPn.out.p.cells)
      | (go_at_call 16; (with_reducible refine (CS.out _ HPn.out).mono ?_); rintro e u ⟨rfl, hp⟩; have HPn := Lib.hid hp; clear hp; obtain ⟨p0, p1, p2, p3⟩ := HPn.out.p.cells)
      | (go_at_call 17; (with_reducible refine (CRS.out _ HPn.out).mono ?_); rintro e u ⟨rfl, hp⟩; have HPn := Lib.hid hp; clear hp; obtain ⟨p0, p1, p2, p3⟩ := HPn.out.p.cells)
      | (go_at_call 18; (with_reducible refine (CD.out _ HPn.out).mono ?_); rintro e u ⟨rfl, hp⟩; have HPn := Lib.hid hp; clear hp; obtain ⟨p0, p1, p2, p3⟩ := HPn.out.p.cells)
      | (go_at_call 19; (with_reducible refine (CRD.out _ HPn.out).mono ?_); rintro e u ⟨rfl, hp⟩; have HPn := Lib.hid hp; clear hp; obtain ⟨p0, p1, p2, p3⟩ := HPn.out.p.cells)
      | (go_at_call 20; (with_reducible refine (CI.out _ HPn.out).mono ?_); rintro e u ⟨rfl, hp⟩; have HPn := Lib.hid hp; clear hp; obtain ⟨p0, p1, p2, p3⟩ := HPn.out.p.cells)
      | (go_at_call 21; (with_reducible refine (CSs.out _ HPn.out).mono ?_); rintro e u ⟨rfl, hp⟩; have HPn := Lib.hid hp; clear hp; obtain ⟨p0, p1, p2, p3⟩ := HPn.out.p.cells)
      | (go_at_call 22; (with_reducible refine (CP.out _ HPn.out).mono ?_); rintro e u ⟨rfl, hp⟩; have HPn := Lib.hid hp; clear hp; obtain ⟨p0, p1, p2, p3⟩ := HPn.out.p.cells)
      | (go_at_call 23; (with_reducible refine (CRP.out _ HPn.out).mono ?_); rintro e u ⟨rfl, hp⟩; have HPn := Lib.hid hp; clear hp; obtain ⟨p0, p1, p2, p3⟩ := HPn.out.p.cells))
  all_goals
    go_wp2_with (fail)
    go_ret
    exact ⟨rfl, HPn.out.p.bel⟩
end Go.Proofs.YtnidngpenhblcaaDoor.TL
