/- tellaw1.SexprSpacing: the walk. No condition but the three tables. -/
import Derived.Test.YtljfondbldmfcaaDoorSpcA
set_option linter.unusedVariables false
set_option linter.unusedSimpArgs false
namespace Go.Proofs.YtljfondbldmfcaaDoor
open Go.RowKit Sx

set_option maxHeartbeats 8000000 in
set_option maxRecDepth 100000 in
theorem spacing_walk (a0 : Option Addr) (len0 cap0 : Nat) (z0 : List Int) (a1 : Option Addr) (len1 cap1 : Nat) (z1 : List Int) (w : World)
    (hl0 : len0 ≤ maxLen) (hI0 : Ints w a0 len0 z0) (hl1 : len1 ≤ maxLen) (hI1 : Ints w a1 len1 z1) (W T : List (List UInt8)) (hW : ∀ u ∈ W, okW u = true) (hT : ∀ u ∈ T, okS u = true)
    (gw ow cw gs ot cs : Nat) (tW : TabW w 2 16 W gw ow cw) (tT : TabW w 1 6 T gs ot cs) (P : List (List UInt8)) (hP : okP P) (gp op cp : Nat) (tP : TabW w 0 6 P gp op cp) :
    Calls Tryd.prog 8 #[.slice a0 len0 cap0, .slice a1 len1 cap1] w fun e w' => e = .returned (.bool true) ∧ Below w.heap.size w w' := by
  have HI0 := Lib.hid hI0
  have HI1 := Lib.hid hI1
  have TW := Lib.hid tW
  have TT := Lib.hid tT
  have TP := Lib.hid tP
  have HW := Lib.hid hW
  have HT := Lib.hid hT
  have HP := Lib.hid hP
  clear hI0 hI1 hW hT tW tT hP tP
  go_enter Tryd.func8, Tryd.ntmps8
  go_wp2_with (fail)
  refine (new_any _ _ _ _).mono ?_
  rintro e1 w1 ⟨rfl, rfl⟩
  go_wp2_with (fail)
  refine (any_false 4 _ _ _ _ _ _ _ _ _ _ _ _ _ _ (gen_new (Below.refl _ _) hl0 HI0.out TW.out TT.out) (by decide)).mono ?_
  rintro e2 w2 ⟨k, o, t, kids, A, c, ys, rfl, hc, hr, hk, hok, hG, hgb⟩
  have hB2 : Below w.heap.size w w2 := below_gb_of ((Below.refl _ _).alloc (Nat.le_refl _) _) hgb (Nat.le_refl _)
  have hsz := kids_small hok
  have hvd := Lib.hid (vF_of_ok HW.out HT.out _ 4 hok)
  clear hgb hG hok
  have hN5 := heap_alloc_new w2 (.cells #[.int .i64 k, .string ⟨t.toArray⟩, .slice A kids.len c, .int .i64 o] 39)
  have B5 : Below w2.heap.size w2 (w2.alloc (.cells #[.int .i64 k, .string ⟨t.toArray⟩, .slice A kids.len c, .int .i64 o] 39)) := (Below.refl _ _).alloc (Nat.le_refl _) _
  have hNd : Nd' (w2.alloc (.cells #[.int .i64 k, .string ⟨t.toArray⟩, .slice A kids.len c, .int .i64 o] 39)) kids A c ys :=
    ⟨hc, hr.keep B5.size fun x _ hl => ⟨B5.block x hl, trivial⟩, hk.keep B5.size (fun x _ hl => ⟨B5.block x hl, trivial⟩) _⟩
  have hBw := hB2.trans (B5.mono hB2.size)
  have HF := Lib.hid (And.intro hN5 (And.intro hNd hBw))
  clear hN5 B5 hNd hBw hc hr hk hB2
  go_upto_region 2 with (fail)
  refine gen_wp _ (fun X => X.heap[w2.heap.size]? = some (.cells #[.int .i64 k, .string ⟨t.toArray⟩, .slice A kids.len c, .int .i64 o] 39 (0, 0)) ∧ Nd' X kids A c ys ∧ Below w.heap.size w X) HF.out ?_
  rintro W5 ⟨hN5, hNd, hB5⟩
  obtain ⟨g5, hg5⟩ : ∃ g5, w2.heap.size = g5 := ⟨_, rfl⟩
  rw [hg5] at hN5 ⊢
  clear hg5 HF
  have tP5 : TabW W5 0 6 P gp op cp := by
    obtain ⟨h1, h2⟩ := TP.out.lt
    exact ⟨(World.cell?_of_block (hB5.block 0 h1)).trans TP.out.head, fun i hi => by
      obtain ⟨s, hs, hc⟩ := TP.out.row i hi
      exact ⟨s, hs, (World.cell?_of_block (hB5.block gp h2)).trans hc⟩, TP.out.pos⟩
  obtain ⟨q0, q1⟩ := modI_bounds (len1 : Int) 6 (by decide)
  have hM := fun X => mod_any (len1 : Int) 6 X (by decide) (by decide)
  generalize modI (len1 : Int) 6 = v1 at q0 q1 hM
  obtain ⟨n1, rfl⟩ := Int.eq_ofNat_of_zero_le q0
  have HM := Lib.hid hM
  clear hM
  obtain ⟨sp, hsp, hcs⟩ := tP5.row n1 (by omega)
  obtain ⟨hsep, hsne, hsl⟩ := HP.out sp hsp
  have hsep' := Lib.hid hsep
  have hh := tP5.head
  obtain ⟨d0, d1, d2, d3, y0, y1, y2, y3⟩ := row4 hN5
  have HN5 := Lib.hid hN5
  have HNd := Lib.hid hNd
  have HB5 := Lib.hid hB5
  have TP5 := Lib.hid tP5
  have KS : ∀ X, PW W5 X → X.cell? ⟨0, 0, none⟩ = some (.slice (some ⟨gp, op, none⟩) 6 cp) ∧ X.cell? ⟨gp, op + n1, none⟩ = some (.string ⟨sp.toArray⟩) ∧ X.cell? ⟨g5, 0, none⟩ = some (.int .i64 k) ∧ X.cell? ⟨g5, 1, none⟩ = some (.string ⟨t.toArray⟩) ∧ X.cell? ⟨g5, 2, none⟩ = some (.slice A kids.len c) ∧ X.cell? ⟨g5, 3, none⟩ = some (.int .i64 o) :=
    fun X h => ⟨h.cell hh, h.cell hcs, h.cell d0, h.cell d1, h.cell d2, h.cell d3⟩
  have hNw : ∀ X n, PW W5 X → X.heap.size = n → Calls Tryd.prog 17 #[.slice a1 len1 cap1] X fun e u => e = .returned (.pointer (some ⟨n, 0, none⟩)) ∧ PW W5 u ∧ Below X.heap.size X u ∧ n < u.heap.size ∧ SGen u n a1 len1 cap1 z1 P gp op cp := by
    rintro X n hX rfl
    refine (new_any a1 len1 cap1 X).mono ?_
    rintro e u ⟨rfl, rfl⟩
    have hBX : Below w.heap.size w X := HB5.out.trans (hX.mono HB5.out.size)
    have hG := gen_new (cap := cap1) hBX hl1 HI1.out TW.out TT.out
    exact ⟨rfl, hX.alloc _, (Below.refl _ _).alloc (Nat.le_refl _) _, by simp, hG.st, TP.out.tab (hBX.alloc hBX.size _) hBX.size⟩
  have hSp : ∀ b Y, PW W5 Y → SGen Y b a1 len1 cap1 z1 P gp op cp → W5.heap.size ≤ b → Calls Tryd.prog 32 #[.pointer (some ⟨b, 0, none⟩), .agg #[.int .i64 k, .string ⟨t.toArray⟩, .slice A kids.len c, .int .i64 o]] Y fun e v => ∃ s1 : ByteArray, e = .returned (.string s1) ∧ ¬ 9223372036854775807 < sp.length + s1.size ∧ ¬ 9223372036854775807 < sp.length + s1.size + 6 ∧
      PW W5 v ∧ Y.grownBy v (some b) ∧ (Elt k t kids s1.data.toList ∧ s1.size ≤ 22000) := by
    intro b Y hY hG hb
    refine (spaced_any b a1 len1 cap1 z1 P HP.out gp op cp _ k o t kids A c ys (fun x => x < W5.heap.size) Y (Nat.le_refl _) (by omega) HNd.out.1 ?_ ?_ (fun x hx => by have : x < W5.heap.size := hx; omega) hvd.out.1 hG).mono ?_
    · intro h0
      obtain ⟨g, off, rfl, _, hl, hcl⟩ := HNd.out.2.1 h0
      exact ⟨g, off, rfl, hl, Nat.lt_of_lt_of_le hl hY.size, fun j u hu => (World.cell?_of_block (hY.block g hl)).trans (hcl j u hu)⟩
    · exact HNd.out.2.2.keep hY.size (fun x _ hl => ⟨hY.block x hl, hl⟩) _
    · rintro e v ⟨s1, rfl, hel, hz, hG2, hg2⟩
      refine ⟨s1, rfl, by omega, by omega, ?_, hg2, hel, by omega⟩
      exact ⟨hg2.os.trans hY.os, hg2.tape.trans hY.tape, hg2.output.trans hY.output, Nat.le_trans hY.size hg2.size, fun x hx => (hg2.block x (Nat.lt_of_lt_of_le hx hY.size) (by simp; omega)).trans (hY.block x hx)⟩
  have hPa : ∀ s1 Z, PW W5 Z → (Elt k t kids s1.data.toList ∧ s1.size ≤ 22000) → Calls Tryd.prog 11 #[.string (ByteArray.mk sp.toArray ++ s1 ++ ByteArray.mk #[10, 59, 32, 101, 110, 100])] Z fun e z => ∃ A9 c9 ys9 g1 o1, e = .returned (.tuple #[.slice A9 1 c9, .agg #[.int .i64 0, .int .i64 0]]) ∧
      PW W5 z ∧ Below Z.heap.size Z z ∧ (sameF kids g1 ∧ readsAt z (fun x => Z.heap.size ≤ x) A9 1 ys9 ∧ rowOf z (fun x => Z.heap.size ≤ x) (.one k t g1 o1) ys9) := by
    intro s1 Z hZ ⟨hel, hz⟩
    have he1 : s1.data.toList.length = s1.size := by simp
    obtain ⟨g1, o1, q, hsm, hp⟩ := spc_text hsep'.out hvd.out.1 hel (by have := hvd.out.2; omega) (by omega)
    refine (parse_ok _ _ _ q Z (by simp) (by simp only [ByteArray.size_append]; have : (ByteArray.mk sp.toArray).size = sp.length := (by show sp.toArray.size = _; simp); have : (ByteArray.mk #[10, 59, 32, 101, 110, 100]).size = 6 := rfl; unfold maxLen; omega) hp).mono ?_
    rintro e z ⟨A9, c9, ys9, rfl, hc9, hr9, hx9, hb9⟩
    exact ⟨A9, c9, ys9, g1, o1, rfl, Below.trans hZ (hb9.mono hZ.size), hb9, hsm, hr9, hx9⟩
  have HNw := Lib.hid hNw
  have HSp := Lib.hid hSp
  have HPa := Lib.hid hPa
  have HKS := Lib.hid KS
  have HPd := Lib.hid (PW.drew W5)
  have i1 : (0 : Int) ≤ (n1 : Int) := by omega
  clear hNw hSp hPa KS hN5 hNd hB5 tP5 hsep hsne hsp q0
  go_cut [6, 7] (fun s6 s7 wx => CutR W5 k t kids s6 s7 wx)
  case first =>
    go_region_held3 (fun w' => w'.cell? ⟨0, 0, none⟩ = some (.slice (some ⟨gp, op, none⟩) 6 cp) ∧ w'.cell? ⟨gp, op + n1, none⟩ = some (.string ⟨sp.toArray⟩) ∧ w'.cell? ⟨g5, 0, none⟩ = some (.int .i64 k) ∧ w'.cell? ⟨g5, 1, none⟩ = some (.string ⟨t.toArray⟩) ∧ w'.cell? ⟨g5, 2, none⟩ = some (.slice A kids.len c) ∧ w'.cell? ⟨g5, 3, none⟩ = some (.int .i64 o))
      (first | go_keep | exact HKS.out _ ((HPz.out.set (by omega) _ _).set (by omega) _ _))
      (first
        | (go_at_call 21; refine (HM.out _).mono ?_; rintro e w' ⟨rfl, rfl⟩)
        | (go_at_call 17; (first | refine (HNw.out _ W5.heap.size HPd.out rfl).mono ?_ | refine (HNw.out _ (W5.heap.size + 1) (HPd.out.alloc _) (by simp)).mono ?_); rintro e u ⟨rfl, hpu, hbu, hlu, hgu⟩; have HPu := Lib.hid hpu; have HGu := Lib.hid hgu; obtain ⟨k0, k1, k2, k3, k4, k5⟩ := HKS.out _ hpu; have hus := hpu.size; (first | (have fu : FR u W5.heap.size := (hbu.block W5.heap.size (by simp)).trans (heap_alloc_new W5.drew _); have Fu := Lib.hid fu; clear fu) | skip); clear hpu hgu hbu)
        | (go_at_call 32; refine (HSp.out _ _ (by first | exact HPu.out | exact HPu.out.alloc _) (by first | exact HGu.out | exact HGu.out.below ((Below.refl _ _).alloc (Nat.le_refl _) _)) (by omega)).mono ?_; rintro e v ⟨s1, rfl, e1, e2, hpv, hgv, hel⟩; have HPv := Lib.hid hpv; have HEl := Lib.hid hel; obtain ⟨k0, k1, k2, k3, k4, k5⟩ := HKS.out _ hpv; have hvs := hpv.size; have huv := hgv.size; (first | (have fv : FR v W5.heap.size := (hgv.block W5.heap.size (heap_lt Fu.out) (by simp)).trans Fu.out; have Fv := Lib.hid fv; clear fv) | (have fv : FR v u.heap.size := (hgv.block u.heap.size (by simp) (by simp; omega)).trans (heap_alloc_new u _); have Fv := Lib.hid fv; clear fv) | skip); clear hpv hel hgv)
        | (go_at_call 11; refine (HPa.out _ _ (by first | exact HPv.out | exact HPv.out.alloc _) HEl.out).mono ?_; rintro e z ⟨A9, c9, ys9, g1, o1, rfl, hpz, hbz, hrz⟩; have HPz := Lib.hid hpz; have HRz := Lib.hid hrz; obtain ⟨k0, k1, k2, k3, k4, k5⟩ := HKS.out _ hpz; have hzs := hbz.size; (first | (have fz := (hbz.block _ (heap_lt Fv.out)).trans Fv.out; have Fz := Lib.hid fz; obtain ⟨f0, f1, x0, x1⟩ := row2 fz; clear fz) | (have fz : FR z v.heap.size := (hbz.block v.heap.size (by simp)).trans (heap_alloc_new v _); have Fz := Lib.hid fz; obtain ⟨f0, f1, x0, x1⟩ := row2 fz; clear fz) | skip); clear hpz hbz hrz))
    all_goals
      go_wp2_with (fail)
      go_meet
      first
        | exact cut_alloc HPz.out HRz.out
        | exact cut_store HPz.out HRz.out Fz.out (by omega) (by first | exact heap_lt Fv.out | simp)
  case rest =>
    obtain ⟨g7, A9, c9, ys9, g1, o1, rfl, rfl, hf7, hpx, hsm, hr9, hx9⟩ := hcut
    have hz1 : fsize g1 ≤ 340 := by rw [← sameF_fsize _ _ hsm]; exact hsz
    obtain ⟨A8, c8, ys8, zs8, rfl, hc8, hr8, hx8, _⟩ := hx9
    obtain ⟨g9, off9, rfl, _, hl9, hcell9⟩ := hr9 (by decide)
    have r0 := hcell9 0 _ rfl
    have r1 := hcell9 1 _ rfl
    have r2 := hcell9 2 _ rfl
    have r3 := hcell9 3 _ rfl
    simp only [Nat.add_zero] at r0
    obtain ⟨k0, k1, k2, k3, k4, k5⟩ := HKS.out _ hpx
    have hNo : ∀ X, PW wc X → Calls Tryd.prog 18 #[.agg #[.int .i64 k, .string ⟨t.toArray⟩, .slice A kids.len c, .int .i64 o]] X fun e u => ∃ A' c' ys', e = .returned (.agg #[.int .i64 k, .string ⟨t.toArray⟩, .slice A' kids.len c', .int .i64 o]) ∧ PW wc u ∧ Nd' u kids A' c' ys' := by
      intro X hX
      have hnd := Nd.ofPW (Nd.ofPW HNd.out hpx) hX
      refine (node_any _ k o t kids A c ys _ X (Nat.le_refl _) (by omega) hnd.1 hnd.2.1 hnd.2.2).mono ?_
      rintro e u ⟨A', c', ys', rfl, h1, h2, h3, h4⟩
      exact ⟨A', c', ys', rfl, Below.trans hX (h4.mono hX.size), h1, h2.keep (Nat.le_refl _) (fun x _ _ => ⟨rfl, trivial⟩), h3.keep (Nat.le_refl _) (fun x _ _ => ⟨rfl, trivial⟩) _⟩
    have hEq : ∀ A' c' ys' X, PW wc X → Nd' X kids A' c' ys' → Calls Tryd.prog 20 #[.agg #[.int .i64 k, .string ⟨t.toArray⟩, .slice A8 g1.len c8, .int .i64 o1], .agg #[.int .i64 k, .string ⟨t.toArray⟩, .slice A' kids.len c', .int .i64 o]] X fun e u => e = .returned (.bool true) ∧ PW wc u := by
      intro A' c' ys' X hX hnd
      have hnd8 : Nd' X g1 A8 c8 ys8 := Nd.ofPW (W := wc) ⟨hc8, hr8, hx8⟩ hX
      refine (equal_any _ k o1 k o t t g1 kids A8 A' c8 c' ys8 ys' _ _ X (Nat.le_refl _) (by omega) (by omega) hnd8.2.1 hnd8.2.2 hnd.2.1 hnd.2.2).mono ?_
      rintro e u ⟨rfl, hb⟩
      exact ⟨by rw [eqN_rest, eqF_same _ _ (sameF_symm _ _ hsm)], Below.trans hX (hb.mono hX.size)⟩
    have KS2 : ∀ X, PW wc X → X.cell? ⟨g7, 0, none⟩ = some (.int .i64 0) ∧ X.cell? ⟨g9, off9, none⟩ = some (.int .i64 k) ∧ X.cell? ⟨g9, off9 + 1, none⟩ = some (.string ⟨t.toArray⟩) ∧ X.cell? ⟨g9, off9 + 2, none⟩ = some (.slice A8 g1.len c8) ∧ X.cell? ⟨g9, off9 + 3, none⟩ = some (.int .i64 o1) ∧
        X.cell? ⟨g5, 0, none⟩ = some (.int .i64 k) ∧ X.cell? ⟨g5, 1, none⟩ = some (.string ⟨t.toArray⟩) ∧ X.cell? ⟨g5, 2, none⟩ = some (.slice A kids.len c) ∧ X.cell? ⟨g5, 3, none⟩ = some (.int .i64 o) :=
      fun X h => ⟨h.cell hf7, h.cell r0, h.cell r1, h.cell r2, h.cell r3, h.cell k2, h.cell k3, h.cell k4, h.cell k5⟩
    have hCk : ∀ X, PW wc X → Calls Tryd.prog 14 #[] X fun e u => e = .returned (.bool true) ∧ PW wc u := fun X hX => (check_any X).mono fun e u ⟨h1, h2⟩ => ⟨h1, Below.trans hX (h2.mono hX.size)⟩
    have HNo := Lib.hid hNo
    have HEq := Lib.hid hEq
    have HK2 := Lib.hid KS2
    have HCk := Lib.hid hCk
    have HPx := Lib.hid hpx
    have HPe := Lib.hid (PW.drew wc)
    clear hNo hEq KS2 hCk hcell9 hr9 hr8 hx8 hsm hpx hc8 k0 k1
    go_wp2_with (fail)
    go_region_held3 (fun w' => w'.cell? ⟨g7, 0, none⟩ = some (.int .i64 0) ∧ w'.cell? ⟨g9, off9, none⟩ = some (.int .i64 k) ∧ w'.cell? ⟨g9, off9 + 1, none⟩ = some (.string ⟨t.toArray⟩) ∧ w'.cell? ⟨g9, off9 + 2, none⟩ = some (.slice A8 g1.len c8) ∧ w'.cell? ⟨g9, off9 + 3, none⟩ = some (.int .i64 o1) ∧
        w'.cell? ⟨g5, 0, none⟩ = some (.int .i64 k) ∧ w'.cell? ⟨g5, 1, none⟩ = some (.string ⟨t.toArray⟩) ∧ w'.cell? ⟨g5, 2, none⟩ = some (.slice A kids.len c) ∧ w'.cell? ⟨g5, 3, none⟩ = some (.int .i64 o)) (go_keep)
      (first
        | (go_at_call 14; refine (HCk.out _ HPe.out).mono ?_; rintro e u ⟨rfl, hpu⟩; have HPu := Lib.hid hpu; obtain ⟨x0, x1, x2, x3, x4, x5, x6, x7, x8⟩ := HK2.out _ hpu; clear hpu)
        | (go_at_call 18; refine (HNo.out _ HPu.out).mono ?_; rintro e v ⟨A', c', ys', rfl, hpv, hndv⟩; have HPv := Lib.hid hpv; have HNv := Lib.hid hndv; obtain ⟨x0, x1, x2, x3, x4, x5, x6, x7, x8⟩ := HK2.out _ hpv; clear hpv hndv)
        | (go_at_call 20; refine (HEq.out _ _ _ _ HPv.out HNv.out).mono ?_; rintro e z ⟨rfl, hpz⟩; have HPz := Lib.hid hpz; obtain ⟨x0, x1, x2, x3, x4, x5, x6, x7, x8⟩ := HK2.out _ hpz; clear hpz))
    all_goals
      go_wp2_with (fail)
      go_ret
      exact ⟨rfl, HB5.out.trans ((Below.trans HPx.out (HPz.out.mono HPx.out.size)).mono HB5.out.size)⟩
end Go.Proofs.YtljfondbldmfcaaDoor
