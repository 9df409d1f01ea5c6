/- tellaw2.TermSpoiled: the walk. What is laid: the leaves' names. The bound: at most 2^20 integers, a name of at most 2^20 letters. -/
import Derived.Test.YtnidngpenhblcaaDoorSqW
import Derived.Test.YtnidngpenhblcaaDoorGw
import Derived.Deep.CutBlock
import Derived.Test.YtnidngpenhblcaaDoorTp1
import Derived.Test.YtnidngpenhblcaaDoorTrw
set_option linter.unusedVariables false
set_option linter.unusedSimpArgs false
namespace Go.Proofs.YtnidngpenhblcaaDoor.TQ
open Go.RowKit Sx TL

/-- two terms in their boxes -/
structure P2 (w X : World) (N N1 : Nat) (k o : Int) (t : List UInt8) (kids : Fo) (A : Option Addr) (c : Nat) (k' o' : Int) (t' : List UInt8) (kids' : Fo) (A' : Option Addr) (c' : Nat) : Prop where
  r0 : X.heap[N]? = some (.cells #[.int .i64 k, .string ⟨t.toArray⟩, .int .i64 o, .slice A kids.len c] 25 (0, 0))
  r1 : X.heap[N1]? = some (.cells #[.int .i64 k', .string ⟨t'.toArray⟩, .int .i64 o', .slice A' kids'.len c'] 25 (0, 0))
  k0 : KT X kids A c
  k1 : KT X kids' A' c'
  bel : Below w.heap.size w X
theorem P2.below {w X X' : World} {N N1 : Nat} {k o : Int} {t : List UInt8} {kids : Fo} {A : Option Addr} {c : Nat} {k' o' : Int} {t' : List UInt8} {kids' : Fo} {A' : Option Addr} {c' : Nat}
    (h : P2 w X N N1 k o t kids A c k' o' t' kids' A' c') (hb : Below X.heap.size X X') : P2 w X' N N1 k o t kids A c k' o' t' kids' A' c' :=
  ⟨(hb.block _ (heap_lt h.r0)).trans h.r0, (hb.block _ (heap_lt h.r1)).trans h.r1, h.k0.below hb, h.k1.below hb, h.bel.trans (hb.mono h.bel.size)⟩
theorem P2.cells {w X : World} {N N1 : Nat} {k o : Int} {t : List UInt8} {kids : Fo} {A : Option Addr} {c : Nat} {k' o' : Int} {t' : List UInt8} {kids' : Fo} {A' : Option Addr} {c' : Nat}
    (h : P2 w X N N1 k o t kids A c k' o' t' kids' A' c') :
    X.cell? ⟨N, 0, none⟩ = some (.int .i64 k) ∧ X.cell? ⟨N, 1, none⟩ = some (.string ⟨t.toArray⟩) ∧ X.cell? ⟨N, 2, none⟩ = some (.int .i64 o) ∧ X.cell? ⟨N, 3, none⟩ = some (.slice A kids.len c) ∧
    X.cell? ⟨N1, 0, none⟩ = some (.int .i64 k') ∧ X.cell? ⟨N1, 1, none⟩ = some (.string ⟨t'.toArray⟩) ∧ X.cell? ⟨N1, 2, none⟩ = some (.int .i64 o') ∧ X.cell? ⟨N1, 3, none⟩ = some (.slice A' kids'.len c') := by
  obtain ⟨a0, a1, a2, a3, _⟩ := row4 h.r0
  obtain ⟨b0, b1, b2, b3, _⟩ := row4 h.r1
  exact ⟨a0, a1, a2, a3, b0, b1, b2, b3⟩

theorem spoil_all : ∀ M, SPc M := by
  intro M
  induction M with
  | zero => intro S k o at_ how n t nm kids A c w _ h; exact absurd h (Nat.not_lt_zero _)
  | succ M ih => exact spoil_step M ih

set_option maxHeartbeats 8000000 in
set_option maxRecDepth 100000 in
theorem spoiled_walk (a0 : Option Addr) (len0 cap0 : Nat) (z0 : List Int) (at_ how n : Int) (nm : List UInt8) (w : World)
    (hr0 : IsRow .i64 w a0 len0 cap0 z0) (hb0 : len0 ≤ 1048576) (hnm : nm.length ≤ 1048576) (W : List (List UInt8)) (gw ow cw : Nat) (tW : TabW w 1 4 W gw ow cw) (hs : ∀ s ∈ W, s.length ≤ 1000) :
    Calls Tryd.prog 5 #[.slice a0 len0 cap0, .int .i64 at_, .int .i64 how, .int .i64 n, .string ⟨nm.toArray⟩] w fun e w' => e = .returned (.bool true) ∧ Below w.heap.size w w' := by
  have HI0 := Lib.hid hr0
  have TW := Lib.hid tW
  have HSh := Lib.hid hs
  have Hnm := Lib.hid hnm
  clear hr0 tW hs hnm
  go_enter Tryd.func5, Tryd.ntmps5
  go_wp2_with (fail)
  refine (new_any _ _ _ _).mono ?_
  rintro e1 u0 ⟨rfl, rfl⟩
  go_wp2_with (fail)
  refine (base_any _).mono ?_
  rintro e2 w1 ⟨A1, c1, rfl, hD, hb⟩
  have HB1 := Lib.hid ((bh_alloc (BH.refl w) (.cells #[.slice a0 len0 cap0, .int .i64 0] 55)).trans hb)
  obtain ⟨gd, od, rfl, hG⟩ := genD_new (Below.refl _ _) HI0.out.ints.1 HI0.out.ints.2 TW.out HSh.out hb hD
  have HG := Lib.hid hG
  clear hD hb hG
  go_wp2_with (fail)
  refine (openTermC _ 0 2 _ HG.out (by decide) (by decide)).mono ?_
  rintro e3 w2 ⟨kx, k0, o0, t0, kids0, A0, c0, ys0, rfl, g1, g2, g3, g4, g5, g6, g7, g8, g9⟩
  have K0 := Lib.hid (KT.of g1 g2 g3)
  have s0 : fsize kids0 ≤ 4194304 := by
    have h := g8.st.2.2.2.1
    have h' : kx ≤ len0 := h
    omega
  have HL0 := Lib.hid g6
  have HB2 := Lib.hid (show BH w w2 from below_gb_of HB1.out g9 (Nat.le_refl _))
  clear g1 g2 g3 g4 g5 g6 g7 g8 g9 HG
  go_upto_region 2 with (fail)
  refine gen_wp _ (fun X => P1 w X w2.heap.size k0 o0 t0 kids0 A0 c0) ?_ ?_
  · have h1 := heap_alloc_new w2 (.cells #[.int .i64 k0, .string ⟨t0.toArray⟩, .int .i64 o0, .slice A0 kids0.len c0] 25)
    have f1 := bh_alloc (BH.refl w2) (.cells #[.int .i64 k0, .string ⟨t0.toArray⟩, .int .i64 o0, .slice A0 kids0.len c0] 25)
    exact ⟨h1, K0.out.below f1, BH.trans HB2.out f1⟩
  rintro W5 hP
  obtain ⟨g5, hg5⟩ : ∃ g5, w2.heap.size = g5 := ⟨_, rfl⟩
  rw [hg5] at hP ⊢
  clear hg5 K0 HB2 HB1
  obtain ⟨sz, hsz⟩ : ∃ sz : Int, (fsize kids0 : Int) + 1 = sz := ⟨_, rfl⟩
  have hszb : 0 < sz ∧ sz ≤ 4194305 := by omega
  obtain ⟨m, hm⟩ : ∃ m : Int, modI at_ sz = m := ⟨_, rfl⟩
  have hmb : 0 ≤ m ∧ m ≤ 4194305 := by have := modI_bounds at_ sz hszb.1; omega
  have HKS := Lib.hid (KS.of hP.k0)
  have CS : Hid (∀ X, BH W5 X → Calls Tryd.prog 17 #[.agg #[.int .i64 k0, .string ⟨t0.toArray⟩, .int .i64 o0, .slice A0 kids0.len c0]] X fun e u => e = .returned (.int .i64 sz) ∧ BH W5 u ∧ BH X u) := Lib.hid (by
    intro X h
    refine (rsize_any (fsize kids0) k0 o0 t0 kids0 A0 c0 X (Nat.le_refl _) (by omega) (hP.k0.below h)).mono ?_
    rintro e u ⟨rfl, hb⟩
    exact ⟨congrArg (fun z : Int => Ending.returned (.int .i64 z)) hsz, BH.trans h hb, hb⟩)
  have CM : Hid (∀ X, Calls Tryd.prog 29 #[.int .i64 at_, .int .i64 sz] X fun e u => e = .returned (.int .i64 m) ∧ X = u) := Lib.hid fun X => (mod_big at_ sz X hszb.1 (by omega)).mono fun e u h => ⟨by rw [h.1, hm], h.2⟩
  have CP : Hid (∀ X, BH W5 X → Calls Tryd.prog 28 #[.agg #[.int .i64 k0, .string ⟨t0.toArray⟩, .int .i64 o0, .slice A0 kids0.len c0], .int .i64 m, .int .i64 how, .int .i64 n, .string ⟨nm.toArray⟩] X fun e u =>
      ∃ (k1 o1 : Int) (t1 : List UInt8) (kids1 : Fo) (A1 : Option Addr) (c1 : Nat), e = .returned (.agg #[.int .i64 k1, .string ⟨t1.toArray⟩, .int .i64 o1, .slice A1 kids1.len c1]) ∧ KS u (fun x => x < W5.heap.size ∨ X.heap.size ≤ x) kids1 A1 c1 ∧ lenT (.one k1 t1 kids1 o1) ∧ fsize kids1 ≤ 1073741824 ∧ BH W5 u ∧ BH X u) := Lib.hid (by
    intro X h
    refine (spoil_all (fsize kids0 + 1) (fun x => x < W5.heap.size) k0 o0 m how n t0 nm kids0 A0 c0 X (fun x hx => Nat.lt_of_lt_of_le hx (Below.size h)) (by omega) (by omega) (HKS.out.bh h) HL0.out Hnm.out hmb.1 (by omega)).mono ?_
    rintro e u ⟨k1, o1, t1, kids1, A1, c1, rfl, u1, u2, u3, u4⟩
    exact ⟨k1, o1, t1, kids1, A1, c1, rfl, u1, u2, by omega, BH.trans h u4, u4⟩)
  clear hsz hszb hm hmb
  have HPn := Lib.hid (show BH W5 W5.drew from below_drew W5)
  have HR0 := Lib.hid hP
  obtain ⟨p0, p1, p2, p3⟩ := hP.cells
  clear hP
  go_cut [12] (fun s12 wx => ∃ (g6 : Nat) (k1 o1 : Int) (t1 : List UInt8) (kids1 : Fo) (A1 : Option Addr) (c1 : Nat), s12 = .pointer (some ⟨g6, 0, none⟩) ∧ Hid (P2 w wx g5 g6 k0 o0 t0 kids0 A0 c0 k1 o1 t1 kids1 A1 c1 ∧ lenT (.one k1 t1 kids1 o1) ∧ fsize kids1 ≤ 1073741824))
  case first =>
    go_region_held3 (fun X => X.cell? ⟨g5, 0, none⟩ = some (.int .i64 k0) ∧ X.cell? ⟨g5, 1, none⟩ = some (.string ⟨t0.toArray⟩) ∧ X.cell? ⟨g5, 2, none⟩ = some (.int .i64 o0) ∧ X.cell? ⟨g5, 3, none⟩ = some (.slice A0 kids0.len c0)) (first | exact ⟨r0, r1, r2, r3⟩ | go_keep)
      (first
        | (go_at_call 17; (first | refine (CS.out _ HPn.out).mono ?_ | refine (CS.out _ (BH.trans HPn.out (bh_alloc (BH.refl _) _))).mono ?_); rintro e u ⟨rfl, hp, hb⟩; (first | (have HX := Lib.hid (show W5.heap.size < (W5.alloc (.cells #[.int .i64 0, .string ⟨#[]⟩, .int .i64 0, .slice none 0 0] 25)).drew.heap.size by simp); have fr := Lib.hid (show W5.heap.size ≤ W5.heap.size ∧ u.heap[W5.heap.size]? = some (.cells #[.int .i64 0, .string ⟨#[]⟩, .int .i64 0, .slice none 0 0] 25 (0, 0)) from ⟨Nat.le_refl _, (Below.block hb _ HX.out).trans (show (W5.alloc (.cells #[.int .i64 0, .string ⟨#[]⟩, .int .i64 0, .slice none 0 0] 25)).drew.heap[W5.heap.size]? = _ from heap_alloc_new W5 _)⟩)) | (have HX := HY; have fr := Lib.hid (show W5.heap.size ≤ _ ∧ _ = some (.cells #[.int .i64 0, .string ⟨#[]⟩, .int .i64 0, .slice none 0 0] 25 (0, 0)) from ⟨Nat.le_trans (Below.size HPn.out) (Nat.le_refl _), (Below.block hb _ (heap_lt (heap_alloc_new _ _))).trans (heap_alloc_new _ _)⟩)) | (have fq := fr; have HX := Lib.hid (heap_lt fq.out.2); have fr := Lib.hid (show W5.heap.size ≤ _ ∧ _ = some (.cells #[.int .i64 0, .string ⟨#[]⟩, .int .i64 0, .slice none 0 0] 25 (0, 0)) from ⟨fq.out.1, (Below.block hb _ (heap_lt fq.out.2)).trans fq.out.2⟩)) | skip); have HPn := Lib.hid hp; clear hp hb; obtain ⟨p0, p1, p2, p3⟩ := row4 ((Below.block HPn.out _ (heap_lt HR0.out.r0)).trans HR0.out.r0))
        | (go_at_call 29; (refine (CM.out _).mono ?_); rintro e u ⟨rfl, rfl⟩)
        | (go_at_call 28; (first | refine (CP.out _ HPn.out).mono ?_ | refine (CP.out _ (BH.trans HPn.out (bh_alloc (BH.refl _) _))).mono ?_); have HY := Lib.hid (heap_lt (heap_alloc_new u (.cells #[.int .i64 0, .string ⟨#[]⟩, .int .i64 0, .slice none 0 0] 25))); rintro e u ⟨k1, o1, t1, kids1, A1, c1, rfl, u1, u2, u3, hp, hb⟩; (first | (have HX := Lib.hid (show W5.heap.size < (W5.alloc (.cells #[.int .i64 0, .string ⟨#[]⟩, .int .i64 0, .slice none 0 0] 25)).drew.heap.size by simp); have fr := Lib.hid (show W5.heap.size ≤ W5.heap.size ∧ u.heap[W5.heap.size]? = some (.cells #[.int .i64 0, .string ⟨#[]⟩, .int .i64 0, .slice none 0 0] 25 (0, 0)) from ⟨Nat.le_refl _, (Below.block hb _ HX.out).trans (show (W5.alloc (.cells #[.int .i64 0, .string ⟨#[]⟩, .int .i64 0, .slice none 0 0] 25)).drew.heap[W5.heap.size]? = _ from heap_alloc_new W5 _)⟩)) | (have HX := HY; have fr := Lib.hid (show W5.heap.size ≤ _ ∧ _ = some (.cells #[.int .i64 0, .string ⟨#[]⟩, .int .i64 0, .slice none 0 0] 25 (0, 0)) from ⟨Nat.le_trans (Below.size HPn.out) (Nat.le_refl _), (Below.block hb _ (heap_lt (heap_alloc_new _ _))).trans (heap_alloc_new _ _)⟩)) | (have fq := fr; have HX := Lib.hid (heap_lt fq.out.2); have fr := Lib.hid (show W5.heap.size ≤ _ ∧ _ = some (.cells #[.int .i64 0, .string ⟨#[]⟩, .int .i64 0, .slice none 0 0] 25 (0, 0)) from ⟨fq.out.1, (Below.block hb _ (heap_lt fq.out.2)).trans fq.out.2⟩)) | skip); have HPn := Lib.hid hp; have HU := Lib.hid (And.intro u1 (And.intro u2 u3)); clear hp hb u1 u2 u3; (first | (have fq := fr; have fq2 := fq.out.2; obtain ⟨f0, f1, f2, f3, h0, h1, h2, h3⟩ := row4 fq2; obtain ⟨r0, r1, r2, r3, _⟩ := row4 ((s4_far (Nat.ne_of_lt (Nat.lt_of_lt_of_le (heap_lt HR0.out.r0) fq.out.1)) (.int .i64 k1) (.string ⟨t1.toArray⟩) (.int .i64 o1) (.slice A1 kids1.len c1)).trans ((Below.block HPn.out _ (heap_lt HR0.out.r0)).trans HR0.out.r0))) | skip); obtain ⟨p0, p1, p2, p3⟩ := row4 ((Below.block HPn.out _ (heap_lt HR0.out.r0)).trans HR0.out.r0)))
    all_goals
      go_wp2_with (fail)
      go_meet
      first
        | (have f1 := bh_alloc (BH.refl u) (.cells #[.int .i64 k1, .string ⟨t1.toArray⟩, .int .i64 o1, .slice A1 kids1.len c1] 25)
           have hq := HR0.out.below (BH.trans HPn.out f1)
           exact ⟨_, k1, o1, t1, kids1, A1, c1, rfl, Lib.hid ⟨⟨hq.r0, heap_alloc_new u _, hq.k0, HU.out.1.kt.below f1, hq.bel⟩, HU.out.2.1, HU.out.2.2⟩⟩)
        | (have hA := fr.out.1
           have hX := HX.out
           have hz := Below.size HPn.out
           have hbs := below_gb_of (BH.refl W5) (s4_gb (gb_below HPn.out _) hA (.int .i64 k1) (.string ⟨t1.toArray⟩) (.int .i64 o1) (.slice A1 kids1.len c1)) hA
           refine ⟨_, k1, o1, t1, kids1, A1, c1, rfl, Lib.hid ⟨⟨(s4_far (Nat.ne_of_lt (Nat.lt_of_lt_of_le (heap_lt HR0.out.r0) hA)) (.int .i64 k1) (.string ⟨t1.toArray⟩) (.int .i64 o1) (.slice A1 kids1.len c1)).trans ((Below.block HPn.out _ (heap_lt HR0.out.r0)).trans HR0.out.r0), s4 fr.out.2 _ _ _ _, HR0.out.k0.below hbs |> fun h => h, KS.kt (HU.out.1.keep (S' := fun _ => True) (by simp [size_set]) fun x hx hl => ⟨s4_far (by rcases hx with hx | hx <;> omega) _ _ _ _, trivial⟩), HR0.out.bel.trans (hbs.mono HR0.out.bel.size)⟩, HU.out.2.1, HU.out.2.2⟩⟩)
  case rest =>
  clear p0 p1 p2 p3 HPn CS CM CP HR0 HKS
  obtain ⟨g6, k1, o1, t1, kids1, A1, c1, rfl, HC⟩ := hcut
  obtain ⟨hP, hl1, s1⟩ := HC.out
  obtain ⟨x, hx⟩ : ∃ x, validV k0 t0 o0 kids0 = x := ⟨_, rfl⟩
  obtain ⟨y, hy⟩ : ∃ y, validV k1 t1 o1 kids1 = y := ⟨_, rfl⟩
  have hl0 := HL0.out
  have s0' : fsize kids0 ≤ 1073741824 := by omega
  have V0 : Hid (∀ X, P2 w X g5 g6 k0 o0 t0 kids0 A0 c0 k1 o1 t1 kids1 A1 c1 → Calls Tryd.prog 24 #[.agg #[.int .i64 k0, .string ⟨t0.toArray⟩, .int .i64 o0, .slice A0 kids0.len c0]] X fun e u => e = .returned (.int .i64 x) ∧ P2 w u g5 g6 k0 o0 t0 kids0 A0 c0 k1 o1 t1 kids1 A1 c1) := Lib.hid (by
    intro X h
    refine (validate_any k0 o0 t0 kids0 A0 c0 X s0' h.k0 hl0.1 hl0.2.1).mono ?_
    rintro e u ⟨rfl, hb⟩
    exact ⟨congrArg (fun z : Int => Ending.returned (.int .i64 z)) hx, h.below hb⟩)
  have R0 : Hid (∀ X, P2 w X g5 g6 k0 o0 t0 kids0 A0 c0 k1 o1 t1 kids1 A1 c1 → Calls Tryd.prog 25 #[.agg #[.int .i64 k0, .string ⟨t0.toArray⟩, .int .i64 o0, .slice A0 kids0.len c0]] X fun e u => e = .returned (.int .i64 x) ∧ P2 w u g5 g6 k0 o0 t0 kids0 A0 c0 k1 o1 t1 kids1 A1 c1) := Lib.hid (by
    intro X h
    refine (rValidate_any k0 o0 t0 kids0 A0 c0 X s0' h.k0 hl0.1 hl0.2.1).mono ?_
    rintro e u ⟨rfl, hb⟩
    exact ⟨congrArg (fun z : Int => Ending.returned (.int .i64 z)) hx, h.below hb⟩)
  have V1 : Hid (∀ X, P2 w X g5 g6 k0 o0 t0 kids0 A0 c0 k1 o1 t1 kids1 A1 c1 → Calls Tryd.prog 24 #[.agg #[.int .i64 k1, .string ⟨t1.toArray⟩, .int .i64 o1, .slice A1 kids1.len c1]] X fun e u => e = .returned (.int .i64 y) ∧ P2 w u g5 g6 k0 o0 t0 kids0 A0 c0 k1 o1 t1 kids1 A1 c1) := Lib.hid (by
    intro X h
    refine (validate_any k1 o1 t1 kids1 A1 c1 X s1 h.k1 hl1.1 hl1.2.1).mono ?_
    rintro e u ⟨rfl, hb⟩
    exact ⟨congrArg (fun z : Int => Ending.returned (.int .i64 z)) hy, h.below hb⟩)
  have R1 : Hid (∀ X, P2 w X g5 g6 k0 o0 t0 kids0 A0 c0 k1 o1 t1 kids1 A1 c1 → Calls Tryd.prog 25 #[.agg #[.int .i64 k1, .string ⟨t1.toArray⟩, .int .i64 o1, .slice A1 kids1.len c1]] X fun e u => e = .returned (.int .i64 y) ∧ P2 w u g5 g6 k0 o0 t0 kids0 A0 c0 k1 o1 t1 kids1 A1 c1) := Lib.hid (by
    intro X h
    refine (rValidate_any k1 o1 t1 kids1 A1 c1 X s1 h.k1 hl1.1 hl1.2.1).mono ?_
    rintro e u ⟨rfl, hb⟩
    exact ⟨congrArg (fun z : Int => Ending.returned (.int .i64 z)) hy, h.below hb⟩)
  clear hx hy s0 s0' s1 hl0 hl1
  have HPn := Lib.hid (hP.below (below_drew wc))
  obtain ⟨p0, p1, p2, p3, b0, b1, b2, b3⟩ := hP.cells
  clear hP HC
  obtain ⟨wk, hwk⟩ : ∃ wk, wc = wk := ⟨_, rfl⟩
  rw [hwk] at HPn p0 p1 p2 p3 b0 b1 b2 b3 ⊢
  clear hwk
  go_upto_region 3 with (fail)
  go_region_held3 (fun X => X.cell? ⟨g5, 0, none⟩ = some (.int .i64 k0) ∧ X.cell? ⟨g5, 1, none⟩ = some (.string ⟨t0.toArray⟩) ∧ X.cell? ⟨g5, 2, none⟩ = some (.int .i64 o0) ∧ X.cell? ⟨g5, 3, none⟩ = some (.slice A0 kids0.len c0) ∧ X.cell? ⟨g6, 0, none⟩ = some (.int .i64 k1) ∧ X.cell? ⟨g6, 1, none⟩ = some (.string ⟨t1.toArray⟩) ∧ X.cell? ⟨g6, 2, none⟩ = some (.int .i64 o1) ∧ X.cell? ⟨g6, 3, none⟩ = some (.slice A1 kids1.len c1)) (go_keep)
    (first
      | (go_at_call 15; refine (check2_any _).mono ?_; rintro e u ⟨rfl, hb⟩; have HPn := Lib.hid (HPn.out.below hb); clear hb; obtain ⟨p0, p1, p2, p3, b0, b1, b2, b3⟩ := HPn.out.cells)
      | (go_at_call 24; (with_reducible refine (V0.out _ HPn.out).mono ?_); rintro e u ⟨rfl, hp⟩; have HPn := Lib.hid hp; clear hp; obtain ⟨p0, p1, p2, p3, b0, b1, b2, b3⟩ := HPn.out.cells)
      | (go_at_call 25; (with_reducible refine (R0.out _ HPn.out).mono ?_); rintro e u ⟨rfl, hp⟩; have HPn := Lib.hid hp; clear hp; obtain ⟨p0, p1, p2, p3, b0, b1, b2, b3⟩ := HPn.out.cells)
      | (go_at_call 24; (with_reducible refine (V1.out _ HPn.out).mono ?_); rintro e u ⟨rfl, hp⟩; have HPn := Lib.hid hp; clear hp; obtain ⟨p0, p1, p2, p3, b0, b1, b2, b3⟩ := HPn.out.cells)
      | (go_at_call 25; (with_reducible refine (R1.out _ HPn.out).mono ?_); rintro e u ⟨rfl, hp⟩; have HPn := Lib.hid hp; clear hp; obtain ⟨p0, p1, p2, p3, b0, b1, b2, b3⟩ := HPn.out.cells))
  all_goals
    go_wp2_with (fail)
    go_ret
    exact ⟨rfl, HPn.out.bel⟩
end Go.Proofs.YtnidngpenhblcaaDoor.TQ
