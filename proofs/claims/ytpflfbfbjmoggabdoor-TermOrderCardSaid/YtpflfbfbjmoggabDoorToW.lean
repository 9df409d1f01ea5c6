/- tellaw2.TermOrder: the walk. No condition but the names. -/
import Derived.Test.YtpflfbfbjmoggabDoorTlw
import Derived.Test.YtpflfbfbjmoggabDoorTeq
import Derived.Deep.CutBlock
set_option linter.unusedVariables false
set_option linter.unusedSimpArgs false
namespace Go.Proofs.YtpflfbfbjmoggabDoor.TL
open Go.RowKit Sx

/-- three terms in their boxes -/
structure P3 (w X : World) (N N1 N2 : Nat) (k o : Int) (t : List UInt8) (kids : Fo) (A : Option Addr) (c : Nat) (k' o' : Int) (t' : List UInt8) (kids' : Fo) (A' : Option Addr) (c' : Nat) (k'' o'' : Int) (t'' : List UInt8) (kids'' : Fo) (A'' : Option Addr) (c'' : Nat) : Prop where
  r0 : X.heap[N]? = some (.cells #[.int .i64 k, .string ⟨t.toArray⟩, .int .i64 o, .slice A kids.len c] 25 (0, 0))
  r1 : X.heap[N1]? = some (.cells #[.int .i64 k', .string ⟨t'.toArray⟩, .int .i64 o', .slice A' kids'.len c'] 25 (0, 0))
  r2 : X.heap[N2]? = some (.cells #[.int .i64 k'', .string ⟨t''.toArray⟩, .int .i64 o'', .slice A'' kids''.len c''] 25 (0, 0))
  k0 : KT X kids A c
  k1 : KT X kids' A' c'
  k2 : KT X kids'' A'' c''
  bel : Below w.heap.size w X
theorem P3.below {w X X' : World} {N N1 N2 : Nat} {k o : Int} {t : List UInt8} {kids : Fo} {A : Option Addr} {c : Nat} {k' o' : Int} {t' : List UInt8} {kids' : Fo} {A' : Option Addr} {c' : Nat} {k'' o'' : Int} {t'' : List UInt8} {kids'' : Fo} {A'' : Option Addr} {c'' : Nat}
    (h : P3 w X N N1 N2 k o t kids A c k' o' t' kids' A' c' k'' o'' t'' kids'' A'' c'') (hb : Below X.heap.size X X') : P3 w X' N N1 N2 k o t kids A c k' o' t' kids' A' c' k'' o'' t'' kids'' A'' c'' :=
  ⟨(hb.block _ (heap_lt h.r0)).trans h.r0, (hb.block _ (heap_lt h.r1)).trans h.r1, (hb.block _ (heap_lt h.r2)).trans h.r2, h.k0.below hb, h.k1.below hb, h.k2.below hb, h.bel.trans (hb.mono h.bel.size)⟩

theorem P3.cells {w X : World} {N N1 N2 : Nat} {k o : Int} {t : List UInt8} {kids : Fo} {A : Option Addr} {c : Nat} {k' o' : Int} {t' : List UInt8} {kids' : Fo} {A' : Option Addr} {c' : Nat} {k'' o'' : Int} {t'' : List UInt8} {kids'' : Fo} {A'' : Option Addr} {c'' : Nat}
    (h : P3 w X N N1 N2 k o t kids A c k' o' t' kids' A' c' k'' o'' t'' kids'' A'' c'') :
    X.cell? ⟨N, 0, none⟩ = some (.int .i64 k) ∧ X.cell? ⟨N, 1, none⟩ = some (.string ⟨t.toArray⟩) ∧ X.cell? ⟨N, 2, none⟩ = some (.int .i64 o) ∧ X.cell? ⟨N, 3, none⟩ = some (.slice A kids.len c) ∧
    X.cell? ⟨N1, 0, none⟩ = some (.int .i64 k') ∧ X.cell? ⟨N1, 1, none⟩ = some (.string ⟨t'.toArray⟩) ∧ X.cell? ⟨N1, 2, none⟩ = some (.int .i64 o') ∧ X.cell? ⟨N1, 3, none⟩ = some (.slice A' kids'.len c') ∧
    X.cell? ⟨N2, 0, none⟩ = some (.int .i64 k'') ∧ X.cell? ⟨N2, 1, none⟩ = some (.string ⟨t''.toArray⟩) ∧ X.cell? ⟨N2, 2, none⟩ = some (.int .i64 o'') ∧ X.cell? ⟨N2, 3, none⟩ = some (.slice A'' kids''.len c'') := by
  obtain ⟨a0, a1, a2, a3, _⟩ := row4 h.r0
  obtain ⟨b0, b1, b2, b3, _⟩ := row4 h.r1
  obtain ⟨d0, d1, d2, d3, _⟩ := row4 h.r2
  exact ⟨a0, a1, a2, a3, b0, b1, b2, b3, d0, d1, d2, d3⟩

theorem cI_b (x y : Int) : -1 ≤ Lib.compareInt x y ∧ Lib.compareInt x y ≤ 1 := by
  unfold Lib.compareInt
  repeat' split
  all_goals omega
theorem cB_b (x : List UInt8) : ∀ y, -1 ≤ Lib.compareBytes x y ∧ Lib.compareBytes x y ≤ 1 := by
  induction x with
  | nil => intro y; cases y <;> simp [Lib.compareBytes]
  | cons a x ih =>
    intro y
    cases y with
    | nil => simp [Lib.compareBytes]
    | cons b y =>
      simp only [Lib.compareBytes]
      split
      · omega
      · split
        · omega
        · exact ih y
theorem lx_b {a b : Int} (ha : -1 ≤ a ∧ a ≤ 1) (hb : -1 ≤ b ∧ b ≤ 1) : -1 ≤ lx a b ∧ lx a b ≤ 1 := by
  unfold lx
  split
  · exact hb
  · exact ha
theorem cmpF_b (f : Fo) : ∀ g, -1 ≤ cmpF f g ∧ cmpF f g ≤ 1 := by
  induction f with
  | nil => intro g; cases g <;> simp [cmpF]
  | cons k t kids o r ihk ihr =>
    intro g
    cases g with
    | nil => simp [cmpF]
    | cons k' t' kids' o' r' =>
      rw [cmpF_cons, cmp1]
      exact lx_b (lx_b (cI_b _ _) (lx_b (cB_b _ _) (lx_b (cI_b _ _) (lx_b (cI_b _ _) (ihk _))))) (ihr _)
theorem cmp1_b (k : Int) (t : List UInt8) (o : Int) (kids : Fo) (k' : Int) (t' : List UInt8) (o' : Int) (kids' : Fo) : -1 ≤ cmp1 k t o kids k' t' o' kids' ∧ cmp1 k t o kids k' t' o' kids' ≤ 1 := by
  rw [cmp1]
  exact lx_b (cI_b _ _) (lx_b (cB_b _ _) (lx_b (cI_b _ _) (lx_b (cI_b _ _) (cmpF_b _ _))))

set_option maxHeartbeats 4000000 in
set_option maxRecDepth 100000 in
theorem order_walk (a0 : Option Addr) (len0 cap0 : Nat) (z0 : List Int) (a1 : Option Addr) (len1 cap1 : Nat) (z1 : List Int) (a2 : Option Addr) (len2 cap2 : Nat) (z2 : List Int) (w : World)
    (hl0 : len0 ≤ maxLen) (hI0 : Ints w a0 len0 z0) (hl1 : len1 ≤ maxLen) (hI1 : Ints w a1 len1 z1) (hl2 : len2 ≤ maxLen) (hI2 : Ints w a2 len2 z2) (W : List (List UInt8)) (gw ow cw : Nat) (tW : TabW w 0 11 W gw ow cw) :
    Calls Tryd.prog 7 #[.slice a0 len0 cap0, .slice a1 len1 cap1, .slice a2 len2 cap2] w fun e w' => e = .returned (.bool true) ∧ Below w.heap.size w w' := by
  have HI0 := Lib.hid hI0
  have HI1 := Lib.hid hI1
  have HI2 := Lib.hid hI2
  have TW := Lib.hid tW
  clear hI0 hI1 hI2 tW
  go_enter Tryd.func7, Tryd.ntmps7
  go_wp2_with (fail)
  refine (new_any _ _ _ _).mono ?_
  rintro e1 u0 ⟨rfl, rfl⟩
  go_wp2_with (fail)
  refine (anyTerm_any 4 ⟨_, _, _, _, z0, W, gw, ow, cw⟩ _ (gen_newT (Below.refl _ _) hl0 HI0.out TW.out) (by decide)).mono ?_
  rintro e2 w0 ⟨k0, o0, t0, kids0, A0, c0, ys0, rfl, hc, hr, hk, hok, hG, hgb⟩
  have B0 : Below w.heap.size w w0 := below_gb_of (Below.alloc (Below.refl _ _) (Nat.le_refl _) _) hgb (Nat.le_refl _)
  have K0 := Lib.hid (KT.of hc hr hk)
  have s0 := kids_okA hok
  have HB0 := Lib.hid B0
  clear hc hr hk hok hG hgb B0
  go_wp2_with (fail)
  refine (new_any _ _ _ _).mono ?_
  rintro e1 u1 ⟨rfl, rfl⟩
  go_wp2_with (fail)
  refine (anyTerm_any 4 ⟨_, _, _, _, z1, W, gw, ow, cw⟩ _ (gen_newT HB0.out hl1 HI1.out TW.out) (by decide)).mono ?_
  rintro e2 w1 ⟨k1, o1, t1, kids1, A1, c1, ys1, rfl, hc, hr, hk, hok, hG, hgb⟩
  have B1 : Below w.heap.size w w1 := below_gb_of (Below.alloc HB0.out HB0.out.size _) hgb HB0.out.size
  have K1 := Lib.hid (KT.of hc hr hk)
  have s1 := kids_okA hok
  have Q01 := Lib.hid (show Below w0.heap.size w0 w1 from below_gb_of ((Below.refl _ _).alloc (Nat.le_refl _) _) hgb (Nat.le_refl _))
  have HB1 := Lib.hid B1
  clear hc hr hk hok hG hgb B1
  go_wp2_with (fail)
  refine (new_any _ _ _ _).mono ?_
  rintro e1 u2 ⟨rfl, rfl⟩
  go_wp2_with (fail)
  refine (anyTerm_any 4 ⟨_, _, _, _, z2, W, gw, ow, cw⟩ _ (gen_newT HB1.out hl2 HI2.out TW.out) (by decide)).mono ?_
  rintro e2 w2 ⟨k2, o2, t2, kids2, A2, c2, ys2, rfl, hc, hr, hk, hok, hG, hgb⟩
  have B2 : Below w.heap.size w w2 := below_gb_of (Below.alloc HB1.out HB1.out.size _) hgb HB1.out.size
  have K2 := Lib.hid (KT.of hc hr hk)
  have s2 := kids_okA hok
  have Q12 := Lib.hid (show Below w1.heap.size w1 w2 from below_gb_of ((Below.refl _ _).alloc (Nat.le_refl _) _) hgb (Nat.le_refl _))
  have HB2 := Lib.hid B2
  clear hc hr hk hok hG hgb B2
  go_upto_region 2 with (fail)
  refine gen_wp _ (fun X => P3 w X w2.heap.size (w2.heap.size + 1) (w2.heap.size + 1 + 1) k0 o0 t0 kids0 A0 c0 k1 o1 t1 kids1 A1 c1 k2 o2 t2 kids2 A2 c2) ?_ ?_
  · have h1 := heap_alloc_new w2 (.cells #[.int .i64 k0, .string ⟨t0.toArray⟩, .int .i64 o0, .slice A0 kids0.len c0] 25 (0, 0))
    generalize hV1 : w2.alloc (.cells #[.int .i64 k0, .string ⟨t0.toArray⟩, .int .i64 o0, .slice A0 kids0.len c0] 25 (0, 0)) = V1 at *
    have z1 : V1.heap.size = w2.heap.size + 1 := by rw [← hV1]; simp
    have f1 : Below w2.heap.size w2 V1 := by rw [← hV1]; exact (Below.refl _ _).alloc (Nat.le_refl _) _
    have h2 := heap_alloc_new V1 (.cells #[.int .i64 k1, .string ⟨t1.toArray⟩, .int .i64 o1, .slice A1 kids1.len c1] 25 (0, 0))
    generalize hV2 : V1.alloc (.cells #[.int .i64 k1, .string ⟨t1.toArray⟩, .int .i64 o1, .slice A1 kids1.len c1] 25 (0, 0)) = V2 at *
    have z2 : V2.heap.size = V1.heap.size + 1 := by rw [← hV2]; simp
    have f2 : Below V1.heap.size V1 V2 := by rw [← hV2]; exact (Below.refl _ _).alloc (Nat.le_refl _) _
    have h3 := heap_alloc_new V2 (.cells #[.int .i64 k2, .string ⟨t2.toArray⟩, .int .i64 o2, .slice A2 kids2.len c2] 25 (0, 0))
    generalize hV3 : V2.alloc (.cells #[.int .i64 k2, .string ⟨t2.toArray⟩, .int .i64 o2, .slice A2 kids2.len c2] 25 (0, 0)) = V3 at *
    have f3 : Below V2.heap.size V2 V3 := by rw [← hV3]; exact (Below.refl _ _).alloc (Nat.le_refl _) _
    have f23 : Below V1.heap.size V1 V3 := f2.trans (f3.mono (by omega))
    have f13 : Below w2.heap.size w2 V3 := f1.trans (f23.mono (by omega))
    have q12 := Q12.out
    have q01 := Q01.out
    refine ⟨(f23.block _ (by omega)).trans h1, ?_, ?_, ?_, ?_, K2.out.below f13, HB2.out.trans (f13.mono HB2.out.size)⟩
    · rw [← z1]; exact (f3.block _ (by omega)).trans h2
    · rw [← z1, ← z2]; exact h3
    · exact (K0.out.below q01).below (q12.trans (f13.mono q12.size))
    · exact K1.out.below (q12.trans (f13.mono q12.size))
  rintro W5 hP
  obtain ⟨g7, hg7⟩ : ∃ g7, w2.heap.size + 1 + 1 = g7 := ⟨_, rfl⟩
  rw [hg7] at hP ⊢
  obtain ⟨g6, hg6⟩ : ∃ g6, w2.heap.size + 1 = g6 := ⟨_, rfl⟩
  rw [hg6] at hP ⊢
  obtain ⟨g5, hg5⟩ : ∃ g5, w2.heap.size = g5 := ⟨_, rfl⟩
  rw [hg5] at hP ⊢
  clear hg5 hg6 hg7 Q01 Q12 K0 K1 K2 HB0 HB1 HB2
  obtain ⟨x, hx⟩ : ∃ x, cmp1 k0 t0 o0 kids0 k1 t1 o1 kids1 = x := ⟨_, rfl⟩
  obtain ⟨y, hy⟩ : ∃ y, cmp1 k1 t1 o1 kids1 k2 t2 o2 kids2 = y := ⟨_, rfl⟩
  obtain ⟨z, hz⟩ : ∃ z, cmp1 k0 t0 o0 kids0 k2 t2 o2 kids2 = z := ⟨_, rfl⟩
  have hT := T3.one k0 t0 o0 kids0 k1 t1 o1 kids1 k2 t2 o2 kids2
  have bx := cmp1_b k0 t0 o0 kids0 k1 t1 o1 kids1
  have hU := T3.one k2 t2 o2 kids2 k1 t1 o1 kids1 k0 t0 o0 kids0
  rw [cmp1_neg k1 t1 o1 kids1 k2 t2 o2 kids2, cmp1_neg k0 t0 o0 kids0 k1 t1 o1 kids1, cmp1_neg k0 t0 o0 kids0 k2 t2 o2 kids2, hx, hy, hz] at hU
  rw [hx, hy, hz] at hT
  rw [hx] at bx
  have C01 : Hid (∀ X, P3 w X g5 g6 g7 k0 o0 t0 kids0 A0 c0 k1 o1 t1 kids1 A1 c1 k2 o2 t2 kids2 A2 c2 → Calls Tryd.prog 28 #[.agg #[.int .i64 k0, .string ⟨t0.toArray⟩, .int .i64 o0, .slice A0 kids0.len c0], .agg #[.int .i64 k1, .string ⟨t1.toArray⟩, .int .i64 o1, .slice A1 kids1.len c1]] X fun e u => e = .returned (.int .i64 x) ∧ P3 w u g5 g6 g7 k0 o0 t0 kids0 A0 c0 k1 o1 t1 kids1 A1 c1 k2 o2 t2 kids2 A2 c2) := Lib.hid (by
    intro X h
    refine (compare_any (fsize kids0) k0 o0 k1 o1 t0 t1 kids0 kids1 A0 A1 c0 c1 _ (Nat.le_refl _) s0 s1 h.k0 h.k1).mono ?_
    rintro e u ⟨rfl, hb⟩
    exact ⟨congrArg (fun z : Int => Ending.returned (.int .i64 z)) hx, h.below hb⟩)
  have C12 : Hid (∀ X, P3 w X g5 g6 g7 k0 o0 t0 kids0 A0 c0 k1 o1 t1 kids1 A1 c1 k2 o2 t2 kids2 A2 c2 → Calls Tryd.prog 28 #[.agg #[.int .i64 k1, .string ⟨t1.toArray⟩, .int .i64 o1, .slice A1 kids1.len c1], .agg #[.int .i64 k2, .string ⟨t2.toArray⟩, .int .i64 o2, .slice A2 kids2.len c2]] X fun e u => e = .returned (.int .i64 y) ∧ P3 w u g5 g6 g7 k0 o0 t0 kids0 A0 c0 k1 o1 t1 kids1 A1 c1 k2 o2 t2 kids2 A2 c2) := Lib.hid (by
    intro X h
    refine (compare_any (fsize kids1) k1 o1 k2 o2 t1 t2 kids1 kids2 A1 A2 c1 c2 _ (Nat.le_refl _) s1 s2 h.k1 h.k2).mono ?_
    rintro e u ⟨rfl, hb⟩
    exact ⟨congrArg (fun z : Int => Ending.returned (.int .i64 z)) hy, h.below hb⟩)
  have C02 : Hid (∀ X, P3 w X g5 g6 g7 k0 o0 t0 kids0 A0 c0 k1 o1 t1 kids1 A1 c1 k2 o2 t2 kids2 A2 c2 → Calls Tryd.prog 28 #[.agg #[.int .i64 k0, .string ⟨t0.toArray⟩, .int .i64 o0, .slice A0 kids0.len c0], .agg #[.int .i64 k2, .string ⟨t2.toArray⟩, .int .i64 o2, .slice A2 kids2.len c2]] X fun e u => e = .returned (.int .i64 z) ∧ P3 w u g5 g6 g7 k0 o0 t0 kids0 A0 c0 k1 o1 t1 kids1 A1 c1 k2 o2 t2 kids2 A2 c2) := Lib.hid (by
    intro X h
    refine (compare_any (fsize kids0) k0 o0 k2 o2 t0 t2 kids0 kids2 A0 A2 c0 c2 _ (Nat.le_refl _) s0 s2 h.k0 h.k2).mono ?_
    rintro e u ⟨rfl, hb⟩
    exact ⟨congrArg (fun z : Int => Ending.returned (.int .i64 z)) hz, h.below hb⟩)
  have R01 : Hid (∀ X, P3 w X g5 g6 g7 k0 o0 t0 kids0 A0 c0 k1 o1 t1 kids1 A1 c1 k2 o2 t2 kids2 A2 c2 → Calls Tryd.prog 29 #[.agg #[.int .i64 k0, .string ⟨t0.toArray⟩, .int .i64 o0, .slice A0 kids0.len c0], .agg #[.int .i64 k1, .string ⟨t1.toArray⟩, .int .i64 o1, .slice A1 kids1.len c1]] X fun e u => e = .returned (.int .i64 x) ∧ P3 w u g5 g6 g7 k0 o0 t0 kids0 A0 c0 k1 o1 t1 kids1 A1 c1 k2 o2 t2 kids2 A2 c2) := Lib.hid (by
    intro X h
    refine (rcompare_any (fsize kids0) k0 o0 k1 o1 t0 t1 kids0 kids1 A0 A1 c0 c1 _ (Nat.le_refl _) s0 s1 h.k0 h.k1).mono ?_
    rintro e u ⟨rfl, hb⟩
    exact ⟨congrArg (fun z : Int => Ending.returned (.int .i64 z)) hx, h.below hb⟩)
  have C10 : Hid (∀ X, P3 w X g5 g6 g7 k0 o0 t0 kids0 A0 c0 k1 o1 t1 kids1 A1 c1 k2 o2 t2 kids2 A2 c2 → Calls Tryd.prog 28 #[.agg #[.int .i64 k1, .string ⟨t1.toArray⟩, .int .i64 o1, .slice A1 kids1.len c1], .agg #[.int .i64 k0, .string ⟨t0.toArray⟩, .int .i64 o0, .slice A0 kids0.len c0]] X fun e u => e = .returned (.int .i64 (-x)) ∧ P3 w u g5 g6 g7 k0 o0 t0 kids0 A0 c0 k1 o1 t1 kids1 A1 c1 k2 o2 t2 kids2 A2 c2) := Lib.hid (by
    intro X h
    refine (compare_any (fsize kids1) k1 o1 k0 o0 t1 t0 kids1 kids0 A1 A0 c1 c0 _ (Nat.le_refl _) s1 s0 h.k1 h.k0).mono ?_
    rintro e u ⟨rfl, hb⟩
    exact ⟨congrArg (fun z : Int => Ending.returned (.int .i64 z)) (by rw [← hx]; exact cmp1_neg _ _ _ _ _ _ _ _), h.below hb⟩)
  have C00 : Hid (∀ X, P3 w X g5 g6 g7 k0 o0 t0 kids0 A0 c0 k1 o1 t1 kids1 A1 c1 k2 o2 t2 kids2 A2 c2 → Calls Tryd.prog 28 #[.agg #[.int .i64 k0, .string ⟨t0.toArray⟩, .int .i64 o0, .slice A0 kids0.len c0], .agg #[.int .i64 k0, .string ⟨t0.toArray⟩, .int .i64 o0, .slice A0 kids0.len c0]] X fun e u => e = .returned (.int .i64 0) ∧ P3 w u g5 g6 g7 k0 o0 t0 kids0 A0 c0 k1 o1 t1 kids1 A1 c1 k2 o2 t2 kids2 A2 c2) := Lib.hid (by
    intro X h
    refine (compare_any (fsize kids0) k0 o0 k0 o0 t0 t0 kids0 kids0 A0 A0 c0 c0 _ (Nat.le_refl _) s0 s0 h.k0 h.k0).mono ?_
    rintro e u ⟨rfl, hb⟩
    exact ⟨congrArg (fun z : Int => Ending.returned (.int .i64 z)) (cmp1_self _ _ _ _), h.below hb⟩)
  have E01 : Hid (∀ X, P3 w X g5 g6 g7 k0 o0 t0 kids0 A0 c0 k1 o1 t1 kids1 A1 c1 k2 o2 t2 kids2 A2 c2 → Calls Tryd.prog 20 #[.agg #[.int .i64 k0, .string ⟨t0.toArray⟩, .int .i64 o0, .slice A0 kids0.len c0], .agg #[.int .i64 k1, .string ⟨t1.toArray⟩, .int .i64 o1, .slice A1 kids1.len c1]] X fun e u => e = .returned (.bool (x == 0)) ∧ P3 w u g5 g6 g7 k0 o0 t0 kids0 A0 c0 k1 o1 t1 kids1 A1 c1 k2 o2 t2 kids2 A2 c2) := Lib.hid (by
    intro X h
    refine (equalT_any k0 o0 k1 o1 t0 t1 kids0 kids1 A0 A1 c0 c1 _ s0 s1 h.k0 h.k1).mono ?_
    rintro e u ⟨rfl, hb⟩
    exact ⟨by rw [hx], h.below hb⟩)
  clear hx hy hz
  have HT := Lib.hid hT
  have HU := Lib.hid hU
  have HX := Lib.hid bx
  clear hT hU bx s0 s1 s2
  have HPn := Lib.hid (hP.below (below_drew W5))
  obtain ⟨p0, p1, p2, p3, b0, b1, b2, b3, d0, d1, d2, d3⟩ := hP.cells
  clear hP
  go_cut [10, 11, 12] (fun s10 s11 s12 wx => s10 = .int .i64 x ∧ s11 = .int .i64 y ∧ s12 = .int .i64 z ∧ P3 w wx g5 g6 g7 k0 o0 t0 kids0 A0 c0 k1 o1 t1 kids1 A1 c1 k2 o2 t2 kids2 A2 c2)
  case first =>
    go_region_held3 (fun X => X.cell? ⟨g5, 0, none⟩ = some (.int .i64 k0) ∧ X.cell? ⟨g5, 1, none⟩ = some (.string ⟨t0.toArray⟩) ∧ X.cell? ⟨g5, 2, none⟩ = some (.int .i64 o0) ∧ X.cell? ⟨g5, 3, none⟩ = some (.slice A0 kids0.len c0) ∧ X.cell? ⟨g6, 0, none⟩ = some (.int .i64 k1) ∧ X.cell? ⟨g6, 1, none⟩ = some (.string ⟨t1.toArray⟩) ∧ X.cell? ⟨g6, 2, none⟩ = some (.int .i64 o1) ∧ X.cell? ⟨g6, 3, none⟩ = some (.slice A1 kids1.len c1) ∧ X.cell? ⟨g7, 0, none⟩ = some (.int .i64 k2) ∧ X.cell? ⟨g7, 1, none⟩ = some (.string ⟨t2.toArray⟩) ∧ X.cell? ⟨g7, 2, none⟩ = some (.int .i64 o2) ∧ X.cell? ⟨g7, 3, none⟩ = some (.slice A2 kids2.len c2)) (go_keep)
      (first
        | (go_at_call 28; (with_reducible refine (C01.out _ HPn.out).mono ?_); rintro e u ⟨rfl, hp⟩; have HPn := Lib.hid hp; clear hp; obtain ⟨p0, p1, p2, p3, b0, b1, b2, b3, d0, d1, d2, d3⟩ := HPn.out.cells)
        | (go_at_call 28; (with_reducible refine (C12.out _ HPn.out).mono ?_); rintro e u ⟨rfl, hp⟩; have HPn := Lib.hid hp; clear hp; obtain ⟨p0, p1, p2, p3, b0, b1, b2, b3, d0, d1, d2, d3⟩ := HPn.out.cells)
        | (go_at_call 28; (with_reducible refine (C02.out _ HPn.out).mono ?_); rintro e u ⟨rfl, hp⟩; have HPn := Lib.hid hp; clear hp; obtain ⟨p0, p1, p2, p3, b0, b1, b2, b3, d0, d1, d2, d3⟩ := HPn.out.cells))
    all_goals
      go_wp2_with (fail)
      go_meet
      exact ⟨rfl, rfl, rfl, HPn.out⟩
  case rest =>
  clear p0 p1 p2 p3 b0 b1 b2 b3 d0 d1 d2 d3 HPn
  obtain ⟨rfl, rfl, rfl, hP⟩ := hcut
  have HPn := Lib.hid hP
  clear hP
  obtain ⟨p0, p1, p2, p3, b0, b1, b2, b3, d0, d1, d2, d3⟩ := HPn.out.cells
  have hw : IntKind.i64.wrap (-x) = -x := by
    have := HX.out
    exact (IntKind.wrap_i64 _).trans (by omega)
  have hZ1 := HT.out.1
  have hZ2 := HU.out.1
  rcases (show x < 0 ∨ x = 0 ∨ 0 < x by omega) with hx0 | hx0 | hx0
  · rcases (show y < 0 ∨ y = 0 ∨ 0 < y by omega) with hy0 | hy0 | hy0
    · have dx1 : decide ((0 : Int) < x) = false := by rw [decide_eq_false_iff_not]; omega
      have dx2 : decide (x < (0 : Int)) = true := by rw [decide_eq_true_eq]; omega
      have dy1 : decide ((0 : Int) < y) = false := by rw [decide_eq_false_iff_not]; omega
      have dy2 : decide (y < (0 : Int)) = true := by rw [decide_eq_true_eq]; omega
      have dz1 : decide (z ≤ (0 : Int)) = true := by rw [decide_eq_true_eq]; omega
      clear hZ1 hZ2 hx0 hy0
      go_wp2_with (first
        | (go_at_call 11; refine (check2_any _).mono ?_; rintro e u ⟨rfl, hb⟩; have HPn := Lib.hid (HPn.out.below hb); clear hb; obtain ⟨a0, a1, a2, a3, b0, b1, b2, b3, d0, d1, d2, d3⟩ := HPn.out.cells)
        | (go_at_call 29; (with_reducible refine (R01.out _ HPn.out).mono ?_); rintro e u ⟨rfl, hp⟩; have HPn := Lib.hid hp; clear hp; obtain ⟨a0, a1, a2, a3, b0, b1, b2, b3, d0, d1, d2, d3⟩ := HPn.out.cells)
        | (go_at_call 28; (with_reducible refine (C10.out _ HPn.out).mono ?_); rintro e u ⟨rfl, hp⟩; have HPn := Lib.hid hp; clear hp; obtain ⟨a0, a1, a2, a3, b0, b1, b2, b3, d0, d1, d2, d3⟩ := HPn.out.cells)
        | (go_at_call 28; (with_reducible refine (C00.out _ HPn.out).mono ?_); rintro e u ⟨rfl, hp⟩; have HPn := Lib.hid hp; clear hp; obtain ⟨a0, a1, a2, a3, b0, b1, b2, b3, d0, d1, d2, d3⟩ := HPn.out.cells)
        | (go_at_call 20; (with_reducible refine (E01.out _ HPn.out).mono ?_); rintro e u ⟨rfl, hp⟩; have HPn := Lib.hid hp; clear hp; obtain ⟨a0, a1, a2, a3, b0, b1, b2, b3, d0, d1, d2, d3⟩ := HPn.out.cells))
      go_ret
      exact ⟨rfl, HPn.out.bel⟩
    · have dx1 : decide ((0 : Int) < x) = false := by rw [decide_eq_false_iff_not]; omega
      have dx2 : decide (x < (0 : Int)) = true := by rw [decide_eq_true_eq]; omega
      have dy1 : decide ((0 : Int) < y) = false := by rw [decide_eq_false_iff_not]; omega
      have dy2 : decide (y < (0 : Int)) = false := by rw [decide_eq_false_iff_not]; omega
      have dz1 : decide (z ≤ (0 : Int)) = true := by rw [decide_eq_true_eq]; omega
      clear hZ1 hZ2 hx0 hy0
      go_wp2_with (first
        | (go_at_call 11; refine (check2_any _).mono ?_; rintro e u ⟨rfl, hb⟩; have HPn := Lib.hid (HPn.out.below hb); clear hb; obtain ⟨a0, a1, a2, a3, b0, b1, b2, b3, d0, d1, d2, d3⟩ := HPn.out.cells)
        | (go_at_call 29; (with_reducible refine (R01.out _ HPn.out).mono ?_); rintro e u ⟨rfl, hp⟩; have HPn := Lib.hid hp; clear hp; obtain ⟨a0, a1, a2, a3, b0, b1, b2, b3, d0, d1, d2, d3⟩ := HPn.out.cells)
        | (go_at_call 28; (with_reducible refine (C10.out _ HPn.out).mono ?_); rintro e u ⟨rfl, hp⟩; have HPn := Lib.hid hp; clear hp; obtain ⟨a0, a1, a2, a3, b0, b1, b2, b3, d0, d1, d2, d3⟩ := HPn.out.cells)
        | (go_at_call 28; (with_reducible refine (C00.out _ HPn.out).mono ?_); rintro e u ⟨rfl, hp⟩; have HPn := Lib.hid hp; clear hp; obtain ⟨a0, a1, a2, a3, b0, b1, b2, b3, d0, d1, d2, d3⟩ := HPn.out.cells)
        | (go_at_call 20; (with_reducible refine (E01.out _ HPn.out).mono ?_); rintro e u ⟨rfl, hp⟩; have HPn := Lib.hid hp; clear hp; obtain ⟨a0, a1, a2, a3, b0, b1, b2, b3, d0, d1, d2, d3⟩ := HPn.out.cells))
      go_ret
      exact ⟨rfl, HPn.out.bel⟩
    · have dx1 : decide ((0 : Int) < x) = false := by rw [decide_eq_false_iff_not]; omega
      have dx2 : decide (x < (0 : Int)) = true := by rw [decide_eq_true_eq]; omega
      have dy1 : decide ((0 : Int) < y) = true := by rw [decide_eq_true_eq]; omega
      have dy2 : decide (y < (0 : Int)) = false := by rw [decide_eq_false_iff_not]; omega
      clear hZ1 hZ2 hx0 hy0
      go_wp2_with (first
        | (go_at_call 11; refine (check2_any _).mono ?_; rintro e u ⟨rfl, hb⟩; have HPn := Lib.hid (HPn.out.below hb); clear hb; obtain ⟨a0, a1, a2, a3, b0, b1, b2, b3, d0, d1, d2, d3⟩ := HPn.out.cells)
        | (go_at_call 29; (with_reducible refine (R01.out _ HPn.out).mono ?_); rintro e u ⟨rfl, hp⟩; have HPn := Lib.hid hp; clear hp; obtain ⟨a0, a1, a2, a3, b0, b1, b2, b3, d0, d1, d2, d3⟩ := HPn.out.cells)
        | (go_at_call 28; (with_reducible refine (C10.out _ HPn.out).mono ?_); rintro e u ⟨rfl, hp⟩; have HPn := Lib.hid hp; clear hp; obtain ⟨a0, a1, a2, a3, b0, b1, b2, b3, d0, d1, d2, d3⟩ := HPn.out.cells)
        | (go_at_call 28; (with_reducible refine (C00.out _ HPn.out).mono ?_); rintro e u ⟨rfl, hp⟩; have HPn := Lib.hid hp; clear hp; obtain ⟨a0, a1, a2, a3, b0, b1, b2, b3, d0, d1, d2, d3⟩ := HPn.out.cells)
        | (go_at_call 20; (with_reducible refine (E01.out _ HPn.out).mono ?_); rintro e u ⟨rfl, hp⟩; have HPn := Lib.hid hp; clear hp; obtain ⟨a0, a1, a2, a3, b0, b1, b2, b3, d0, d1, d2, d3⟩ := HPn.out.cells))
      go_ret
      exact ⟨rfl, HPn.out.bel⟩
  · rcases (show y < 0 ∨ y = 0 ∨ 0 < y by omega) with hy0 | hy0 | hy0
    · have dx1 : decide ((0 : Int) < x) = false := by rw [decide_eq_false_iff_not]; omega
      have dx2 : decide (x < (0 : Int)) = false := by rw [decide_eq_false_iff_not]; omega
      have dy1 : decide ((0 : Int) < y) = false := by rw [decide_eq_false_iff_not]; omega
      have dy2 : decide (y < (0 : Int)) = true := by rw [decide_eq_true_eq]; omega
      have dz1 : decide (z ≤ (0 : Int)) = true := by rw [decide_eq_true_eq]; omega
      clear hZ1 hZ2 hx0 hy0
      go_wp2_with (first
        | (go_at_call 11; refine (check2_any _).mono ?_; rintro e u ⟨rfl, hb⟩; have HPn := Lib.hid (HPn.out.below hb); clear hb; obtain ⟨a0, a1, a2, a3, b0, b1, b2, b3, d0, d1, d2, d3⟩ := HPn.out.cells)
        | (go_at_call 29; (with_reducible refine (R01.out _ HPn.out).mono ?_); rintro e u ⟨rfl, hp⟩; have HPn := Lib.hid hp; clear hp; obtain ⟨a0, a1, a2, a3, b0, b1, b2, b3, d0, d1, d2, d3⟩ := HPn.out.cells)
        | (go_at_call 28; (with_reducible refine (C10.out _ HPn.out).mono ?_); rintro e u ⟨rfl, hp⟩; have HPn := Lib.hid hp; clear hp; obtain ⟨a0, a1, a2, a3, b0, b1, b2, b3, d0, d1, d2, d3⟩ := HPn.out.cells)
        | (go_at_call 28; (with_reducible refine (C00.out _ HPn.out).mono ?_); rintro e u ⟨rfl, hp⟩; have HPn := Lib.hid hp; clear hp; obtain ⟨a0, a1, a2, a3, b0, b1, b2, b3, d0, d1, d2, d3⟩ := HPn.out.cells)
        | (go_at_call 20; (with_reducible refine (E01.out _ HPn.out).mono ?_); rintro e u ⟨rfl, hp⟩; have HPn := Lib.hid hp; clear hp; obtain ⟨a0, a1, a2, a3, b0, b1, b2, b3, d0, d1, d2, d3⟩ := HPn.out.cells))
      go_ret
      exact ⟨rfl, HPn.out.bel⟩
    · have dx1 : decide ((0 : Int) < x) = false := by rw [decide_eq_false_iff_not]; omega
      have dx2 : decide (x < (0 : Int)) = false := by rw [decide_eq_false_iff_not]; omega
      have dy1 : decide ((0 : Int) < y) = false := by rw [decide_eq_false_iff_not]; omega
      have dy2 : decide (y < (0 : Int)) = false := by rw [decide_eq_false_iff_not]; omega
      have dz1 : decide (z ≤ (0 : Int)) = true := by rw [decide_eq_true_eq]; omega
      have dz2 : decide ((0 : Int) ≤ z) = true := by rw [decide_eq_true_eq]; omega
      clear hZ1 hZ2 hx0 hy0
      go_wp2_with (first
        | (go_at_call 11; refine (check2_any _).mono ?_; rintro e u ⟨rfl, hb⟩; have HPn := Lib.hid (HPn.out.below hb); clear hb; obtain ⟨a0, a1, a2, a3, b0, b1, b2, b3, d0, d1, d2, d3⟩ := HPn.out.cells)
        | (go_at_call 29; (with_reducible refine (R01.out _ HPn.out).mono ?_); rintro e u ⟨rfl, hp⟩; have HPn := Lib.hid hp; clear hp; obtain ⟨a0, a1, a2, a3, b0, b1, b2, b3, d0, d1, d2, d3⟩ := HPn.out.cells)
        | (go_at_call 28; (with_reducible refine (C10.out _ HPn.out).mono ?_); rintro e u ⟨rfl, hp⟩; have HPn := Lib.hid hp; clear hp; obtain ⟨a0, a1, a2, a3, b0, b1, b2, b3, d0, d1, d2, d3⟩ := HPn.out.cells)
        | (go_at_call 28; (with_reducible refine (C00.out _ HPn.out).mono ?_); rintro e u ⟨rfl, hp⟩; have HPn := Lib.hid hp; clear hp; obtain ⟨a0, a1, a2, a3, b0, b1, b2, b3, d0, d1, d2, d3⟩ := HPn.out.cells)
        | (go_at_call 20; (with_reducible refine (E01.out _ HPn.out).mono ?_); rintro e u ⟨rfl, hp⟩; have HPn := Lib.hid hp; clear hp; obtain ⟨a0, a1, a2, a3, b0, b1, b2, b3, d0, d1, d2, d3⟩ := HPn.out.cells))
      go_ret
      exact ⟨rfl, HPn.out.bel⟩
    · have dx1 : decide ((0 : Int) < x) = false := by rw [decide_eq_false_iff_not]; omega
      have dx2 : decide (x < (0 : Int)) = false := by rw [decide_eq_false_iff_not]; omega
      have dy1 : decide ((0 : Int) < y) = true := by rw [decide_eq_true_eq]; omega
      have dy2 : decide (y < (0 : Int)) = false := by rw [decide_eq_false_iff_not]; omega
      have dz2 : decide ((0 : Int) ≤ z) = true := by rw [decide_eq_true_eq]; omega
      clear hZ1 hZ2 hx0 hy0
      go_wp2_with (first
        | (go_at_call 11; refine (check2_any _).mono ?_; rintro e u ⟨rfl, hb⟩; have HPn := Lib.hid (HPn.out.below hb); clear hb; obtain ⟨a0, a1, a2, a3, b0, b1, b2, b3, d0, d1, d2, d3⟩ := HPn.out.cells)
        | (go_at_call 29; (with_reducible refine (R01.out _ HPn.out).mono ?_); rintro e u ⟨rfl, hp⟩; have HPn := Lib.hid hp; clear hp; obtain ⟨a0, a1, a2, a3, b0, b1, b2, b3, d0, d1, d2, d3⟩ := HPn.out.cells)
        | (go_at_call 28; (with_reducible refine (C10.out _ HPn.out).mono ?_); rintro e u ⟨rfl, hp⟩; have HPn := Lib.hid hp; clear hp; obtain ⟨a0, a1, a2, a3, b0, b1, b2, b3, d0, d1, d2, d3⟩ := HPn.out.cells)
        | (go_at_call 28; (with_reducible refine (C00.out _ HPn.out).mono ?_); rintro e u ⟨rfl, hp⟩; have HPn := Lib.hid hp; clear hp; obtain ⟨a0, a1, a2, a3, b0, b1, b2, b3, d0, d1, d2, d3⟩ := HPn.out.cells)
        | (go_at_call 20; (with_reducible refine (E01.out _ HPn.out).mono ?_); rintro e u ⟨rfl, hp⟩; have HPn := Lib.hid hp; clear hp; obtain ⟨a0, a1, a2, a3, b0, b1, b2, b3, d0, d1, d2, d3⟩ := HPn.out.cells))
      go_ret
      exact ⟨rfl, HPn.out.bel⟩
  · rcases (show y < 0 ∨ y = 0 ∨ 0 < y by omega) with hy0 | hy0 | hy0
    · have dx1 : decide ((0 : Int) < x) = true := by rw [decide_eq_true_eq]; omega
      have dx2 : decide (x < (0 : Int)) = false := by rw [decide_eq_false_iff_not]; omega
      have dy1 : decide ((0 : Int) < y) = false := by rw [decide_eq_false_iff_not]; omega
      have dy2 : decide (y < (0 : Int)) = true := by rw [decide_eq_true_eq]; omega
      clear hZ1 hZ2 hx0 hy0
      go_wp2_with (first
        | (go_at_call 11; refine (check2_any _).mono ?_; rintro e u ⟨rfl, hb⟩; have HPn := Lib.hid (HPn.out.below hb); clear hb; obtain ⟨a0, a1, a2, a3, b0, b1, b2, b3, d0, d1, d2, d3⟩ := HPn.out.cells)
        | (go_at_call 29; (with_reducible refine (R01.out _ HPn.out).mono ?_); rintro e u ⟨rfl, hp⟩; have HPn := Lib.hid hp; clear hp; obtain ⟨a0, a1, a2, a3, b0, b1, b2, b3, d0, d1, d2, d3⟩ := HPn.out.cells)
        | (go_at_call 28; (with_reducible refine (C10.out _ HPn.out).mono ?_); rintro e u ⟨rfl, hp⟩; have HPn := Lib.hid hp; clear hp; obtain ⟨a0, a1, a2, a3, b0, b1, b2, b3, d0, d1, d2, d3⟩ := HPn.out.cells)
        | (go_at_call 28; (with_reducible refine (C00.out _ HPn.out).mono ?_); rintro e u ⟨rfl, hp⟩; have HPn := Lib.hid hp; clear hp; obtain ⟨a0, a1, a2, a3, b0, b1, b2, b3, d0, d1, d2, d3⟩ := HPn.out.cells)
        | (go_at_call 20; (with_reducible refine (E01.out _ HPn.out).mono ?_); rintro e u ⟨rfl, hp⟩; have HPn := Lib.hid hp; clear hp; obtain ⟨a0, a1, a2, a3, b0, b1, b2, b3, d0, d1, d2, d3⟩ := HPn.out.cells))
      go_ret
      exact ⟨rfl, HPn.out.bel⟩
    · have dx1 : decide ((0 : Int) < x) = true := by rw [decide_eq_true_eq]; omega
      have dx2 : decide (x < (0 : Int)) = false := by rw [decide_eq_false_iff_not]; omega
      have dy1 : decide ((0 : Int) < y) = false := by rw [decide_eq_false_iff_not]; omega
      have dy2 : decide (y < (0 : Int)) = false := by rw [decide_eq_false_iff_not]; omega
      have dz2 : decide ((0 : Int) ≤ z) = true := by rw [decide_eq_true_eq]; omega
      clear hZ1 hZ2 hx0 hy0
      go_wp2_with (first
        | (go_at_call 11; refine (check2_any _).mono ?_; rintro e u ⟨rfl, hb⟩; have HPn := Lib.hid (HPn.out.below hb); clear hb; obtain ⟨a0, a1, a2, a3, b0, b1, b2, b3, d0, d1, d2, d3⟩ := HPn.out.cells)
        | (go_at_call 29; (with_reducible refine (R01.out _ HPn.out).mono ?_); rintro e u ⟨rfl, hp⟩; have HPn := Lib.hid hp; clear hp; obtain ⟨a0, a1, a2, a3, b0, b1, b2, b3, d0, d1, d2, d3⟩ := HPn.out.cells)
        | (go_at_call 28; (with_reducible refine (C10.out _ HPn.out).mono ?_); rintro e u ⟨rfl, hp⟩; have HPn := Lib.hid hp; clear hp; obtain ⟨a0, a1, a2, a3, b0, b1, b2, b3, d0, d1, d2, d3⟩ := HPn.out.cells)
        | (go_at_call 28; (with_reducible refine (C00.out _ HPn.out).mono ?_); rintro e u ⟨rfl, hp⟩; have HPn := Lib.hid hp; clear hp; obtain ⟨a0, a1, a2, a3, b0, b1, b2, b3, d0, d1, d2, d3⟩ := HPn.out.cells)
        | (go_at_call 20; (with_reducible refine (E01.out _ HPn.out).mono ?_); rintro e u ⟨rfl, hp⟩; have HPn := Lib.hid hp; clear hp; obtain ⟨a0, a1, a2, a3, b0, b1, b2, b3, d0, d1, d2, d3⟩ := HPn.out.cells))
      go_ret
      exact ⟨rfl, HPn.out.bel⟩
    · have dx1 : decide ((0 : Int) < x) = true := by rw [decide_eq_true_eq]; omega
      have dx2 : decide (x < (0 : Int)) = false := by rw [decide_eq_false_iff_not]; omega
      have dy1 : decide ((0 : Int) < y) = true := by rw [decide_eq_true_eq]; omega
      have dy2 : decide (y < (0 : Int)) = false := by rw [decide_eq_false_iff_not]; omega
      have dz2 : decide ((0 : Int) ≤ z) = true := by rw [decide_eq_true_eq]; omega
      clear hZ1 hZ2 hx0 hy0
      go_wp2_with (first
        | (go_at_call 11; refine (check2_any _).mono ?_; rintro e u ⟨rfl, hb⟩; have HPn := Lib.hid (HPn.out.below hb); clear hb; obtain ⟨a0, a1, a2, a3, b0, b1, b2, b3, d0, d1, d2, d3⟩ := HPn.out.cells)
        | (go_at_call 29; (with_reducible refine (R01.out _ HPn.out).mono ?_); rintro e u ⟨rfl, hp⟩; have HPn := Lib.hid hp; clear hp; obtain ⟨a0, a1, a2, a3, b0, b1, b2, b3, d0, d1, d2, d3⟩ := HPn.out.cells)
        | (go_at_call 28; (with_reducible refine (C10.out _ HPn.out).mono ?_); rintro e u ⟨rfl, hp⟩; have HPn := Lib.hid hp; clear hp; obtain ⟨a0, a1, a2, a3, b0, b1, b2, b3, d0, d1, d2, d3⟩ := HPn.out.cells)
        | (go_at_call 28; (with_reducible refine (C00.out _ HPn.out).mono ?_); rintro e u ⟨rfl, hp⟩; have HPn := Lib.hid hp; clear hp; obtain ⟨a0, a1, a2, a3, b0, b1, b2, b3, d0, d1, d2, d3⟩ := HPn.out.cells)
        | (go_at_call 20; (with_reducible refine (E01.out _ HPn.out).mono ?_); rintro e u ⟨rfl, hp⟩; have HPn := Lib.hid hp; clear hp; obtain ⟨a0, a1, a2, a3, b0, b1, b2, b3, d0, d1, d2, d3⟩ := HPn.out.cells))
      go_ret
      exact ⟨rfl, HPn.out.bel⟩
end Go.Proofs.YtpflfbfbjmoggabDoor.TL
