/- tellaw2.TermExamples answers true. No condition. -/
import Derived.Test.YtddfpbcdopcdhaaTck
import Derived.Test.YtddfpbcdopcdhaaSbs
import Derived.Test.YtddfpbcdopcdhaaTeq
import Derived.Test.YtddfpbcdopcdhaaRows
import Derived.ProofKit
set_option linter.unusedVariables false
set_option linter.unusedSimpArgs false
namespace Go.Proofs.Ytddfpbcdopcdhaa
open Go.RowKit Sx

theorem tupleC (A : Option Addr) (n c : Nat) (w : World) : Calls Try.prog 6 #[.slice A n c] w fun e w' => e = .returned (.agg #[.int .i64 3, .string ⟨#[]⟩, .int .i64 0, .slice A n c]) ∧ BH w w' := by
  go_enter Try.func6, Try.ntmps6
  go_wp2_with (fail)
  obtain ⟨m0, m1, m2, m3⟩ := box4 w (.int .i64 3) (.string ⟨#[]⟩) (.int .i64 0) (.slice A n c) 24
  exact bodyPost_ret (v := .agg #[.int .i64 3, .string ⟨#[]⟩, .int .i64 0, .slice A n c]) (by simp [results, Try.results6, go_sem, m0, m1, m2, m3]) rfl ⟨rfl, (Below.refl _ _).alloc (Nat.le_refl _) _⟩
theorem unionTC (A : Option Addr) (n c : Nat) (w : World) : Calls Try.prog 12 #[.slice A n c] w fun e w' => e = .returned (.agg #[.int .i64 4, .string ⟨#[]⟩, .int .i64 0, .slice A n c]) ∧ BH w w' := by
  go_enter Try.func12, Try.ntmps12
  go_wp2_with (fail)
  obtain ⟨m0, m1, m2, m3⟩ := box4 w (.int .i64 4) (.string ⟨#[]⟩) (.int .i64 0) (.slice A n c) 24
  exact bodyPost_ret (v := .agg #[.int .i64 4, .string ⟨#[]⟩, .int .i64 0, .slice A n c]) (by simp [results, Try.results12, go_sem, m0, m1, m2, m3]) rfl ⟨rfl, (Below.refl _ _).alloc (Nat.le_refl _) _⟩
theorem never1C (w : World) : Calls Try.prog 16 #[] w fun e w' => e = .returned (.agg #[.int .i64 1, .string ⟨#[]⟩, .int .i64 0, .slice none 0 0]) ∧ BH w w' := by
  go_enter Try.func16, Try.ntmps16
  go_wp2_with (fail)
  obtain ⟨m0, m1, m2, m3⟩ := box4 w (.int .i64 1) (.string ⟨#[]⟩) (.int .i64 0) (.slice none 0 0) 24
  exact bodyPost_ret (v := .agg #[.int .i64 1, .string ⟨#[]⟩, .int .i64 0, .slice none 0 0]) (by simp [results, Try.results16, go_sem, m0, m1, m2, m3]) rfl ⟨rfl, (Below.refl _ _).alloc (Nat.le_refl _) _⟩

theorem kt0 (X : World) : KT X .nil none 0 := ⟨Nat.le_refl _, [], fun h => absurd h (by simp [Fo.len]), rfl⟩
theorem kt1 {X : World} {g : Nat} {e : TypeId} {k o : Int} {t : List UInt8} {kids : Fo} {A : Option Addr} {c : Nat} (h : X.heap[g]? = some (.cells #[.int .i64 k, .string ⟨t.toArray⟩, .int .i64 o, .slice A kids.len c] e (0, 0))) (hk : KT X kids A c) : KT X (.cons k t kids o .nil) (some ⟨g, 0, none⟩) 1 := by
  obtain ⟨hc, ys, q1, q2⟩ := hk
  refine ⟨Nat.le_refl _, [.int .i64 k, .string ⟨t.toArray⟩, .int .i64 o, .slice A kids.len c], fun _ => ⟨g, 0, rfl, trivial, heap_lt h, fun j u hu => ?_⟩, A, c, ys, [], rfl, hc, q1, q2, rfl⟩
  rw [Nat.zero_add, cell_of_row _ _ j _ _ _ h]
  simpa using hu
theorem kt2 {X : World} {g : Nat} {e : TypeId} {k o k2 o2 : Int} {t t2 : List UInt8} {kids kids2 : Fo} {A A2 : Option Addr} {c c2 : Nat} (h : X.heap[g]? = some (.cells #[.int .i64 k, .string ⟨t.toArray⟩, .int .i64 o, .slice A kids.len c, .int .i64 k2, .string ⟨t2.toArray⟩, .int .i64 o2, .slice A2 kids2.len c2] e (0, 0))) (hk : KT X kids A c) (hk2 : KT X kids2 A2 c2) :
    KT X (.cons k t kids o (.cons k2 t2 kids2 o2 .nil)) (some ⟨g, 0, none⟩) 2 := by
  obtain ⟨hc, ys, q1, q2⟩ := hk
  obtain ⟨hc', ys', q1', q2'⟩ := hk2
  refine ⟨Nat.le_refl _, [.int .i64 k, .string ⟨t.toArray⟩, .int .i64 o, .slice A kids.len c, .int .i64 k2, .string ⟨t2.toArray⟩, .int .i64 o2, .slice A2 kids2.len c2], fun _ => ⟨g, 0, rfl, trivial, heap_lt h, fun j u hu => ?_⟩, A, c, ys, _, rfl, hc, q1, q2, A2, c2, ys', [], rfl, hc', q1', q2', rfl⟩
  rw [Nat.zero_add, cell_of_row _ _ j _ _ _ h]
  simpa using hu
theorem kt3 {X : World} {g : Nat} {e : TypeId} {k o k2 o2 k3 o3 : Int} {t t2 t3 : List UInt8} {kids kids2 kids3 : Fo} {A A2 A3 : Option Addr} {c c2 c3 : Nat} (h : X.heap[g]? = some (.cells #[.int .i64 k, .string ⟨t.toArray⟩, .int .i64 o, .slice A kids.len c, .int .i64 k2, .string ⟨t2.toArray⟩, .int .i64 o2, .slice A2 kids2.len c2, .int .i64 k3, .string ⟨t3.toArray⟩, .int .i64 o3, .slice A3 kids3.len c3] e (0, 0))) (hk : KT X kids A c) (hk2 : KT X kids2 A2 c2) (hk3 : KT X kids3 A3 c3) :
    KT X (.cons k t kids o (.cons k2 t2 kids2 o2 (.cons k3 t3 kids3 o3 .nil))) (some ⟨g, 0, none⟩) 3 := by
  obtain ⟨hc, ys, q1, q2⟩ := hk
  obtain ⟨hc', ys', q1', q2'⟩ := hk2
  obtain ⟨hd, zs, r1, r2⟩ := hk3
  refine ⟨Nat.le_refl _, [.int .i64 k, .string ⟨t.toArray⟩, .int .i64 o, .slice A kids.len c, .int .i64 k2, .string ⟨t2.toArray⟩, .int .i64 o2, .slice A2 kids2.len c2, .int .i64 k3, .string ⟨t3.toArray⟩, .int .i64 o3, .slice A3 kids3.len c3], fun _ => ⟨g, 0, rfl, trivial, heap_lt h, fun j u hu => ?_⟩, A, c, ys, _, rfl, hc, q1, q2, A2, c2, ys', _, rfl, hc', q1', q2', A3, c3, zs, [], rfl, hd, r1, r2, rfl⟩
  rw [Nat.zero_add, cell_of_row _ _ j _ _ _ h]
  simpa using hu

/-- the arguments of the examples -/
def fV : Fo := .cons 5 [] .nil 0 .nil
def fT : Fo := .cons 3 [] fV 0 .nil
def fP : Fo := .cons 5 [] .nil 0 (.cons 5 [] .nil 1 .nil)
def fE : Fo := .cons 0 [] .nil 0 (.cons 2 [80, 97, 105, 114] fP 0 .nil)
def fX : Fo := .cons 5 [] .nil 0 (.cons 5 [] .nil 2 (.cons 6 [] fE 0 .nil))
def fQ : Fo := .cons 5 [] .nil 0 (.cons 2 [73, 110, 116] .nil 0 .nil)
def fF : Fo := .cons 0 [] .nil 0 (.cons 2 [80, 97, 105, 114] fQ 0 .nil)
def fY : Fo := .cons 2 [73, 110, 116] .nil 0 (.cons 5 [] .nil 1 (.cons 6 [] fF 0 .nil))
def tI : Tm := ⟨2, [73, 110, 116], .nil, 0⟩
theorem sub_ex : rep1 (Gs tI) shs 3 [] 0 fX 0 = ⟨3, [], fY, 0⟩ := by kernel_rfl

/-- a term in the block g -/
def At (X : World) (g : Nat) (k : Int) (t : List UInt8) (f : Fo) : Prop := ∃ A c, X.heap[g]? = some (.cells #[.int .i64 k, .string ⟨t.toArray⟩, .int .i64 0, .slice A f.len c] 24 (0, 0)) ∧ KT X f A c
theorem At.bh {X Y : World} {g : Nat} {k : Int} {t : List UInt8} {f : Fo} (h : At X g k t f) (hb : BH X Y) : At Y g k t f := by
  obtain ⟨A, c, h1, h2⟩ := h
  exact ⟨A, c, (Below.block hb _ (heap_lt h1)).trans h1, h2.below hb⟩

theorem vBox (X : World) (A : Option Addr) (c : Nat) (h : KT X fV A c) : Calls Try.prog 11 #[.agg #[.int .i64 2, .string ⟨#[66, 111, 120]⟩, .int .i64 0, .slice A 1 c]] X fun e u => e = .returned (.int .i64 0) ∧ BH X u :=
  (validate_any 2 0 [66, 111, 120] fV A c X (by decide) h (by decide) ⟨by decide, trivial, trivial⟩).mono fun e u h => ⟨h.1, h.2⟩
theorem vBad (X : World) (A : Option Addr) (c : Nat) (h : KT X fT A c) : Calls Try.prog 11 #[.agg #[.int .i64 2, .string ⟨#[66, 111, 120]⟩, .int .i64 0, .slice A 1 c]] X fun e u => e = .returned (.int .i64 2) ∧ BH X u :=
  (validate_any 2 0 [66, 111, 120] fT A c X (by decide) h (by decide) ⟨by decide, ⟨by decide, trivial, trivial⟩, trivial⟩).mono fun e u h => ⟨h.1, h.2⟩
theorem vTup (X : World) : Calls Try.prog 11 #[.agg #[.int .i64 2, .string ⟨#[116, 117, 112, 108, 101]⟩, .int .i64 0, .slice none 0 0]] X fun e u => e = .returned (.int .i64 2) ∧ BH X u :=
  (validate_any 2 0 [116, 117, 112, 108, 101] .nil none 0 X (by decide) (kt0 _) (by decide) trivial).mono fun e u h => ⟨h.1, h.2⟩
theorem vUni (X : World) (A : Option Addr) (c : Nat) (h : KT X (.cons 0 [] .nil 0 .nil) A c) : Calls Try.prog 11 #[.agg #[.int .i64 4, .string ⟨#[]⟩, .int .i64 0, .slice A 1 c]] X fun e u => e = .returned (.int .i64 2) ∧ BH X u :=
  (validate_any 4 0 [] (.cons 0 [] .nil 0 .nil) A c X (by decide) h (by decide) ⟨by decide, trivial, trivial⟩).mono fun e u h => ⟨h.1, h.2⟩
theorem vExi (X : World) (A : Option Addr) (c : Nat) (h : KT X (.cons 5 [] .nil 0 (.cons 0 [] .nil 0 .nil)) A c) : Calls Try.prog 11 #[.agg #[.int .i64 6, .string ⟨#[]⟩, .int .i64 0, .slice A 2 c]] X fun e u => e = .returned (.int .i64 2) ∧ BH X u :=
  (validate_any 6 0 [] (.cons 5 [] .nil 0 (.cons 0 [] .nil 0 .nil)) A c X (by decide) h (by decide) ⟨by decide, trivial, by decide, trivial, trivial⟩).mono fun e u h => ⟨h.1, h.2⟩
theorem vSev (X : World) : Calls Try.prog 11 #[.agg #[.int .i64 7, .string ⟨#[]⟩, .int .i64 0, .slice none 0 0]] X fun e u => e = .returned (.int .i64 2) ∧ BH X u :=
  (validate_any 7 0 [] .nil none 0 X (by decide) (kt0 _) (by decide) trivial).mono fun e u h => ⟨h.1, h.2⟩
theorem eqY (X : World) (A A' : Option Addr) (c c' : Nat) (h : KT X fY A c) (h' : KT X fY A' c') : Calls Try.prog 13 #[.agg #[.int .i64 3, .string ⟨#[]⟩, .int .i64 0, .slice A fY.len c], .agg #[.int .i64 3, .string ⟨#[]⟩, .int .i64 0, .slice A' fY.len c']] X fun e u => e = .returned (.bool true) ∧ BH X u := by
  refine (equalT_any 3 0 3 0 [] [] fY fY A A' c c' X (by decide) (by decide) h h').mono ?_
  rintro e u ⟨rfl, hb⟩
  exact ⟨by rw [cmp1_self]; rfl, hb⟩
theorem plBox (X : World) (A : Option Addr) (c : Nat) (h : KT X (.cons 2 [66, 111, 120] fV 0 .nil) A c) : Calls Try.prog 14 #[.agg #[.int .i64 2, .string ⟨#[66, 111, 120]⟩, .int .i64 0, .slice A 1 c]] X fun e u => e = .returned (.bool true) ∧ BH X u :=
  (isPlain_any 2 0 [66, 111, 120] (.cons 2 [66, 111, 120] fV 0 .nil) A c X (by decide) h).mono fun e u h => ⟨h.1, h.2⟩
theorem plTup (X : World) (A : Option Addr) (c : Nat) (h : KT X fV A c) : Calls Try.prog 14 #[.agg #[.int .i64 3, .string ⟨#[]⟩, .int .i64 0, .slice A 1 c]] X fun e u => e = .returned (.bool false) ∧ BH X u :=
  (isPlain_any 3 0 [] fV A c X (by decide) h).mono fun e u h => ⟨h.1, h.2⟩
theorem cmpAN (X : World) : Calls Try.prog 15 #[.agg #[.int .i64 0, .string ⟨#[]⟩, .int .i64 0, .slice none 0 0], .agg #[.int .i64 1, .string ⟨#[]⟩, .int .i64 0, .slice none 0 0]] X fun e u => e = .returned (.int .i64 (-1)) ∧ BH X u :=
  (compare_any 0 0 0 1 0 [] [] .nil .nil none none 0 0 X (Nat.le_refl _) (by decide) (by decide) (kt0 _) (kt0 _)).mono fun e u h => ⟨h.1, h.2⟩
theorem subX (X : World) (A : Option Addr) (c : Nat) (h : KT X fX A c) : Calls Try.prog 7 #[.agg #[.int .i64 3, .string ⟨#[]⟩, .int .i64 0, .slice A 3 c], .agg #[.int .i64 2, .string ⟨#[73, 110, 116]⟩, .int .i64 0, .slice none 0 0]] X fun e u => ∃ A' c', e = .returned (.agg #[.int .i64 3, .string ⟨#[]⟩, .int .i64 0, .slice A' fY.len c']) ∧ KT u fY A' c' ∧ BH X u := by
  have hS := substitute_any 3 3 0 [] fX A c tI none 0 X (by decide) (by decide) (by decide) (wid_of_size (by decide)) (by decide) h (kt0 _) (by kernel_rfl)
  rw [sub_ex] at hS
  refine hS.mono ?_
  rintro e u ⟨A', c', h1, h2, h3⟩
  exact ⟨A', c', h1, h2.kt, h3⟩

set_option maxHeartbeats 8000000 in
set_option maxRecDepth 100000 in
theorem examples_walk (w : World) : Calls Try.prog 3 #[] w fun e w' => e = .returned (.bool true) ∧ Below w.heap.size w w' := by
  go_enter Try.func3, Try.ntmps3
  go_wp2_with (fail)
  refine (varC _ _).mono ?_
  rintro e u1 ⟨rfl, h1⟩
  have hA := heap_alloc_new u1 (.cells #[.int .i64 5, .string ⟨#[]⟩, .int .i64 0, .slice none 0 0] 24)
  have f1 := bh_alloc h1 (.cells #[.int .i64 5, .string ⟨#[]⟩, .int .i64 0, .slice none 0 0] 24)
  go_wp2_with (fail)
  refine (namedC _ _ _ _ _).mono ?_
  rintro e u2 ⟨rfl, h2⟩
  have hk := kt1 (k := 5) (t := []) (o := 0) (kids := .nil) (A := none) (c := 0) ((Below.block h2 _ (heap_lt hA)).trans hA) (kt0 _)
  have hb := BH.trans f1 h2
  obtain ⟨gA, hgA⟩ : ∃ gA, u1.heap.size = gA := ⟨_, rfl⟩
  rw [hgA] at hk ⊢
  clear hgA hA f1 h2 h1
  go_upto_region 2 with (fail)
  refine gen_wp _ (fun X => BH w X ∧ At X u2.heap.size 2 [66, 111, 120] fV) ?_ ?_
  · have f1 := bh_alloc (BH.refl u2) (.cells #[.int .i64 2, .string ⟨#[66, 111, 120]⟩, .int .i64 0, .slice (some ⟨gA, 0, none⟩) 1 1] 24)
    exact ⟨BH.trans hb f1, _, _, heap_alloc_new u2 _, hk.below f1⟩
  rintro X1 ⟨hb1, hat1⟩
  obtain ⟨g1, hg1⟩ : ∃ g1, u2.heap.size = g1 := ⟨_, rfl⟩
  rw [hg1] at hat1 ⊢
  clear hg1 hk hb
  have HQ1 := Lib.hid (And.intro hb1 hat1)
  clear hb1 hat1
  go_wp2_with (fail)
  refine (varC _ _).mono ?_
  rintro e u1 ⟨rfl, h1⟩
  have hA := heap_alloc_new u1 (.cells #[.int .i64 5, .string ⟨#[]⟩, .int .i64 0, .slice none 0 0] 24)
  have f1 := bh_alloc h1 (.cells #[.int .i64 5, .string ⟨#[]⟩, .int .i64 0, .slice none 0 0] 24)
  go_wp2_with (fail)
  refine (tupleC _ _ _ _).mono ?_
  rintro e u2 ⟨rfl, h2⟩
  have hk := kt1 (k := 5) (t := []) (o := 0) (kids := .nil) (A := none) (c := 0) ((Below.block h2 _ (heap_lt hA)).trans hA) (kt0 _)
  have hb := BH.trans f1 h2
  obtain ⟨gA, hgA⟩ : ∃ gA, u1.heap.size = gA := ⟨_, rfl⟩
  rw [hgA] at hk ⊢
  clear hgA hA f1 h2 h1
  have hA := heap_alloc_new u2 (.cells #[.int .i64 3, .string ⟨#[]⟩, .int .i64 0, .slice (some ⟨gA, 0, none⟩) 1 1] 24)
  have f2 := bh_alloc (BH.refl u2) (.cells #[.int .i64 3, .string ⟨#[]⟩, .int .i64 0, .slice (some ⟨gA, 0, none⟩) 1 1] 24)
  go_wp2_with (fail)
  refine (namedC _ _ _ _ _).mono ?_
  rintro e u3 ⟨rfl, h3⟩
  have hk2 := kt1 (k := 3) (t := []) (o := 0) (kids := fV) (A := some ⟨gA, 0, none⟩) (c := 1) ((Below.block h3 _ (heap_lt hA)).trans hA) (hk.below (BH.trans f2 h3))
  have hb' := BH.trans hb (BH.trans f2 h3)
  obtain ⟨gB, hgB⟩ : ∃ gB, u2.heap.size = gB := ⟨_, rfl⟩
  rw [hgB] at hk2 ⊢
  clear hgB hA f2 h3 hk hb
  go_upto_region 3 with (fail)
  refine gen_wp _ (fun X => BH w X ∧ At X g1 2 [66, 111, 120] fV ∧ At X u3.heap.size 2 [66, 111, 120] fT) ?_ ?_
  · have f1 := bh_alloc (BH.refl u3) (.cells #[.int .i64 2, .string ⟨#[66, 111, 120]⟩, .int .i64 0, .slice (some ⟨gB, 0, none⟩) 1 1] 24)
    exact ⟨BH.trans HQ1.out.1 (BH.trans hb' f1), HQ1.out.2.bh (BH.trans hb' f1), _, _, heap_alloc_new u3 _, hk2.below f1⟩
  rintro X2 ⟨hb1, hat1, hat2⟩
  obtain ⟨g2, hg2⟩ : ∃ g2, u3.heap.size = g2 := ⟨_, rfl⟩
  rw [hg2] at hat2 ⊢
  clear hg2 hk2 hb' HQ1
  have HQ2 := Lib.hid (And.intro hb1 (And.intro hat1 hat2))
  clear hb1 hat1 hat2
  -- region 3
  go_wp2_with (fail)
  refine (varC _ _).mono ?_
  rintro e v1 ⟨rfl, h1⟩
  have H1 := Lib.hid h1
  clear h1
  go_wp2_with (fail)
  refine (varC _ _).mono ?_
  rintro e v2 ⟨rfl, h2⟩
  have H2 := Lib.hid (BH.trans H1.out h2)
  clear h2
  go_wp2_with (fail)
  refine (anyC _).mono ?_
  rintro e v3 ⟨rfl, h3⟩
  have H3 := Lib.hid (BH.trans H2.out h3)
  clear h3
  go_wp2_with (fail)
  refine (varC _ _).mono ?_
  rintro e v4 ⟨rfl, h4⟩
  have H4 := Lib.hid (BH.trans H3.out h4)
  clear h4
  go_wp2_with (fail)
  refine (varC _ _).mono ?_
  rintro e v5 ⟨rfl, h5⟩
  have hA := heap_alloc_new v5 (.cells #[.int .i64 5, .string ⟨#[]⟩, .int .i64 0, .slice none 0 0, .int .i64 5, .string ⟨#[]⟩, .int .i64 1, .slice none 0 0] 24)
  have f5 := bh_alloc (BH.trans H4.out h5) (.cells #[.int .i64 5, .string ⟨#[]⟩, .int .i64 0, .slice none 0 0, .int .i64 5, .string ⟨#[]⟩, .int .i64 1, .slice none 0 0] 24)
  clear h5 H1 H2 H3 H4
  go_wp2_with (fail)
  refine (namedC _ _ _ _ _).mono ?_
  rintro e v6 ⟨rfl, h6⟩
  have hk := kt2 (k := 5) (t := []) (o := 0) (kids := .nil) (A := none) (c := 0) (k2 := 5) (t2 := []) (o2 := 1) (kids2 := .nil) (A2 := none) (c2 := 0) ((Below.block h6 _ (heap_lt hA)).trans hA) (kt0 _) (kt0 _)
  have hb := BH.trans f5 h6
  obtain ⟨gA, hgA⟩ : ∃ gA, v5.heap.size = gA := ⟨_, rfl⟩
  rw [hgA] at hk ⊢
  clear hgA hA f5 h6
  go_wp2_with (fail)
  refine (existsC _ _ _ _ _ _ _ _ _ _ _ _ _).mono ?_
  rintro e v7 ⟨gB, rfl, hB, h7⟩
  have hk2 := kt2 (k := 0) (t := []) (o := 0) (kids := .nil) (A := none) (c := 0) (k2 := 2) (t2 := [80, 97, 105, 114]) (o2 := 0) (kids2 := fP) (A2 := some ⟨gA, 0, none⟩) (c2 := 2) hB (kt0 _) (hk.below h7)
  have hb' := BH.trans hb h7
  clear hk hb hB h7
  have hA := heap_alloc_new v7 (.cells #[.int .i64 5, .string ⟨#[]⟩, .int .i64 0, .slice none 0 0, .int .i64 5, .string ⟨#[]⟩, .int .i64 2, .slice none 0 0, .int .i64 6, .string ⟨#[]⟩, .int .i64 0, .slice (some ⟨gB, 0, none⟩) 2 2] 24)
  have f7 := bh_alloc (BH.refl v7) (.cells #[.int .i64 5, .string ⟨#[]⟩, .int .i64 0, .slice none 0 0, .int .i64 5, .string ⟨#[]⟩, .int .i64 2, .slice none 0 0, .int .i64 6, .string ⟨#[]⟩, .int .i64 0, .slice (some ⟨gB, 0, none⟩) 2 2] 24)
  go_wp2_with (fail)
  refine (tupleC _ _ _ _).mono ?_
  rintro e v8 ⟨rfl, h8⟩
  have hk := kt3 (k := 5) (t := []) (o := 0) (kids := .nil) (A := none) (c := 0) (k2 := 5) (t2 := []) (o2 := 2) (kids2 := .nil) (A2 := none) (c2 := 0) (k3 := 6) (t3 := []) (o3 := 0) (kids3 := fE) (A3 := some ⟨gB, 0, none⟩) (c3 := 2) ((Below.block h8 _ (heap_lt hA)).trans hA) (kt0 _) (kt0 _) (hk2.below (BH.trans f7 h8))
  have hb := BH.trans hb' (BH.trans f7 h8)
  obtain ⟨gC, hgC⟩ : ∃ gC, v7.heap.size = gC := ⟨_, rfl⟩
  rw [hgC] at hk ⊢
  clear hgC hA f7 h8 hk2 hb'
  go_wp2_with (fail)
  refine (namedC _ _ _ _ _).mono ?_
  rintro e v9 ⟨rfl, h9⟩
  have hk' := hk.below h9
  have hb' := BH.trans hb h9
  clear hk hb h9
  go_wp2_with (fail)
  refine (subX _ _ _ hk').mono ?_
  rintro e v10 ⟨Ax, cx, rfl, hk, h10⟩
  have hb := BH.trans hb' h10
  clear hk' hb' h10
  go_upto_region 4 with (fail)
  refine gen_wp _ (fun X => BH w X ∧ At X g1 2 [66, 111, 120] fV ∧ At X g2 2 [66, 111, 120] fT ∧ At X v10.heap.size 3 [] fY) ?_ ?_
  · have f1 := bh_alloc (BH.refl v10) (.cells #[.int .i64 3, .string ⟨#[]⟩, .int .i64 0, .slice Ax fY.len cx] 24)
    have hB := BH.trans hb f1
    exact ⟨BH.trans HQ2.out.1 hB, HQ2.out.2.1.bh hB, HQ2.out.2.2.bh hB, _, _, heap_alloc_new v10 _, hk.below f1⟩
  rintro X3 ⟨hb1, hat1, hat2, hat3⟩
  obtain ⟨g3, hg3⟩ : ∃ g3, v10.heap.size = g3 := ⟨_, rfl⟩
  rw [hg3] at hat3 ⊢
  clear hg3 hk hb HQ2
  have HQ3 := Lib.hid (And.intro hb1 (And.intro hat1 (And.intro hat2 hat3)))
  clear hb1 hat1 hat2 hat3
  -- region 4
  go_wp2_with (fail)
  refine (namedC _ _ _ _ _).mono ?_
  rintro e v1 ⟨rfl, h1⟩
  have H1 := Lib.hid h1
  clear h1
  go_wp2_with (fail)
  refine (varC _ _).mono ?_
  rintro e v2 ⟨rfl, h2⟩
  have H2 := Lib.hid (BH.trans H1.out h2)
  clear h2
  go_wp2_with (fail)
  refine (anyC _).mono ?_
  rintro e v3 ⟨rfl, h3⟩
  have H3 := Lib.hid (BH.trans H2.out h3)
  clear h3
  go_wp2_with (fail)
  refine (varC _ _).mono ?_
  rintro e v4 ⟨rfl, h4⟩
  have H4 := Lib.hid (BH.trans H3.out h4)
  clear h4
  go_wp2_with (fail)
  refine (namedC _ _ _ _ _).mono ?_
  rintro e v5 ⟨rfl, h5⟩
  have hA := heap_alloc_new v5 (.cells #[.int .i64 5, .string ⟨#[]⟩, .int .i64 0, .slice none 0 0, .int .i64 2, .string ⟨#[73, 110, 116]⟩, .int .i64 0, .slice none 0 0] 24)
  have f5 := bh_alloc (BH.trans H4.out h5) (.cells #[.int .i64 5, .string ⟨#[]⟩, .int .i64 0, .slice none 0 0, .int .i64 2, .string ⟨#[73, 110, 116]⟩, .int .i64 0, .slice none 0 0] 24)
  clear h5 H1 H2 H3 H4
  go_wp2_with (fail)
  refine (namedC _ _ _ _ _).mono ?_
  rintro e v6 ⟨rfl, h6⟩
  have hk := kt2 (k := 5) (t := []) (o := 0) (kids := .nil) (A := none) (c := 0) (k2 := 2) (t2 := [73, 110, 116]) (o2 := 0) (kids2 := .nil) (A2 := none) (c2 := 0) ((Below.block h6 _ (heap_lt hA)).trans hA) (kt0 _) (kt0 _)
  have hb := BH.trans f5 h6
  obtain ⟨gA, hgA⟩ : ∃ gA, v5.heap.size = gA := ⟨_, rfl⟩
  rw [hgA] at hk ⊢
  clear hgA hA f5 h6
  go_wp2_with (fail)
  refine (existsC _ _ _ _ _ _ _ _ _ _ _ _ _).mono ?_
  rintro e v7 ⟨gB, rfl, hB, h7⟩
  have hk2 := kt2 (k := 0) (t := []) (o := 0) (kids := .nil) (A := none) (c := 0) (k2 := 2) (t2 := [80, 97, 105, 114]) (o2 := 0) (kids2 := fQ) (A2 := some ⟨gA, 0, none⟩) (c2 := 2) hB (kt0 _) (hk.below h7)
  have hb' := BH.trans hb h7
  clear hk hb hB h7
  have hA := heap_alloc_new v7 (.cells #[.int .i64 2, .string ⟨#[73, 110, 116]⟩, .int .i64 0, .slice none 0 0, .int .i64 5, .string ⟨#[]⟩, .int .i64 1, .slice none 0 0, .int .i64 6, .string ⟨#[]⟩, .int .i64 0, .slice (some ⟨gB, 0, none⟩) 2 2] 24)
  have f7 := bh_alloc (BH.refl v7) (.cells #[.int .i64 2, .string ⟨#[73, 110, 116]⟩, .int .i64 0, .slice none 0 0, .int .i64 5, .string ⟨#[]⟩, .int .i64 1, .slice none 0 0, .int .i64 6, .string ⟨#[]⟩, .int .i64 0, .slice (some ⟨gB, 0, none⟩) 2 2] 24)
  go_wp2_with (fail)
  refine (tupleC _ _ _ _).mono ?_
  rintro e v8 ⟨rfl, h8⟩
  have hk := kt3 (k := 2) (t := [73, 110, 116]) (o := 0) (kids := .nil) (A := none) (c := 0) (k2 := 5) (t2 := []) (o2 := 1) (kids2 := .nil) (A2 := none) (c2 := 0) (k3 := 6) (t3 := []) (o3 := 0) (kids3 := fF) (A3 := some ⟨gB, 0, none⟩) (c3 := 2) ((Below.block h8 _ (heap_lt hA)).trans hA) (kt0 _) (kt0 _) (hk2.below (BH.trans f7 h8))
  have hb := BH.trans hb' (BH.trans f7 h8)
  obtain ⟨gC, hgC⟩ : ∃ gC, v7.heap.size = gC := ⟨_, rfl⟩
  rw [hgC] at hk ⊢
  clear hgC hA f7 h8 hk2 hb'
  go_upto_region 5 with (fail)
  refine gen_wp _ (fun X => BH w X ∧ At X g1 2 [66, 111, 120] fV ∧ At X g2 2 [66, 111, 120] fT ∧ At X g3 3 [] fY ∧ At X v8.heap.size 3 [] fY) ?_ ?_
  · have f1 := bh_alloc (BH.refl v8) (.cells #[.int .i64 3, .string ⟨#[]⟩, .int .i64 0, .slice (some ⟨gC, 0, none⟩) 3 3] 24)
    have hB := BH.trans hb f1
    exact ⟨BH.trans HQ3.out.1 hB, HQ3.out.2.1.bh hB, HQ3.out.2.2.1.bh hB, HQ3.out.2.2.2.bh hB, _, _, heap_alloc_new v8 _, hk.below f1⟩
  rintro X4 ⟨hb1, hat1, hat2, hat3, hat4⟩
  obtain ⟨g4, hg4⟩ : ∃ g4, v8.heap.size = g4 := ⟨_, rfl⟩
  rw [hg4] at hat4 ⊢
  clear hg4 hk hb HQ3
  have HQ := Lib.hid (fun Y (hY : BH X4 Y) => And.intro (BH.trans hb1 hY) (And.intro (hat1.bh hY) (And.intro (hat2.bh hY) (And.intro (hat3.bh hY) (hat4.bh hY)))))
  clear hb1 hat1 hat2 hat3 hat4
  -- region 5
  go_wp2_with (fail)
  refine (check2_any _).mono ?_
  rintro e w1 ⟨rfl, h1⟩
  have H1 := Lib.hid h1
  clear h1
  obtain ⟨A, c, hd, hk⟩ := (HQ.out _ H1.out).2.1
  obtain ⟨d0, d1, d2, d3, _⟩ := row4 hd
  go_wp2_with (fail)
  refine (vBox _ _ _ hk).mono ?_
  rintro e w2 ⟨rfl, h2⟩
  have H2 := Lib.hid (BH.trans H1.out h2)
  clear h2 hd hk d0 d1 d2 d3 H1
  obtain ⟨A2, c2, hd, hk⟩ := (HQ.out _ H2.out).2.2.1
  obtain ⟨d0, d1, d2, d3, _⟩ := row4 hd
  go_wp2_with (fail)
  refine (vBad _ _ _ hk).mono ?_
  rintro e w3 ⟨rfl, h3⟩
  have H3 := Lib.hid (BH.trans H2.out h3)
  clear h3 hd hk d0 d1 d2 d3 H2
  go_wp2_with (fail)
  refine (namedC _ _ _ _ _).mono ?_
  rintro e w4 ⟨rfl, h4⟩
  have H4 := Lib.hid (BH.trans H3.out h4)
  clear h4 H3
  go_wp2_with (fail)
  refine (vTup _).mono ?_
  rintro e w5 ⟨rfl, h5⟩
  have H5 := Lib.hid (BH.trans H4.out h5)
  clear h5 H4
  go_wp2_with (fail)
  refine (anyC _).mono ?_
  rintro e w6 ⟨rfl, h6⟩
  have hA := heap_alloc_new w6 (.cells #[.int .i64 0, .string ⟨#[]⟩, .int .i64 0, .slice none 0 0] 24)
  have H6 := Lib.hid (bh_alloc (BH.trans H5.out h6) (.cells #[.int .i64 0, .string ⟨#[]⟩, .int .i64 0, .slice none 0 0] 24))
  clear h6 H5
  go_wp2_with (fail)
  refine (unionTC _ _ _ _).mono ?_
  rintro e w7 ⟨rfl, h7⟩
  have hk := kt1 (k := 0) (t := []) (o := 0) (kids := .nil) (A := none) (c := 0) ((Below.block h7 _ (heap_lt hA)).trans hA) (kt0 _)
  have H7 := Lib.hid (BH.trans H6.out h7)
  clear h7 H6 hA
  go_wp2_with (fail)
  refine (vUni _ _ _ hk).mono ?_
  rintro e w8 ⟨rfl, h8⟩
  have H8 := Lib.hid (BH.trans H7.out h8)
  clear h8 H7 hk
  go_wp2_with (fail)
  refine (varC _ _).mono ?_
  rintro e w9 ⟨rfl, h9⟩
  have H9 := Lib.hid (BH.trans H8.out h9)
  clear h9 H8
  go_wp2_with (fail)
  refine (anyC _).mono ?_
  rintro e w10 ⟨rfl, h10⟩
  have H10 := Lib.hid (BH.trans H9.out h10)
  clear h10 H9
  go_wp2_with (fail)
  refine (existsC _ _ _ _ _ _ _ _ _ _ _ _ _).mono ?_
  rintro e w11 ⟨gE, rfl, hE, h11⟩
  have hk := kt2 (k := 5) (t := []) (o := 0) (kids := .nil) (A := none) (c := 0) (k2 := 0) (t2 := []) (o2 := 0) (kids2 := .nil) (A2 := none) (c2 := 0) hE (kt0 _) (kt0 _)
  have H11 := Lib.hid (BH.trans H10.out h11)
  clear h11 H10 hE
  go_wp2_with (fail)
  refine (vExi _ _ _ hk).mono ?_
  rintro e w12 ⟨rfl, h12⟩
  have H12 := Lib.hid (BH.trans H11.out h12)
  clear h12 H11 hk
  go_wp2_with (fail)
  refine (vSev _).mono ?_
  rintro e w13 ⟨rfl, h13⟩
  have H13 := Lib.hid (BH.trans H12.out h13)
  clear h13 H12
  obtain ⟨A3, c3, hd, hk⟩ := (HQ.out _ H13.out).2.2.2.1
  obtain ⟨A4, c4, hf, hl⟩ := (HQ.out _ H13.out).2.2.2.2
  obtain ⟨d0, d1, d2, d3, _⟩ := row4 hd
  obtain ⟨f0, f1, f2, f3, _⟩ := row4 hf
  go_wp2_with (fail)
  refine (eqY _ _ _ _ _ hk hl).mono ?_
  rintro e w14 ⟨rfl, h14⟩
  have H14 := Lib.hid (BH.trans H13.out h14)
  clear h14 H13 hd hk hf hl d0 d1 d2 d3 f0 f1 f2 f3
  obtain ⟨A, c, hd, hk⟩ := (HQ.out _ H14.out).2.1
  obtain ⟨d0, d1, d2, d3, _⟩ := row4 hd
  have hA := heap_alloc_new w14 (.cells #[.int .i64 2, .string ⟨#[66, 111, 120]⟩, .int .i64 0, .slice A fV.len c] 24)
  have H14' := Lib.hid (bh_alloc H14.out (.cells #[.int .i64 2, .string ⟨#[66, 111, 120]⟩, .int .i64 0, .slice A fV.len c] 24))
  have f14 := bh_alloc (BH.refl w14) (.cells #[.int .i64 2, .string ⟨#[66, 111, 120]⟩, .int .i64 0, .slice A fV.len c] 24)
  go_wp2_with (fail)
  refine (namedC _ _ _ _ _).mono ?_
  rintro e w15 ⟨rfl, h15⟩
  have hk2 := kt1 (k := 2) (t := [66, 111, 120]) (o := 0) (kids := fV) (A := A) (c := c) ((Below.block h15 _ (heap_lt hA)).trans hA) (hk.below (BH.trans f14 h15))
  have H15 := Lib.hid (BH.trans H14'.out h15)
  clear h15 H14 H14' f14 hA hk hd d0 d1 d2 d3
  go_wp2_with (fail)
  refine (plBox _ _ _ hk2).mono ?_
  rintro e w16 ⟨rfl, h16⟩
  have H16 := Lib.hid (BH.trans H15.out h16)
  clear h16 H15 hk2
  go_wp2_with (fail)
  refine (varC _ _).mono ?_
  rintro e w17 ⟨rfl, h17⟩
  have hA := heap_alloc_new w17 (.cells #[.int .i64 5, .string ⟨#[]⟩, .int .i64 0, .slice none 0 0] 24)
  have H17 := Lib.hid (bh_alloc (BH.trans H16.out h17) (.cells #[.int .i64 5, .string ⟨#[]⟩, .int .i64 0, .slice none 0 0] 24))
  clear h17 H16
  go_wp2_with (fail)
  refine (tupleC _ _ _ _).mono ?_
  rintro e w18 ⟨rfl, h18⟩
  have hk := kt1 (k := 5) (t := []) (o := 0) (kids := .nil) (A := none) (c := 0) ((Below.block h18 _ (heap_lt hA)).trans hA) (kt0 _)
  have H18 := Lib.hid (BH.trans H17.out h18)
  clear h18 H17 hA
  go_wp2_with (fail)
  refine (plTup _ _ _ hk).mono ?_
  rintro e w19 ⟨rfl, h19⟩
  have H19 := Lib.hid (BH.trans H18.out h19)
  clear h19 H18 hk
  go_wp2_with (fail)
  refine (anyC _).mono ?_
  rintro e w20 ⟨rfl, h20⟩
  have H20 := Lib.hid (BH.trans H19.out h20)
  clear h20 H19
  go_wp2_with (fail)
  refine (never1C _).mono ?_
  rintro e w21 ⟨rfl, h21⟩
  have H21 := Lib.hid (BH.trans H20.out h21)
  clear h21 H20
  go_wp2_with (fail)
  refine (cmpAN _).mono ?_
  rintro e w22 ⟨rfl, h22⟩
  have H22 := Lib.hid (BH.trans H21.out h22)
  clear h22 H21
  go_wp2_with (fail)
  go_ret
  exact ⟨rfl, (HQ.out _ H22.out).1⟩
end Go.Proofs.Ytddfpbcdopcdhaa
