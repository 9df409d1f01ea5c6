/- tellaw3.spoil. No condition but bounded sizes. -/
import Derived.Test.YtpkiheenkpcebaaGreatDoorMbg
import Derived.Test.YtpkiheenkpcebaaGreatDoorMbh
import Derived.Deep.CutBlock
set_option linter.unusedVariables false
set_option linter.unusedSimpArgs false
namespace Go.Proofs.YtpkiheenkpcebaaGreatDoor.Sx
/-- what spoil makes of a declaration -/
def spD (z : Int) (d : De) (n : Int) (nm : List UInt8) (t : Tm) : De :=
  if z = 0 then { d with name := nm } else if z = 1 then { d with arity := n } else if z = 2 then { d with super := t } else if z = 3 then { d with conc := !d.conc }
  else if z = 4 then { d with fields := d.fields ++ [(nm, t)] } else if z = 5 then { d with fields := d.fields ++ d.fields } else if z = 6 then { d with super := ⟨2, [66, 111, 120], .one t.k t.t t.kids t.o, 0⟩ } else if z = 7 then { d with super := ⟨n, [], .nil, 0⟩ } else d
end Go.Proofs.YtpkiheenkpcebaaGreatDoor.Sx
namespace Go.Proofs.YtpkiheenkpcebaaGreatDoor
open Go.RowKit Sx

def SpD (S : Nat → Prop) (d : De) (w : World) (e : Ending) (w' : World) : Prop := ∃ (A F : Option Addr) (c x : Nat), e = .returned (.agg #[.string ⟨d.name.toArray⟩, .int .i64 d.arity, .int .i64 d.super.k, .string ⟨d.super.t.toArray⟩, .int .i64 d.super.o, .slice A d.super.kids.len c, .bool d.conc, .slice F d.fields.length x]) ∧ KS w' S d.super.kids A c ∧ FlS w' S d.fields F x ∧ BH w w'
/-- in blocks of S, but for the three boxes -/
def S3 (N : Nat) (S : Nat → Prop) (y : Nat) : Prop := S y ∧ y ≠ N ∧ y ≠ N + 1 ∧ y ≠ N + 1 + 1
theorem SpD.box {w W : World} {S : Nat → Prop} {d : De} {A F : Option Addr} {c x : Nat} {e : TypeId} {q0 q1 q2 q3 q4 q5 q6 q7 : Value} (hK : KS W (S3 w.heap.size S) d.super.kids A c) (hF : FlS W (S3 w.heap.size S) d.fields F x) (hb : BH w W) :
    SpD S d w (.returned (.agg #[.string ⟨d.name.toArray⟩, .int .i64 d.arity, .int .i64 d.super.k, .string ⟨d.super.t.toArray⟩, .int .i64 d.super.o, .slice A d.super.kids.len c, .bool d.conc, .slice F d.fields.length x]))
      ((((((((W.setCell ⟨w.heap.size + 1 + 1, 0, none⟩ (.string ⟨d.name.toArray⟩)).setCell ⟨w.heap.size + 1 + 1, 1, none⟩ (.int .i64 d.arity)).setCell ⟨w.heap.size + 1 + 1, 2, none⟩ (.int .i64 d.super.k)).setCell ⟨w.heap.size + 1 + 1, 3, none⟩ (.string ⟨d.super.t.toArray⟩)).setCell ⟨w.heap.size + 1 + 1, 4, none⟩ (.int .i64 d.super.o)).setCell ⟨w.heap.size + 1 + 1, 5, none⟩ (.slice A d.super.kids.len c)).setCell ⟨w.heap.size + 1 + 1, 6, none⟩ (.bool d.conc)).setCell ⟨w.heap.size + 1 + 1, 7, none⟩ (.slice F d.fields.length x)) :=
  ⟨A, F, c, x, rfl, hK.keep (by simp [size_set]) fun y hy _ => ⟨s8_far hy.2.2.2 _ _ _ _ _ _ _ _, hy.1⟩, hF.keep (by simp [size_set]) fun y hy _ => ⟨s8_far hy.2.2.2 _ _ _ _ _ _ _ _, hy.1⟩, below_gb_of (BH.refl w) (s8_gb (gb_below hb (some (w.heap.size + 1 + 1))) (by omega) _ _ _ _ _ _ _ _) (by omega)⟩

theorem box3 (w : World) (a b c : Array Value) (ta tb tc : TypeId) : (((w.alloc (.cells a ta)).alloc (.cells b tb)).alloc (.cells c tc)).heap[w.heap.size]? = some (.cells a ta (0, 0)) ∧ (((w.alloc (.cells a ta)).alloc (.cells b tb)).alloc (.cells c tc)).heap[w.heap.size + 1]? = some (.cells b tb (0, 0)) ∧ (((w.alloc (.cells a ta)).alloc (.cells b tb)).alloc (.cells c tc)).heap[w.heap.size + 1 + 1]? = some (.cells c tc (0, 0)) ∧ BH w (((w.alloc (.cells a ta)).alloc (.cells b tb)).alloc (.cells c tc)) := by
  have e1 := heap_alloc_new w (.cells a ta)
  have e2 := heap_alloc_new (w.alloc (.cells a ta)) (.cells b tb)
  have e3 := heap_alloc_new ((w.alloc (.cells a ta)).alloc (.cells b tb)) (.cells c tc)
  have f2 := bh_alloc (BH.refl (w.alloc (.cells a ta))) (.cells b tb)
  have f3 := bh_alloc (BH.refl ((w.alloc (.cells a ta)).alloc (.cells b tb))) (.cells c tc)
  rw [World.size_alloc] at e2
  rw [World.size_alloc, World.size_alloc] at e3
  exact ⟨(Below.block f3 _ (by simp; omega)).trans ((Below.block f2 _ (by simp)).trans e1), (Below.block f3 _ (by simp)).trans e2, e3, bh_alloc (bh_alloc (bh_alloc (BH.refl w) _) _) _⟩

set_option maxHeartbeats 16000000 in
set_option maxRecDepth 100000 in
theorem spoil_any (S : Nat → Prop) (how n : Int) (nm : List UInt8) (nn : List UInt8) (ar k o : Int) (t : List UInt8) (kids : Fo) (cc : Bool) (fs : List (List UInt8 × Tm)) (A F : Option Addr) (c x : Nat) (k2 o2 : Int) (t2 : List UInt8) (kids2 : Fo) (A2 : Option Addr) (c2 : Nat) (w : World)
    (hfl : fs.length ≤ 1048576) (hS : ∀ y, w.heap.size ≤ y → S y) (hK : KS w S kids A c) (hF : FlS w S fs F x) (hK2 : KS w S kids2 A2 c2) :
    Calls Tryz.prog 21 #[.agg #[.string ⟨nn.toArray⟩, .int .i64 ar, .int .i64 k, .string ⟨t.toArray⟩, .int .i64 o, .slice A kids.len c, .bool cc, .slice F fs.length x], .int .i64 how, .int .i64 n, .string ⟨nm.toArray⟩, .agg #[.int .i64 k2, .string ⟨t2.toArray⟩, .int .i64 o2, .slice A2 kids2.len c2]] w
      (SpD S (spD (modI how 9) ⟨nn, ar, ⟨k, t, kids, o⟩, cc, fs⟩ n nm ⟨k2, t2, kids2, o2⟩) w) := by
  obtain ⟨hm0, hm1⟩ := modI_bounds how 9 (by decide)
  obtain ⟨z, hz⟩ : ∃ z, modI how 9 = z := ⟨_, rfl⟩
  have hMod := fun W => mod_any how 9 W (by decide) (by decide)
  rw [hz] at hm0 hm1 ⊢
  simp only [hz] at hMod
  have HMod := Lib.hid hMod
  have hk3 : ∀ X, BH w X → KS X (S3 w.heap.size S) kids A c ∧ FlS X (S3 w.heap.size S) fs F x ∧ KS X (S3 w.heap.size S) kids2 A2 c2 := fun X hX => by
    have hkk : ∀ y, S y → y < w.heap.size → X.heap[y]? = w.heap[y]? ∧ S3 w.heap.size S y := fun y hy hl => ⟨Below.block hX y hl, hy, by omega, by omega, by omega⟩
    exact ⟨hK.keep (Below.size hX) hkk, hF.keep (Below.size hX) hkk, hK2.keep (Below.size hX) hkk⟩
  have HK := Lib.hid hk3
  have HS := Lib.hid hS
  clear hMod hz hk3 hK hF hK2 hS
  go_enter Tryz.func21, Tryz.ntmps21
  go_wp2_with (fail)
  refine (HMod.out _).mono ?_
  rintro e u ⟨rfl, rfl⟩
  go_upto_block 0 with (fail)
  refine gen_wp _ (fun X => X.heap[w.heap.size]? = some (.cells #[.string ⟨nn.toArray⟩, .int .i64 ar, .int .i64 k, .string ⟨t.toArray⟩, .int .i64 o, .slice A kids.len c, .bool cc, .slice F fs.length x] 37 (0, 0)) ∧ X.heap[w.heap.size + 1]? = some (.cells #[.int .i64 k2, .string ⟨t2.toArray⟩, .int .i64 o2, .slice A2 kids2.len c2] 34 (0, 0)) ∧ X.heap[w.heap.size + 1 + 1]? = some (.cells #[.string ⟨#[]⟩, .int .i64 0, .int .i64 0, .string ⟨#[]⟩, .int .i64 0, .slice none 0 0, .bool false, .slice none 0 0] 37 (0, 0)) ∧ BH w X) (box3 w _ _ _ _ _ _) ?_
  rintro X ⟨x1, x2, x3, x4⟩
  obtain ⟨⟨p0, p1, p2, p3, p4, p5, p6, p7⟩, y0, y1, y2, y3, y4, y5, y6, y7⟩ := row8 x1
  obtain ⟨m0, m1, m2, m3, _⟩ := row4 x2
  obtain ⟨⟨q0, q1, q2, q3, q4, q5, q6, q7⟩, z0, z1, z2, z3, z4, z5, z6, z7⟩ := row8 x3
  have HX := Lib.hid (And.intro x1 (And.intro x2 (And.intro x3 x4)))
  clear x1 x2 x3 x4
  rcases (show z = 0 ∨ z = 1 ∨ z = 2 ∨ z = 3 ∨ z = 4 ∨ z = 5 ∨ z = 6 ∨ z = 7 ∨ z = 8 by omega) with rfl | rfl | rfl | rfl | rfl | rfl | rfl | rfl | rfl
  all_goals clear hm0 hm1
  -- CASES
  · go_wp2_with (fail)
    obtain ⟨x1, x2, x3, x4⟩ := HX.out
    obtain ⟨k1, f1, k3⟩ := HK.out X x4
    have hfar : ∀ y, y ≠ w.heap.size → (X.setCell ⟨w.heap.size, 0, none⟩ (.string ⟨nm.toArray⟩)).heap[y]? = X.heap[y]? := fun y hy => heap_far (p := ⟨w.heap.size, 0, none⟩) hy _
    have hzz : (X.setCell ⟨w.heap.size, 0, none⟩ (.string ⟨nm.toArray⟩)).heap.size = X.heap.size := by simp [size_set]
    obtain ⟨⟨r0, r1, r2, r3, r4, r5, r6, r7⟩, _⟩ := row8 (s8 ((hfar _ (by omega)).trans x3) (.string ⟨(⟨nm, ar, ⟨k, t, kids, o⟩, cc, fs⟩ : De).name.toArray⟩) (.int .i64 (⟨nm, ar, ⟨k, t, kids, o⟩, cc, fs⟩ : De).arity) (.int .i64 (⟨nm, ar, ⟨k, t, kids, o⟩, cc, fs⟩ : De).super.k) (.string ⟨(⟨nm, ar, ⟨k, t, kids, o⟩, cc, fs⟩ : De).super.t.toArray⟩) (.int .i64 (⟨nm, ar, ⟨k, t, kids, o⟩, cc, fs⟩ : De).super.o) (.slice A (⟨nm, ar, ⟨k, t, kids, o⟩, cc, fs⟩ : De).super.kids.len c) (.bool (⟨nm, ar, ⟨k, t, kids, o⟩, cc, fs⟩ : De).conc) (.slice F (⟨nm, ar, ⟨k, t, kids, o⟩, cc, fs⟩ : De).fields.length x))
    refine bodyPost_ret (v := .agg #[.string ⟨(⟨nm, ar, ⟨k, t, kids, o⟩, cc, fs⟩ : De).name.toArray⟩, .int .i64 (⟨nm, ar, ⟨k, t, kids, o⟩, cc, fs⟩ : De).arity, .int .i64 (⟨nm, ar, ⟨k, t, kids, o⟩, cc, fs⟩ : De).super.k, .string ⟨(⟨nm, ar, ⟨k, t, kids, o⟩, cc, fs⟩ : De).super.t.toArray⟩, .int .i64 (⟨nm, ar, ⟨k, t, kids, o⟩, cc, fs⟩ : De).super.o, .slice A (⟨nm, ar, ⟨k, t, kids, o⟩, cc, fs⟩ : De).super.kids.len c, .bool (⟨nm, ar, ⟨k, t, kids, o⟩, cc, fs⟩ : De).conc, .slice F (⟨nm, ar, ⟨k, t, kids, o⟩, cc, fs⟩ : De).fields.length x]) (by simp only at r0 r1 r2 r3 r4 r5 r6 r7; simp [results, Tryz.results21, go_sem, r0, r1, r2, r3, r4, r5, r6, r7]) rfl ?_
    exact SpD.box (d := ⟨nm, ar, ⟨k, t, kids, o⟩, cc, fs⟩) (e := 37) (q0 := .int .i64 0) (q1 := .int .i64 0) (q2 := .int .i64 0) (q3 := .int .i64 0) (q4 := .int .i64 0) (q5 := .int .i64 0) (q6 := .int .i64 0) (q7 := .int .i64 0) (k1.keep (Nat.le_of_eq hzz.symm) fun y hy _ => ⟨hfar y hy.2.1, hy⟩) (f1.keep (Nat.le_of_eq hzz.symm) fun y hy _ => ⟨hfar y hy.2.1, hy⟩) (below_gb_of (BH.refl w) (gb_setCell (gb_below x4 (some w.heap.size)) (.inl rfl) _) (Nat.le_refl _))
  · go_wp2_with (fail)
    obtain ⟨x1, x2, x3, x4⟩ := HX.out
    obtain ⟨k1, f1, k3⟩ := HK.out X x4
    have hfar : ∀ y, y ≠ w.heap.size → (X.setCell ⟨w.heap.size, 1, none⟩ (.int .i64 n)).heap[y]? = X.heap[y]? := fun y hy => heap_far (p := ⟨w.heap.size, 1, none⟩) hy _
    have hzz : (X.setCell ⟨w.heap.size, 1, none⟩ (.int .i64 n)).heap.size = X.heap.size := by simp [size_set]
    obtain ⟨⟨r0, r1, r2, r3, r4, r5, r6, r7⟩, _⟩ := row8 (s8 ((hfar _ (by omega)).trans x3) (.string ⟨(⟨nn, n, ⟨k, t, kids, o⟩, cc, fs⟩ : De).name.toArray⟩) (.int .i64 (⟨nn, n, ⟨k, t, kids, o⟩, cc, fs⟩ : De).arity) (.int .i64 (⟨nn, n, ⟨k, t, kids, o⟩, cc, fs⟩ : De).super.k) (.string ⟨(⟨nn, n, ⟨k, t, kids, o⟩, cc, fs⟩ : De).super.t.toArray⟩) (.int .i64 (⟨nn, n, ⟨k, t, kids, o⟩, cc, fs⟩ : De).super.o) (.slice A (⟨nn, n, ⟨k, t, kids, o⟩, cc, fs⟩ : De).super.kids.len c) (.bool (⟨nn, n, ⟨k, t, kids, o⟩, cc, fs⟩ : De).conc) (.slice F (⟨nn, n, ⟨k, t, kids, o⟩, cc, fs⟩ : De).fields.length x))
    refine bodyPost_ret (v := .agg #[.string ⟨(⟨nn, n, ⟨k, t, kids, o⟩, cc, fs⟩ : De).name.toArray⟩, .int .i64 (⟨nn, n, ⟨k, t, kids, o⟩, cc, fs⟩ : De).arity, .int .i64 (⟨nn, n, ⟨k, t, kids, o⟩, cc, fs⟩ : De).super.k, .string ⟨(⟨nn, n, ⟨k, t, kids, o⟩, cc, fs⟩ : De).super.t.toArray⟩, .int .i64 (⟨nn, n, ⟨k, t, kids, o⟩, cc, fs⟩ : De).super.o, .slice A (⟨nn, n, ⟨k, t, kids, o⟩, cc, fs⟩ : De).super.kids.len c, .bool (⟨nn, n, ⟨k, t, kids, o⟩, cc, fs⟩ : De).conc, .slice F (⟨nn, n, ⟨k, t, kids, o⟩, cc, fs⟩ : De).fields.length x]) (by simp only at r0 r1 r2 r3 r4 r5 r6 r7; simp [results, Tryz.results21, go_sem, r0, r1, r2, r3, r4, r5, r6, r7]) rfl ?_
    exact SpD.box (d := ⟨nn, n, ⟨k, t, kids, o⟩, cc, fs⟩) (e := 37) (q0 := .int .i64 0) (q1 := .int .i64 0) (q2 := .int .i64 0) (q3 := .int .i64 0) (q4 := .int .i64 0) (q5 := .int .i64 0) (q6 := .int .i64 0) (q7 := .int .i64 0) (k1.keep (Nat.le_of_eq hzz.symm) fun y hy _ => ⟨hfar y hy.2.1, hy⟩) (f1.keep (Nat.le_of_eq hzz.symm) fun y hy _ => ⟨hfar y hy.2.1, hy⟩) (below_gb_of (BH.refl w) (gb_setCell (gb_below x4 (some w.heap.size)) (.inl rfl) _) (Nat.le_refl _))
  · go_wp2_with (fail)
    obtain ⟨x1, x2, x3, x4⟩ := HX.out
    obtain ⟨k1, f1, k3⟩ := HK.out X x4
    have hfar : ∀ y, y ≠ w.heap.size → ((((X.setCell ⟨w.heap.size, 2, none⟩ (.int .i64 k2)).setCell ⟨w.heap.size, 3, none⟩ (.string ⟨t2.toArray⟩)).setCell ⟨w.heap.size, 4, none⟩ (.int .i64 o2)).setCell ⟨w.heap.size, 5, none⟩ (.slice A2 kids2.len c2)).heap[y]? = X.heap[y]? := fun y hy => s4at2_far hy _ _ _ _
    have hzz : ((((X.setCell ⟨w.heap.size, 2, none⟩ (.int .i64 k2)).setCell ⟨w.heap.size, 3, none⟩ (.string ⟨t2.toArray⟩)).setCell ⟨w.heap.size, 4, none⟩ (.int .i64 o2)).setCell ⟨w.heap.size, 5, none⟩ (.slice A2 kids2.len c2)).heap.size = X.heap.size := by simp [size_set]
    obtain ⟨⟨r0, r1, r2, r3, r4, r5, r6, r7⟩, _⟩ := row8 (s8 ((hfar _ (by omega)).trans x3) (.string ⟨(⟨nn, ar, ⟨k2, t2, kids2, o2⟩, cc, fs⟩ : De).name.toArray⟩) (.int .i64 (⟨nn, ar, ⟨k2, t2, kids2, o2⟩, cc, fs⟩ : De).arity) (.int .i64 (⟨nn, ar, ⟨k2, t2, kids2, o2⟩, cc, fs⟩ : De).super.k) (.string ⟨(⟨nn, ar, ⟨k2, t2, kids2, o2⟩, cc, fs⟩ : De).super.t.toArray⟩) (.int .i64 (⟨nn, ar, ⟨k2, t2, kids2, o2⟩, cc, fs⟩ : De).super.o) (.slice A2 (⟨nn, ar, ⟨k2, t2, kids2, o2⟩, cc, fs⟩ : De).super.kids.len c2) (.bool (⟨nn, ar, ⟨k2, t2, kids2, o2⟩, cc, fs⟩ : De).conc) (.slice F (⟨nn, ar, ⟨k2, t2, kids2, o2⟩, cc, fs⟩ : De).fields.length x))
    refine bodyPost_ret (v := .agg #[.string ⟨(⟨nn, ar, ⟨k2, t2, kids2, o2⟩, cc, fs⟩ : De).name.toArray⟩, .int .i64 (⟨nn, ar, ⟨k2, t2, kids2, o2⟩, cc, fs⟩ : De).arity, .int .i64 (⟨nn, ar, ⟨k2, t2, kids2, o2⟩, cc, fs⟩ : De).super.k, .string ⟨(⟨nn, ar, ⟨k2, t2, kids2, o2⟩, cc, fs⟩ : De).super.t.toArray⟩, .int .i64 (⟨nn, ar, ⟨k2, t2, kids2, o2⟩, cc, fs⟩ : De).super.o, .slice A2 (⟨nn, ar, ⟨k2, t2, kids2, o2⟩, cc, fs⟩ : De).super.kids.len c2, .bool (⟨nn, ar, ⟨k2, t2, kids2, o2⟩, cc, fs⟩ : De).conc, .slice F (⟨nn, ar, ⟨k2, t2, kids2, o2⟩, cc, fs⟩ : De).fields.length x]) (by simp only at r0 r1 r2 r3 r4 r5 r6 r7; simp [results, Tryz.results21, go_sem, r0, r1, r2, r3, r4, r5, r6, r7]) rfl ?_
    exact SpD.box (d := ⟨nn, ar, ⟨k2, t2, kids2, o2⟩, cc, fs⟩) (e := 37) (q0 := .int .i64 0) (q1 := .int .i64 0) (q2 := .int .i64 0) (q3 := .int .i64 0) (q4 := .int .i64 0) (q5 := .int .i64 0) (q6 := .int .i64 0) (q7 := .int .i64 0) (k3.keep (Nat.le_of_eq hzz.symm) fun y hy _ => ⟨hfar y hy.2.1, hy⟩) (f1.keep (Nat.le_of_eq hzz.symm) fun y hy _ => ⟨hfar y hy.2.1, hy⟩) (below_gb_of (BH.refl w) (s4at2_gb (gb_below x4 (some w.heap.size)) (Nat.le_refl _) _ _ _ _) (Nat.le_refl _))
  · go_wp2_with (fail)
    obtain ⟨x1, x2, x3, x4⟩ := HX.out
    obtain ⟨k1, f1, k3⟩ := HK.out X x4
    have hfar : ∀ y, y ≠ w.heap.size → (X.setCell ⟨w.heap.size, 6, none⟩ (.bool (!cc))).heap[y]? = X.heap[y]? := fun y hy => heap_far (p := ⟨w.heap.size, 6, none⟩) hy _
    have hzz : (X.setCell ⟨w.heap.size, 6, none⟩ (.bool (!cc))).heap.size = X.heap.size := by simp [size_set]
    obtain ⟨⟨r0, r1, r2, r3, r4, r5, r6, r7⟩, _⟩ := row8 (s8 ((hfar _ (by omega)).trans x3) (.string ⟨(⟨nn, ar, ⟨k, t, kids, o⟩, !cc, fs⟩ : De).name.toArray⟩) (.int .i64 (⟨nn, ar, ⟨k, t, kids, o⟩, !cc, fs⟩ : De).arity) (.int .i64 (⟨nn, ar, ⟨k, t, kids, o⟩, !cc, fs⟩ : De).super.k) (.string ⟨(⟨nn, ar, ⟨k, t, kids, o⟩, !cc, fs⟩ : De).super.t.toArray⟩) (.int .i64 (⟨nn, ar, ⟨k, t, kids, o⟩, !cc, fs⟩ : De).super.o) (.slice A (⟨nn, ar, ⟨k, t, kids, o⟩, !cc, fs⟩ : De).super.kids.len c) (.bool (⟨nn, ar, ⟨k, t, kids, o⟩, !cc, fs⟩ : De).conc) (.slice F (⟨nn, ar, ⟨k, t, kids, o⟩, !cc, fs⟩ : De).fields.length x))
    refine bodyPost_ret (v := .agg #[.string ⟨(⟨nn, ar, ⟨k, t, kids, o⟩, !cc, fs⟩ : De).name.toArray⟩, .int .i64 (⟨nn, ar, ⟨k, t, kids, o⟩, !cc, fs⟩ : De).arity, .int .i64 (⟨nn, ar, ⟨k, t, kids, o⟩, !cc, fs⟩ : De).super.k, .string ⟨(⟨nn, ar, ⟨k, t, kids, o⟩, !cc, fs⟩ : De).super.t.toArray⟩, .int .i64 (⟨nn, ar, ⟨k, t, kids, o⟩, !cc, fs⟩ : De).super.o, .slice A (⟨nn, ar, ⟨k, t, kids, o⟩, !cc, fs⟩ : De).super.kids.len c, .bool (⟨nn, ar, ⟨k, t, kids, o⟩, !cc, fs⟩ : De).conc, .slice F (⟨nn, ar, ⟨k, t, kids, o⟩, !cc, fs⟩ : De).fields.length x]) (by simp only at r0 r1 r2 r3 r4 r5 r6 r7; simp [results, Tryz.results21, go_sem, r0, r1, r2, r3, r4, r5, r6, r7]) rfl ?_
    exact SpD.box (d := ⟨nn, ar, ⟨k, t, kids, o⟩, !cc, fs⟩) (e := 37) (q0 := .int .i64 0) (q1 := .int .i64 0) (q2 := .int .i64 0) (q3 := .int .i64 0) (q4 := .int .i64 0) (q5 := .int .i64 0) (q6 := .int .i64 0) (q7 := .int .i64 0) (k1.keep (Nat.le_of_eq hzz.symm) fun y hy _ => ⟨hfar y hy.2.1, hy⟩) (f1.keep (Nat.le_of_eq hzz.symm) fun y hy _ => ⟨hfar y hy.2.1, hy⟩) (below_gb_of (BH.refl w) (gb_setCell (gb_below x4 (some w.heap.size)) (.inl rfl) _) (Nat.le_refl _))
  · obtain ⟨iF, hiF, hF0, hF1, hF2⟩ := info_parts infoField
    obtain ⟨RR, hRR⟩ : ∃ RR : World → Prop, RR = (fun W => Hid (∃ (A9 : Option Addr) (c9 : Nat), W.heap[w.heap.size]? = some (.cells #[.string ⟨nn.toArray⟩, .int .i64 ar, .int .i64 k, .string ⟨t.toArray⟩, .int .i64 o, .slice A kids.len c, .bool cc, .slice A9 (fs.length + 1) c9] 37 (0, 0)) ∧ W.heap[w.heap.size + 1 + 1]? = some (.cells #[.string ⟨#[]⟩, .int .i64 0, .int .i64 0, .string ⟨#[]⟩, .int .i64 0, .slice none 0 0, .bool false, .slice none 0 0] 37 (0, 0)) ∧ KS W (S3 w.heap.size S) kids A c ∧ FlS W (S3 w.heap.size S) (fs ++ [(nm, ⟨k2, t2, kids2, o2⟩)]) A9 c9 ∧ BH w W)) := ⟨_, rfl⟩
    have HRR := Lib.hid hRR
    clear hRR
    go_cut [] (fun wx => RR wx)
    case first =>
      go_upto_region 11 with (fail)
      refine wp_region_last (γ := SqG) (by kernel_rfl) (sqV X w.heap.size (S3 w.heap.size S) nm k2 o2 t2 kids2 A2 c2 fs fs.length F x) (sqI X) (sqT X) sqZ (fun _ W => RR W) ⟨0, none⟩ 10 _ rfl ⟨below_drew X, by decide, fun _ h => by cases h⟩ (fun _ => ⟨fun _ => rfl, fun _ => rfl, fun _ => Nat.zero_le _⟩) (fun _ _ _ _ _ h => h.1) sqV_T (by kernel_rfl) ?_ ?_ ?_
      · refine ⟨?_, ?_, ?_, ?_, ?_, ?_, ?_, ?_, ?_, ?_, trivial⟩
        · intro m a W hI hZ hF hD
          have HI := Lib.hid (And.intro hI hZ)
          clear hI hZ
          go_simp
          obtain ⟨hI, hZ⟩ := HI.out
          have hb := bh_alloc (BH.refl W) (.cells #[] 40)
          exact ⟨_, rfl, ⟨m.n, some W.heap.size⟩, ⟨W.heap.size, rfl, Below.size hI.1, by simp, fun _ => ⟨rfl, heap_alloc_new W _⟩⟩, ⟨⟨BH.trans hI.1 hb, hI.2.1, fun g e => by cases e; simp⟩, Below.size hb, Nat.le_refl _, fun y hy _ => Below.block hb y hy, fun _ => hb, .inr ⟨_, Nat.le_refl _, rfl⟩, fun h => absurd (hZ.1 rfl) h⟩, fun j hj hz => ⟨fun e => absurd e hj, hz.2⟩⟩
        · intro m a W hI hZ hF hD
          have h := same_of hF 5 (by kernel_rfl)
          go_simp
          exact ⟨_, rfl, m, rfl, sq_same hI, fun _ _ h => h⟩
        · intro m a W hI hZ hF hD
          have h : a.tmps[34]?.getD undef = .pointer (some ⟨w.heap.size, 7, none⟩) := dep_of hD 1 34 (by kernel_rfl) rfl rfl
          obtain ⟨⟨_, _, _, _, _, _, _, r7⟩, _⟩ := row8 ((Below.block hI.1 _ (heap_lt HX.out.1)).trans HX.out.1)
          go_simp
          exact ⟨_, rfl, m, rfl, sq_same hI, fun _ _ h => h⟩
        · intro m a W hI hZ hF hD
          obtain ⟨mn, mr⟩ := m
          obtain rfl : mn = 0 := hZ.2.1 rfl
          obtain ⟨g, h33, h1, h2, h3⟩ : ∃ g, a.tmps[33]?.getD undef = .slice (some ⟨g, 0, none⟩) 0 0 ∧ X.heap.size ≤ g ∧ mr ≠ none ∧ (0 = 0 → mr = some g ∧ W.heap[g]? = some (.cells #[] 40 (0, 0))) := dep_of hD 0 33 (by kernel_rfl) rfl rfl
          have h35 : a.tmps[35]?.getD undef = .slice F fs.length x := dep_of hD 2 35 (by kernel_rfl) rfl rfl
          obtain ⟨rfl, h4⟩ := h3 rfl
          have fX : FlS X (fun y => S3 w.heap.size S y ∧ y < X.heap.size) fs F x := (HK.out X HX.out.2.2.2).2.1.keep (Nat.le_refl _) fun y hy hl => ⟨rfl, hy, hl⟩
          obtain ⟨ys, hrea, hfx⟩ := (fX.bh hI.1).rea
          have ho0 := own0 (size := 5) h4 h1
          refine wp_rea (by rfl) _ _ _ (by rfl) X.heap.size 40 iF _ 5 72 Tryz.underlying35 hiF hF0 hF1 hF2 rfl (by decide) (.slice (some ⟨g, 0, none⟩) 0 0) 0 [] (by show a.tmps.getD 33 undef = _; exact (Array.getD_eq_getD_getElem? ..).trans h33) ho0 F fs.length x ys (by show a.tmps.getD 35 undef = _; exact (Array.getD_eq_getD_getElem? ..).trans h35) hrea (by unfold maxLen; omega) (by omega) (Below.size hI.1) ?_
          intro v1 w5 ho hg ha
          have ho' : w5.ownsRow X.heap.size 40 5 v1 fs.length ys := by simpa using ho
          obtain ⟨A3, c3, rfl, _⟩ := own_shape ho'
          refine ⟨_, rfl, ⟨1, (Value.slice A3 fs.length c3).ownBlock⟩, ⟨Nat.le_refl _, A3, c3, ys, rfl, ?_, fun _ => ⟨rfl, ho', ?_⟩⟩, sq_push (m := ⟨0, some g⟩) hI (by show (0 : Nat) < 2; decide) rfl ho0 hg ha (fun q e => (ho'.lt q e).2), fun j hj hz => ⟨fun e => absurd (hz.1 e) (by simp), fun e => absurd e hj, fun _ => Nat.le_refl _⟩⟩
          · rcases ha with h | h <;> rw [h] <;> simp [Value.ownBlock]
          · exact FX.keep hg.size (fun y hy hl => ⟨hg.block y hl (fun e => by have e' : y = g := (by simpa [Value.ownBlock] using e); have := hy.2; omega), hy⟩) _ _ hfx
        · intro m a W hI hZ hF hD
          have h := same_of hF 3 (by kernel_rfl)
          go_simp
          exact ⟨_, rfl, m, rfl, sq_same hI, fun _ _ h => h⟩
        · intro m a W hI hZ hF hD
          have h := same_of hF 9 (by kernel_rfl)
          obtain ⟨r0, r1, r2, r3, _⟩ := row4 ((Below.block hI.1 _ (heap_lt HX.out.2.1)).trans HX.out.2.1)
          go_simp
          exact ⟨_, rfl, m, rfl, sq_same hI, fun _ _ h => h⟩
        · intro m a W hI hZ hF hD
          have h : a.tmps[37]?.getD undef = .string ⟨nm.toArray⟩ := dep_of hD 4 37 (by kernel_rfl) rfl rfl
          have h' : a.tmps[38]?.getD undef = .agg #[.int .i64 k2, .string ⟨t2.toArray⟩, .int .i64 o2, .slice A2 kids2.len c2] := dep_of hD 5 38 (by kernel_rfl) rfl rfl
          go_simp
          exact ⟨_, rfl, m, rfl, sq_same hI, fun _ _ h => h⟩
        · intro m a W hI hZ hF hD
          have h : a.tmps[39]?.getD undef = .agg #[.string ⟨nm.toArray⟩, .int .i64 k2, .string ⟨t2.toArray⟩, .int .i64 o2, .slice A2 kids2.len c2] := dep_of hD 6 39 (by kernel_rfl) rfl rfl
          have HI := Lib.hid hI
          clear hI hZ
          go_simp
          exact ⟨_, rfl, m, ⟨W.heap.size, rfl, fun e => Nat.lt_irrefl _ (HI.out.2.2 _ e), heap_alloc_new W _⟩, sq_bh HI.out (bh_alloc (BH.refl W) _), fun _ _ h => h⟩
        · intro m a W hI hZ hF hD
          obtain ⟨mn, mr⟩ := m
          obtain ⟨g0, A3, c3, ys, h36, h1, h2⟩ : 1 ≤ mn ∧ ∃ A c ys, a.tmps[36]?.getD undef = .slice A fs.length c ∧ mr ≠ none ∧ (mn = 1 → mr = (Value.slice A fs.length c).ownBlock ∧ W.ownsRow X.heap.size 40 5 (.slice A fs.length c) fs.length ys ∧ FX W (fun y => S3 w.heap.size S y ∧ y < X.heap.size) fs ys) := dep_of hD 3 36 (by kernel_rfl) rfl rfl
          have g1 : mn ≤ 1 := hZ.2.2 rfl
          obtain rfl : mn = 1 := by omega
          obtain ⟨e1, h4, h5⟩ := h2 rfl
          obtain ⟨g, h40, h6, h7⟩ : ∃ g, a.tmps[40]?.getD undef = .slice (some ⟨g, 0, none⟩) 1 1 ∧ mr ≠ some g ∧ W.heap[g]? = some (.cells #[.string ⟨nm.toArray⟩, .int .i64 k2, .string ⟨t2.toArray⟩, .int .i64 o2, .slice A2 kids2.len c2] 40 (0, 0)) := dep_of hD 7 40 (by kernel_rfl) rfl rfl
          have kX : KS X (fun y => S3 w.heap.size S y ∧ y < X.heap.size) kids2 A2 c2 := (HK.out X HX.out.2.2.2).2.2.keep (Nat.le_refl _) fun y hy hl => ⟨rfl, hy, hl⟩
          refine wp_rea (by rfl) _ _ _ (by rfl) X.heap.size 40 iF _ 5 72 Tryz.underlying35 hiF hF0 hF1 hF2 rfl (by decide) (.slice A3 fs.length c3) fs.length ys (by show a.tmps.getD 36 undef = _; exact (Array.getD_eq_getD_getElem? ..).trans h36) h4 (some ⟨g, 0, none⟩) 1 1 (five nm ⟨k2, t2, kids2, o2⟩ A2 c2) (by show a.tmps.getD 40 undef = _; exact (Array.getD_eq_getD_getElem? ..).trans h40) (rea5 (x := ⟨k2, t2, kids2, o2⟩) h7) (by unfold maxLen; omega) (by omega) (Below.size hI.1) ?_
          intro v1 w5 ho hg ha
          obtain ⟨A4, c4, rfl, _⟩ := own_shape ho
          have hkk : ∀ y, (S3 w.heap.size S y ∧ y < X.heap.size) → y < W.heap.size → w5.heap[y]? = W.heap[y]? ∧ (S3 w.heap.size S y ∧ y < X.heap.size) := fun y hy hl => ⟨hg.block y hl (fun e => by have := (h4.lt y e.symm).1; have := hy.2; omega), hy⟩
          exact ⟨_, rfl, ⟨2, (Value.slice A4 (fs.length + 1) c4).ownBlock⟩, ⟨rfl, A4, c4, _, rfl, ho, FX.app (FX.single (x := ⟨k2, t2, kids2, o2⟩) ((kX.bh hI.1).keep hg.size hkk)) _ _ (FX.keep hg.size hkk _ _ h5)⟩, sq_push (m := ⟨1, mr⟩) hI (by show (1 : Nat) < 2; decide) e1 h4 hg ha (fun q e => (ho.lt q e).2), fun j hj hz => ⟨fun e => absurd (hz.1 e) h1, fun e => absurd (hz.2.1 e) (by show ¬ (1 : Nat) = 0; decide), fun e => absurd e hj⟩⟩
        · intro m a W hI hZ hF hD
          have h := same_of hF 5 (by kernel_rfl)
          go_simp
          exact ⟨_, rfl, m, rfl, sq_same hI, fun _ _ h => h⟩
      · intro m a W hI hF hall
        have h42 : a.tmps[42]?.getD undef = .pointer (some ⟨w.heap.size, 7, none⟩) := all_of hall 9 42 rfl rfl
        obtain ⟨_, A3, c3, ys, h41, h1, h2⟩ : m.n = 2 ∧ ∃ A c ys, a.tmps[41]?.getD undef = .slice A (fs.length + 1) c ∧ W.ownsRow X.heap.size 40 5 (.slice A (fs.length + 1) c) (fs.length + 1) ys ∧ FX W (fun y => S3 w.heap.size S y ∧ y < X.heap.size) (fs ++ [(nm, (⟨k2, t2, kids2, o2⟩ : Tm))]) ys := all_of hall 8 41 rfl rfl
        obtain ⟨x1, x2, x3, x4⟩ := HX.out
        have b1 := (Below.block hI.1 _ (heap_lt x1)).trans x1
        have b3 := (Below.block hI.1 _ (heap_lt x3)).trans x3
        have hsX := heap_lt x3
        have hsw := Below.size x4
        obtain ⟨⟨_, _, _, _, _, _, _, r7⟩, _, _, _, _, _, _, _, u7⟩ := row8 b1
        have hfin : RR (W.setCell ⟨w.heap.size, 7, none⟩ (.slice A3 (fs.length + 1) c3)) := by
          rw [HRR.out]
          have hfar : ∀ y, y ≠ w.heap.size → (W.setCell ⟨w.heap.size, 7, none⟩ (.slice A3 (fs.length + 1) c3)).heap[y]? = W.heap[y]? := fun y hy => heap_far (p := ⟨w.heap.size, 7, none⟩) hy _
          have hfl : FlS W (fun y => (S3 w.heap.size S y ∧ y < X.heap.size) ∨ X.heap.size ≤ y) (fs ++ [(nm, ⟨k2, t2, kids2, o2⟩)]) A3 c3 := FlS.own (by simp) h1 h2
          have hS' := HS.out
          exact Lib.hid ⟨A3, c3, heap_set (i := 7) b1 _, (hfar _ (by omega)).trans b3, ((HK.out X x4).1.bh hI.1).keep (by simp [size_set]) fun y hy _ => ⟨hfar y hy.2.1, hy⟩, hfl.keep (by simp [size_set]) fun y hy _ => (hy.elim (fun h => ⟨hfar y h.1.2.1, h.1⟩) fun h => ⟨hfar y (by omega), hS' y (by omega), by omega, by omega, by omega⟩), below_gb_of (BH.refl w) (gb_setCell (gb_below (BH.trans x4 hI.1) (some w.heap.size)) (.inl rfl) _) (Nat.le_refl _)⟩
        have HFin := Lib.hid hfin
        clear hfin x1 x2 x3 x4 b1 b3 h1 h2 hsX hsw
        go_simp
        exact HFin.out
      · intro a W hF hR
        have HA := Lib.hid (Frm.act hF)
        have HRW := Lib.hid hR
        clear hF hR
        simp only [Exit.inBlock, Exit.then]
        apply_assumption
        refine Met.intro ?_
        go_step
        (repeat apply Exists.intro)
        refine ⟨?_, HA.out.trans rfl⟩
        exact HRW.out
    case rest =>
      have hRR := hcut
      rw [HRR.out] at hRR
      obtain ⟨A9, c9, v1, v3, k9, f9, b9⟩ := hRR.out
      have HV := Lib.hid (And.intro v1 (And.intro v3 (And.intro k9 (And.intro f9 b9))))
      clear hRR hcut v1 v3 k9 f9 b9 p0 p1 p2 p3 p4 p5 p6 p7 q0 q1 q2 q3 q4 q5 q6 q7 y0 y1 y2 y3 y4 y5 y6 y7 z0 z1 z2 z3 z4 z5 z6 z7 m0 m1 m2 m3
      obtain ⟨⟨p0, p1, p2, p3, p4, p5, p6, p7⟩, _⟩ := row8 HV.out.1
      obtain ⟨⟨q0, q1, q2, q3, q4, q5, q6, q7⟩, z0, z1, z2, z3, z4, z5, z6, z7⟩ := row8 HV.out.2.1
      go_wp2_with (fail)
      obtain ⟨v1, v3, k9, f9, b9⟩ := HV.out
      obtain ⟨⟨r0, r1, r2, r3, r4, r5, r6, r7⟩, _⟩ := row8 (s8 v3 (.string ⟨nn.toArray⟩) (.int .i64 ar) (.int .i64 k) (.string ⟨t.toArray⟩) (.int .i64 o) (.slice A kids.len c) (.bool cc) (.slice A9 (fs.length + 1) c9))
      refine bodyPost_ret (v := .agg #[.string ⟨nn.toArray⟩, .int .i64 ar, .int .i64 k, .string ⟨t.toArray⟩, .int .i64 o, .slice A kids.len c, .bool cc, .slice A9 (fs.length + 1) c9]) (by simp [results, Tryz.results21, go_sem, r0, r1, r2, r3, r4, r5, r6, r7]) rfl ?_
      have hlen : (fs ++ [(nm, (⟨k2, t2, kids2, o2⟩ : Tm))]).length = fs.length + 1 := by simp
      have hbox := SpD.box (d := ⟨nn, ar, ⟨k, t, kids, o⟩, cc, fs ++ [(nm, ⟨k2, t2, kids2, o2⟩)]⟩) (e := 37) (q0 := .int .i64 0) (q1 := .int .i64 0) (q2 := .int .i64 0) (q3 := .int .i64 0) (q4 := .int .i64 0) (q5 := .int .i64 0) (q6 := .int .i64 0) (q7 := .int .i64 0) k9 f9 b9
      simp only [hlen] at hbox
      exact hbox
  · obtain ⟨iF, hiF, hF0, hF1, hF2⟩ := info_parts infoField
    obtain ⟨RR, hRR⟩ : ∃ RR : World → Prop, RR = (fun W => Hid (∃ (A9 : Option Addr) (c9 : Nat), W.heap[w.heap.size]? = some (.cells #[.string ⟨nn.toArray⟩, .int .i64 ar, .int .i64 k, .string ⟨t.toArray⟩, .int .i64 o, .slice A kids.len c, .bool cc, .slice A9 (fs.length + fs.length) c9] 37 (0, 0)) ∧ W.heap[w.heap.size + 1 + 1]? = some (.cells #[.string ⟨#[]⟩, .int .i64 0, .int .i64 0, .string ⟨#[]⟩, .int .i64 0, .slice none 0 0, .bool false, .slice none 0 0] 37 (0, 0)) ∧ KS W (S3 w.heap.size S) kids A c ∧ FlS W (S3 w.heap.size S) (fs ++ fs) A9 c9 ∧ BH w W)) := ⟨_, rfl⟩
    have HRR := Lib.hid hRR
    clear hRR
    go_cut [] (fun wx => RR wx)
    case first =>
      go_upto_region 13 with (fail)
      refine wp_region_last (γ := SqG) (by kernel_rfl) (sqW X w.heap.size (S3 w.heap.size S) fs fs.length F x) (sqI X) (sqT X) sqY (fun _ W => RR W) ⟨0, none⟩ 8 _ rfl ⟨below_drew X, by decide, fun _ h => by cases h⟩ (fun _ => ⟨fun _ => rfl, fun _ => rfl, fun _ => Nat.zero_le _⟩) (fun _ _ _ _ _ h => h.1) sqW_T (by kernel_rfl) ?_ ?_ ?_
      · refine ⟨?_, ?_, ?_, ?_, ?_, ?_, ?_, ?_, trivial⟩
        · intro m a W hI hZ hF hD
          have HI := Lib.hid (And.intro hI hZ)
          clear hI hZ
          go_simp
          obtain ⟨hI, hZ⟩ := HI.out
          have hb := bh_alloc (BH.refl W) (.cells #[] 40)
          exact ⟨_, rfl, ⟨m.n, some W.heap.size⟩, ⟨W.heap.size, rfl, Below.size hI.1, by simp, fun _ => ⟨rfl, heap_alloc_new W _⟩⟩, ⟨⟨BH.trans hI.1 hb, hI.2.1, fun g e => by cases e; simp⟩, Below.size hb, Nat.le_refl _, fun y hy _ => Below.block hb y hy, fun _ => hb, .inr ⟨_, Nat.le_refl _, rfl⟩, fun h => absurd (hZ.1 rfl) h⟩, fun j hj hz => ⟨fun e => absurd e hj, hz.2⟩⟩
        · intro m a W hI hZ hF hD
          have h := same_of hF 5 (by kernel_rfl)
          go_simp
          exact ⟨_, rfl, m, rfl, sq_same hI, fun _ _ h => h⟩
        · intro m a W hI hZ hF hD
          have h : a.tmps[46]?.getD undef = .pointer (some ⟨w.heap.size, 7, none⟩) := dep_of hD 1 46 (by kernel_rfl) rfl rfl
          obtain ⟨⟨_, _, _, _, _, _, _, r7⟩, _⟩ := row8 ((Below.block hI.1 _ (heap_lt HX.out.1)).trans HX.out.1)
          go_simp
          exact ⟨_, rfl, m, rfl, sq_same hI, fun _ _ h => h⟩
        · intro m a W hI hZ hF hD
          obtain ⟨mn, mr⟩ := m
          obtain rfl : mn = 0 := hZ.2.1 rfl
          obtain ⟨g, h33, h1, h2, h3⟩ : ∃ g, a.tmps[45]?.getD undef = .slice (some ⟨g, 0, none⟩) 0 0 ∧ X.heap.size ≤ g ∧ mr ≠ none ∧ (0 = 0 → mr = some g ∧ W.heap[g]? = some (.cells #[] 40 (0, 0))) := dep_of hD 0 45 (by kernel_rfl) rfl rfl
          have h35 : a.tmps[47]?.getD undef = .slice F fs.length x := dep_of hD 2 47 (by kernel_rfl) rfl rfl
          obtain ⟨rfl, h4⟩ := h3 rfl
          have fX : FlS X (fun y => S3 w.heap.size S y ∧ y < X.heap.size) fs F x := (HK.out X HX.out.2.2.2).2.1.keep (Nat.le_refl _) fun y hy hl => ⟨rfl, hy, hl⟩
          obtain ⟨ys, hrea, hfx⟩ := (fX.bh hI.1).rea
          have ho0 := own0 (size := 5) h4 h1
          refine wp_rea (by rfl) _ _ _ (by rfl) X.heap.size 40 iF _ 5 72 Tryz.underlying35 hiF hF0 hF1 hF2 rfl (by decide) (.slice (some ⟨g, 0, none⟩) 0 0) 0 [] (by show a.tmps.getD 45 undef = _; exact (Array.getD_eq_getD_getElem? ..).trans h33) ho0 F fs.length x ys (by show a.tmps.getD 47 undef = _; exact (Array.getD_eq_getD_getElem? ..).trans h35) hrea (by unfold maxLen; omega) (by omega) (Below.size hI.1) ?_
          intro v1 w5 ho hg ha
          have ho' : w5.ownsRow X.heap.size 40 5 v1 fs.length ys := by simpa using ho
          obtain ⟨A3, c3, rfl, _⟩ := own_shape ho'
          refine ⟨_, rfl, ⟨1, (Value.slice A3 fs.length c3).ownBlock⟩, ⟨Nat.le_refl _, A3, c3, ys, rfl, ?_, fun _ => ⟨rfl, ho', ?_⟩⟩, sq_push (m := ⟨0, some g⟩) hI (by show (0 : Nat) < 2; decide) rfl ho0 hg ha (fun q e => (ho'.lt q e).2), fun j hj hz => ⟨fun e => absurd (hz.1 e) (by simp), fun e => absurd e hj, fun _ => Nat.le_refl _⟩⟩
          · rcases ha with h | h <;> rw [h] <;> simp [Value.ownBlock]
          · exact FX.keep hg.size (fun y hy hl => ⟨hg.block y hl (fun e => by have e' : y = g := (by simpa [Value.ownBlock] using e); have := hy.2; omega), hy⟩) _ _ hfx
        · intro m a W hI hZ hF hD
          have h := same_of hF 5 (by kernel_rfl)
          go_simp
          exact ⟨_, rfl, m, rfl, sq_same hI, fun _ _ h => h⟩
        · intro m a W hI hZ hF hD
          have h : a.tmps[49]?.getD undef = .pointer (some ⟨w.heap.size, 7, none⟩) := dep_of hD 4 49 (by kernel_rfl) rfl rfl
          obtain ⟨⟨_, _, _, _, _, _, _, r7⟩, _⟩ := row8 ((Below.block hI.1 _ (heap_lt HX.out.1)).trans HX.out.1)
          go_simp
          exact ⟨_, rfl, m, rfl, sq_same hI, fun _ _ h => h⟩
        · intro m a W hI hZ hF hD
          obtain ⟨mn, mr⟩ := m
          obtain ⟨g0, A3, c3, ys, h36, h1, h2⟩ : 1 ≤ mn ∧ ∃ A c ys, a.tmps[48]?.getD undef = .slice A fs.length c ∧ mr ≠ none ∧ (mn = 1 → mr = (Value.slice A fs.length c).ownBlock ∧ W.ownsRow X.heap.size 40 5 (.slice A fs.length c) fs.length ys ∧ FX W (fun y => S3 w.heap.size S y ∧ y < X.heap.size) fs ys) := dep_of hD 3 48 (by kernel_rfl) rfl rfl
          have g1 : mn ≤ 1 := hZ.2.2 rfl
          obtain rfl : mn = 1 := by omega
          obtain ⟨e1, h4, h5⟩ := h2 rfl
          have h50 : a.tmps[50]?.getD undef = .slice F fs.length x := dep_of hD 5 50 (by kernel_rfl) rfl rfl
          have fX : FlS X (fun y => S3 w.heap.size S y ∧ y < X.heap.size) fs F x := (HK.out X HX.out.2.2.2).2.1.keep (Nat.le_refl _) fun y hy hl => ⟨rfl, hy, hl⟩
          obtain ⟨zs, hrea, hfx⟩ := (fX.bh hI.1).rea
          refine wp_rea (by rfl) _ _ _ (by rfl) X.heap.size 40 iF _ 5 72 Tryz.underlying35 hiF hF0 hF1 hF2 rfl (by decide) (.slice A3 fs.length c3) fs.length ys (by show a.tmps.getD 48 undef = _; exact (Array.getD_eq_getD_getElem? ..).trans h36) h4 F fs.length x zs (by show a.tmps.getD 50 undef = _; exact (Array.getD_eq_getD_getElem? ..).trans h50) hrea (by unfold maxLen; omega) (by omega) (Below.size hI.1) ?_
          intro v1 w5 ho hg ha
          obtain ⟨A4, c4, rfl, _⟩ := own_shape ho
          have hkk : ∀ y, (S3 w.heap.size S y ∧ y < X.heap.size) → y < W.heap.size → w5.heap[y]? = W.heap[y]? ∧ (S3 w.heap.size S y ∧ y < X.heap.size) := fun y hy hl => ⟨hg.block y hl (fun e => by have := (h4.lt y e.symm).1; have := hy.2; omega), hy⟩
          exact ⟨_, rfl, ⟨2, (Value.slice A4 (fs.length + fs.length) c4).ownBlock⟩, ⟨rfl, A4, c4, _, rfl, ho, FX.app (FX.keep hg.size hkk _ _ hfx) _ _ (FX.keep hg.size hkk _ _ h5)⟩, sq_push (m := ⟨1, mr⟩) hI (by show (1 : Nat) < 2; decide) e1 h4 hg ha (fun q e => (ho.lt q e).2), fun j hj hz => ⟨fun e => absurd (hz.1 e) h1, fun e => absurd (hz.2.1 e) (by show ¬ (1 : Nat) = 0; decide), fun e => absurd e hj⟩⟩
        · intro m a W hI hZ hF hD
          have h := same_of hF 5 (by kernel_rfl)
          go_simp
          exact ⟨_, rfl, m, rfl, sq_same hI, fun _ _ h => h⟩
      · intro m a W hI hF hall
        have h42 : a.tmps[52]?.getD undef = .pointer (some ⟨w.heap.size, 7, none⟩) := all_of hall 7 52 rfl rfl
        obtain ⟨_, A3, c3, ys, h41, h1, h2⟩ : m.n = 2 ∧ ∃ A c ys, a.tmps[51]?.getD undef = .slice A (fs.length + fs.length) c ∧ W.ownsRow X.heap.size 40 5 (.slice A (fs.length + fs.length) c) (fs.length + fs.length) ys ∧ FX W (fun y => S3 w.heap.size S y ∧ y < X.heap.size) (fs ++ fs) ys := all_of hall 6 51 rfl rfl
        obtain ⟨x1, x2, x3, x4⟩ := HX.out
        have b1 := (Below.block hI.1 _ (heap_lt x1)).trans x1
        have b3 := (Below.block hI.1 _ (heap_lt x3)).trans x3
        have hsX := heap_lt x3
        have hsw := Below.size x4
        obtain ⟨⟨_, _, _, _, _, _, _, r7⟩, _, _, _, _, _, _, _, u7⟩ := row8 b1
        have hfin : RR (W.setCell ⟨w.heap.size, 7, none⟩ (.slice A3 (fs.length + fs.length) c3)) := by
          rw [HRR.out]
          have hfar : ∀ y, y ≠ w.heap.size → (W.setCell ⟨w.heap.size, 7, none⟩ (.slice A3 (fs.length + fs.length) c3)).heap[y]? = W.heap[y]? := fun y hy => heap_far (p := ⟨w.heap.size, 7, none⟩) hy _
          have hfl : FlS W (fun y => (S3 w.heap.size S y ∧ y < X.heap.size) ∨ X.heap.size ≤ y) (fs ++ fs) A3 c3 := FlS.own (by simp) h1 h2
          have hS' := HS.out
          exact Lib.hid ⟨A3, c3, heap_set (i := 7) b1 _, (hfar _ (by omega)).trans b3, ((HK.out X x4).1.bh hI.1).keep (by simp [size_set]) fun y hy _ => ⟨hfar y hy.2.1, hy⟩, hfl.keep (by simp [size_set]) fun y hy _ => (hy.elim (fun h => ⟨hfar y h.1.2.1, h.1⟩) fun h => ⟨hfar y (by omega), hS' y (by omega), by omega, by omega, by omega⟩), below_gb_of (BH.refl w) (gb_setCell (gb_below (BH.trans x4 hI.1) (some w.heap.size)) (.inl rfl) _) (Nat.le_refl _)⟩
        have HFin := Lib.hid hfin
        clear hfin x1 x2 x3 x4 b1 b3 h1 h2 hsX hsw
        go_simp
        exact HFin.out
      · intro a W hF hR
        have HA := Lib.hid (Frm.act hF)
        have HRW := Lib.hid hR
        clear hF hR
        simp only [Exit.inBlock, Exit.then]
        apply_assumption
        refine Met.intro ?_
        go_step
        (repeat apply Exists.intro)
        refine ⟨?_, HA.out.trans rfl⟩
        exact HRW.out
    case rest =>
      have hRR := hcut
      rw [HRR.out] at hRR
      obtain ⟨A9, c9, v1, v3, k9, f9, b9⟩ := hRR.out
      have HV := Lib.hid (And.intro v1 (And.intro v3 (And.intro k9 (And.intro f9 b9))))
      clear hRR hcut v1 v3 k9 f9 b9 p0 p1 p2 p3 p4 p5 p6 p7 q0 q1 q2 q3 q4 q5 q6 q7 y0 y1 y2 y3 y4 y5 y6 y7 z0 z1 z2 z3 z4 z5 z6 z7 m0 m1 m2 m3
      obtain ⟨⟨p0, p1, p2, p3, p4, p5, p6, p7⟩, _⟩ := row8 HV.out.1
      obtain ⟨⟨q0, q1, q2, q3, q4, q5, q6, q7⟩, z0, z1, z2, z3, z4, z5, z6, z7⟩ := row8 HV.out.2.1
      go_wp2_with (fail)
      obtain ⟨v1, v3, k9, f9, b9⟩ := HV.out
      obtain ⟨⟨r0, r1, r2, r3, r4, r5, r6, r7⟩, _⟩ := row8 (s8 v3 (.string ⟨nn.toArray⟩) (.int .i64 ar) (.int .i64 k) (.string ⟨t.toArray⟩) (.int .i64 o) (.slice A kids.len c) (.bool cc) (.slice A9 (fs.length + fs.length) c9))
      refine bodyPost_ret (v := .agg #[.string ⟨nn.toArray⟩, .int .i64 ar, .int .i64 k, .string ⟨t.toArray⟩, .int .i64 o, .slice A kids.len c, .bool cc, .slice A9 (fs.length + fs.length) c9]) (by simp [results, Tryz.results21, go_sem, r0, r1, r2, r3, r4, r5, r6, r7]) rfl ?_
      have hlen : (fs ++ fs).length = fs.length + fs.length := by simp
      have hbox := SpD.box (d := ⟨nn, ar, ⟨k, t, kids, o⟩, cc, fs ++ fs⟩) (e := 37) (q0 := .int .i64 0) (q1 := .int .i64 0) (q2 := .int .i64 0) (q3 := .int .i64 0) (q4 := .int .i64 0) (q5 := .int .i64 0) (q6 := .int .i64 0) (q7 := .int .i64 0) k9 f9 b9
      simp only [hlen] at hbox
      exact hbox
  · go_wp2_with (fail)
    refine (namedC _ _ _ _ _).mono ?_
    rintro e u ⟨rfl, hb⟩
    obtain ⟨x1, x2, x3, x4⟩ := HX.out
    have hbX := BH.trans (bh_alloc (BH.refl X) _) hb
    have hb4 := BH.trans x4 hbX
    have hN := heap_lt x3
    have hone : KS u (S3 w.heap.size S) (.one k2 t2 kids2 o2) (some ⟨X.heap.size, 0, none⟩) 1 := by
      obtain ⟨c3, ys3, r3, w3⟩ := (HK.out u hb4).2.2
      have hcell := (Below.block hb X.heap.size (by simp)).trans (heap_alloc_new X (.cells #[.int .i64 k2, .string ⟨t2.toArray⟩, .int .i64 o2, .slice A2 kids2.len c2] 34))
      have hSX := HS.out X.heap.size (Below.size x4)
      exact ⟨Nat.le_refl _, [.int .i64 k2, .string ⟨t2.toArray⟩, .int .i64 o2, .slice A2 kids2.len c2], fun _ => ⟨X.heap.size, 0, rfl, ⟨hSX, by omega, by omega, by omega⟩, heap_lt hcell, fun j v hv => by rw [Nat.zero_add, cell_of_row _ _ j _ _ _ hcell]; simpa using hv⟩, rowT.one c3 r3 w3⟩
    have f1 := (HK.out u hb4).2.1
    have u1 := (Below.block hbX _ (heap_lt x1)).trans x1
    have u3 := (Below.block hbX _ (heap_lt x3)).trans x3
    have HU := Lib.hid (And.intro hone (And.intro f1 (And.intro u1 (And.intro u3 hb4))))
    clear hone f1 hbX hb4 hN x1 x2 x3 x4 hb p0 p1 p2 p3 p4 p5 p6 p7 q0 q1 q2 q3 q4 q5 q6 q7 y0 y1 y2 y3 y4 y5 y6 y7 z0 z1 z2 z3 z4 z5 z6 z7 m0 m1 m2 m3
    obtain ⟨⟨p0, p1, p2, p3, p4, p5, p6, p7⟩, y0, y1, y2, y3, y4, y5, y6, y7⟩ := row8 HU.out.2.2.1
    obtain ⟨⟨q0, q1, q2, q3, q4, q5, q6, q7⟩, z0, z1, z2, z3, z4, z5, z6, z7⟩ := row8 HU.out.2.2.2.1
    go_wp2_with (fail)
    obtain ⟨hone, f1, u1, u3, hb4⟩ := HU.out
    have hfar : ∀ y, y ≠ w.heap.size → ((((u.setCell ⟨w.heap.size, 2, none⟩ (.int .i64 2)).setCell ⟨w.heap.size, 3, none⟩ (.string ⟨#[66, 111, 120]⟩)).setCell ⟨w.heap.size, 4, none⟩ (.int .i64 0)).setCell ⟨w.heap.size, 5, none⟩ (.slice (some ⟨X.heap.size, 0, none⟩) 1 1)).heap[y]? = u.heap[y]? := fun y hy => s4at2_far hy _ _ _ _
    have hzz : ((((u.setCell ⟨w.heap.size, 2, none⟩ (.int .i64 2)).setCell ⟨w.heap.size, 3, none⟩ (.string ⟨#[66, 111, 120]⟩)).setCell ⟨w.heap.size, 4, none⟩ (.int .i64 0)).setCell ⟨w.heap.size, 5, none⟩ (.slice (some ⟨X.heap.size, 0, none⟩) 1 1)).heap.size = u.heap.size := by simp [size_set]
    obtain ⟨⟨r0, r1, r2, r3, r4, r5, r6, r7⟩, _⟩ := row8 (s8 ((hfar _ (by omega)).trans u3) (.string ⟨nn.toArray⟩) (.int .i64 ar) (.int .i64 2) (.string ⟨#[66, 111, 120]⟩) (.int .i64 0) (.slice (some ⟨X.heap.size, 0, none⟩) 1 1) (.bool cc) (.slice F fs.length x))
    refine bodyPost_ret (v := .agg #[.string ⟨nn.toArray⟩, .int .i64 ar, .int .i64 2, .string ⟨#[66, 111, 120]⟩, .int .i64 0, .slice (some ⟨X.heap.size, 0, none⟩) 1 1, .bool cc, .slice F fs.length x]) (by simp [results, Tryz.results21, go_sem, r0, r1, r2, r3, r4, r5, r6, r7]) rfl ?_
    exact SpD.box (d := ⟨nn, ar, ⟨2, [66, 111, 120], .one k2 t2 kids2 o2, 0⟩, cc, fs⟩) (e := 37) (q0 := .int .i64 0) (q1 := .int .i64 0) (q2 := .int .i64 0) (q3 := .int .i64 0) (q4 := .int .i64 0) (q5 := .int .i64 0) (q6 := .int .i64 0) (q7 := .int .i64 0) (hone.keep (Nat.le_of_eq hzz.symm) fun y hy _ => ⟨hfar y hy.2.1, hy⟩) (f1.keep (Nat.le_of_eq hzz.symm) fun y hy _ => ⟨hfar y hy.2.1, hy⟩) (below_gb_of (BH.refl w) (s4at2_gb (gb_below hb4 (some w.heap.size)) (Nat.le_refl _) _ _ _ _) (Nat.le_refl _))
  · go_wp2_with (fail)
    obtain ⟨x1, x2, x3, x4⟩ := HX.out
    obtain ⟨k1, f1, k3⟩ := HK.out X x4
    have hfar : ∀ y, y ≠ w.heap.size → ((((X.setCell ⟨w.heap.size, 2, none⟩ (.int .i64 n)).setCell ⟨w.heap.size, 3, none⟩ (.string ⟨#[]⟩)).setCell ⟨w.heap.size, 4, none⟩ (.int .i64 0)).setCell ⟨w.heap.size, 5, none⟩ (.slice none 0 0)).heap[y]? = X.heap[y]? := fun y hy => s4at2_far hy _ _ _ _
    have hzz : ((((X.setCell ⟨w.heap.size, 2, none⟩ (.int .i64 n)).setCell ⟨w.heap.size, 3, none⟩ (.string ⟨#[]⟩)).setCell ⟨w.heap.size, 4, none⟩ (.int .i64 0)).setCell ⟨w.heap.size, 5, none⟩ (.slice none 0 0)).heap.size = X.heap.size := by simp [size_set]
    obtain ⟨⟨r0, r1, r2, r3, r4, r5, r6, r7⟩, _⟩ := row8 (s8 ((hfar _ (by omega)).trans x3) (.string ⟨(⟨nn, ar, ⟨n, [], .nil, 0⟩, cc, fs⟩ : De).name.toArray⟩) (.int .i64 (⟨nn, ar, ⟨n, [], .nil, 0⟩, cc, fs⟩ : De).arity) (.int .i64 (⟨nn, ar, ⟨n, [], .nil, 0⟩, cc, fs⟩ : De).super.k) (.string ⟨#[]⟩) (.int .i64 (⟨nn, ar, ⟨n, [], .nil, 0⟩, cc, fs⟩ : De).super.o) (.slice none 0 0) (.bool (⟨nn, ar, ⟨n, [], .nil, 0⟩, cc, fs⟩ : De).conc) (.slice F (⟨nn, ar, ⟨n, [], .nil, 0⟩, cc, fs⟩ : De).fields.length x))
    refine bodyPost_ret (v := .agg #[.string ⟨(⟨nn, ar, ⟨n, [], .nil, 0⟩, cc, fs⟩ : De).name.toArray⟩, .int .i64 (⟨nn, ar, ⟨n, [], .nil, 0⟩, cc, fs⟩ : De).arity, .int .i64 (⟨nn, ar, ⟨n, [], .nil, 0⟩, cc, fs⟩ : De).super.k, .string ⟨#[]⟩, .int .i64 (⟨nn, ar, ⟨n, [], .nil, 0⟩, cc, fs⟩ : De).super.o, .slice none 0 0, .bool (⟨nn, ar, ⟨n, [], .nil, 0⟩, cc, fs⟩ : De).conc, .slice F (⟨nn, ar, ⟨n, [], .nil, 0⟩, cc, fs⟩ : De).fields.length x]) (by simp only at r0 r1 r2 r3 r4 r5 r6 r7; simp [results, Tryz.results21, go_sem, r0, r1, r2, r3, r4, r5, r6, r7]) rfl ?_
    exact SpD.box (d := ⟨nn, ar, ⟨n, [], .nil, 0⟩, cc, fs⟩) (e := 37) (q0 := .int .i64 0) (q1 := .int .i64 0) (q2 := .int .i64 0) (q3 := .int .i64 0) (q4 := .int .i64 0) (q5 := .int .i64 0) (q6 := .int .i64 0) (q7 := .int .i64 0) (⟨Nat.le_refl _, [], reads_nil _ _, rfl⟩) (f1.keep (Nat.le_of_eq hzz.symm) fun y hy _ => ⟨hfar y hy.2.1, hy⟩) (below_gb_of (BH.refl w) (s4at2_gb (gb_below x4 (some w.heap.size)) (Nat.le_refl _) _ _ _ _) (Nat.le_refl _))
  · go_wp2_with (fail)
    obtain ⟨x1, x2, x3, x4⟩ := HX.out
    obtain ⟨k1, f1, k3⟩ := HK.out X x4
    have hfar : ∀ y, y ≠ w.heap.size → X.heap[y]? = X.heap[y]? := fun y hy => rfl
    have hzz : X.heap.size = X.heap.size := by simp [size_set]
    obtain ⟨⟨r0, r1, r2, r3, r4, r5, r6, r7⟩, _⟩ := row8 (s8 ((hfar _ (by omega)).trans x3) (.string ⟨(⟨nn, ar, ⟨k, t, kids, o⟩, cc, fs⟩ : De).name.toArray⟩) (.int .i64 (⟨nn, ar, ⟨k, t, kids, o⟩, cc, fs⟩ : De).arity) (.int .i64 (⟨nn, ar, ⟨k, t, kids, o⟩, cc, fs⟩ : De).super.k) (.string ⟨(⟨nn, ar, ⟨k, t, kids, o⟩, cc, fs⟩ : De).super.t.toArray⟩) (.int .i64 (⟨nn, ar, ⟨k, t, kids, o⟩, cc, fs⟩ : De).super.o) (.slice A (⟨nn, ar, ⟨k, t, kids, o⟩, cc, fs⟩ : De).super.kids.len c) (.bool (⟨nn, ar, ⟨k, t, kids, o⟩, cc, fs⟩ : De).conc) (.slice F (⟨nn, ar, ⟨k, t, kids, o⟩, cc, fs⟩ : De).fields.length x))
    refine bodyPost_ret (v := .agg #[.string ⟨(⟨nn, ar, ⟨k, t, kids, o⟩, cc, fs⟩ : De).name.toArray⟩, .int .i64 (⟨nn, ar, ⟨k, t, kids, o⟩, cc, fs⟩ : De).arity, .int .i64 (⟨nn, ar, ⟨k, t, kids, o⟩, cc, fs⟩ : De).super.k, .string ⟨(⟨nn, ar, ⟨k, t, kids, o⟩, cc, fs⟩ : De).super.t.toArray⟩, .int .i64 (⟨nn, ar, ⟨k, t, kids, o⟩, cc, fs⟩ : De).super.o, .slice A (⟨nn, ar, ⟨k, t, kids, o⟩, cc, fs⟩ : De).super.kids.len c, .bool (⟨nn, ar, ⟨k, t, kids, o⟩, cc, fs⟩ : De).conc, .slice F (⟨nn, ar, ⟨k, t, kids, o⟩, cc, fs⟩ : De).fields.length x]) (by simp only at r0 r1 r2 r3 r4 r5 r6 r7; simp [results, Tryz.results21, go_sem, r0, r1, r2, r3, r4, r5, r6, r7]) rfl ?_
    exact SpD.box (d := ⟨nn, ar, ⟨k, t, kids, o⟩, cc, fs⟩) (e := 37) (q0 := .int .i64 0) (q1 := .int .i64 0) (q2 := .int .i64 0) (q3 := .int .i64 0) (q4 := .int .i64 0) (q5 := .int .i64 0) (q6 := .int .i64 0) (q7 := .int .i64 0) (k1.keep (Nat.le_of_eq hzz.symm) fun y hy _ => ⟨hfar y hy.2.1, hy⟩) (f1.keep (Nat.le_of_eq hzz.symm) fun y hy _ => ⟨hfar y hy.2.1, hy⟩) (x4)
end Go.Proofs.YtpkiheenkpcebaaGreatDoor
