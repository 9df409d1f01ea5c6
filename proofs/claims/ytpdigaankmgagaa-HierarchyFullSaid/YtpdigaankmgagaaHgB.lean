/- hierarchy's copyTerm, copyDecl, add and New. No condition but bounded sizes. -/
import Derived.Test.YtpdigaankmgagaaSbi
import Derived.Test.YtpdigaankmgagaaTkt
import Derived.Test.YtpdigaankmgagaaHgA
import Derived.Test.YtpdigaankmgagaaRla
import Derived.Deep.CutBlock
set_option linter.unusedVariables false
set_option linter.unusedSimpArgs false
namespace Go.Proofs.Ytpdigaankmgagaa.Sx
theorem repL_nil (f : Fo) : ∀ pk i b, repL (Gi .nil) shi pk i b f = f := by
  induction f with
  | nil => intros; rfl
  | cons k t kids o r ih1 ih2 =>
    intro pk i b
    rw [repL, ih1, ih2]
    cases freeB k o (aroundB pk i b) <;> simp [Gi, nthF, shi]
theorem rep1_nil (k : Int) (t : List UInt8) (o : Int) (kids : Fo) (b : Int) : rep1 (Gi .nil) shi k t o kids b = ⟨k, t, kids, o⟩ := by
  rw [rep1, repL_nil]
  cases freeB k o b <;> simp [Gi, nthF, shi]
end Go.Proofs.Ytpdigaankmgagaa.Sx
namespace Go.Proofs.Ytpdigaankmgagaa
open Go.RowKit Sx

theorem row8 {w : World} {g : Nat} {t : TypeId} {a b c d e f x y : Value} (h : w.heap[g]? = some (.cells #[a, b, c, d, e, f, x, y] t (0, 0))) :
    (w.cell? ⟨g, 0, none⟩ = some a ∧ w.cell? ⟨g, 1, none⟩ = some b ∧ w.cell? ⟨g, 2, none⟩ = some c ∧ w.cell? ⟨g, 3, none⟩ = some d ∧ w.cell? ⟨g, 4, none⟩ = some e ∧ w.cell? ⟨g, 5, none⟩ = some f ∧ w.cell? ⟨g, 6, none⟩ = some x ∧ w.cell? ⟨g, 7, none⟩ = some y) ∧
    (w.frozen? ⟨g, 0, none⟩ = false ∧ w.frozen? ⟨g, 1, none⟩ = false ∧ w.frozen? ⟨g, 2, none⟩ = false ∧ w.frozen? ⟨g, 3, none⟩ = false ∧ w.frozen? ⟨g, 4, none⟩ = false ∧ w.frozen? ⟨g, 5, none⟩ = false ∧ w.frozen? ⟨g, 6, none⟩ = false ∧ w.frozen? ⟨g, 7, none⟩ = false) :=
  ⟨⟨cell_of_row w g 0 _ _ _ h, cell_of_row w g 1 _ _ _ h, cell_of_row w g 2 _ _ _ h, cell_of_row w g 3 _ _ _ h, cell_of_row w g 4 _ _ _ h, cell_of_row w g 5 _ _ _ h, cell_of_row w g 6 _ _ _ h, cell_of_row w g 7 _ _ _ h⟩,
   by simp [World.frozen?, h], by simp [World.frozen?, h], by simp [World.frozen?, h], by simp [World.frozen?, h], by simp [World.frozen?, h], by simp [World.frozen?, h], by simp [World.frozen?, h], by simp [World.frozen?, h]⟩
/-- the super stored into a declaration's box -/
theorem s4at2 {w : World} {g : Nat} {t : TypeId} {a b c d e f x y : Value} (h : w.heap[g]? = some (.cells #[a, b, c, d, e, f, x, y] t (0, 0))) (p q r s : Value) :
    ((((w.setCell ⟨g, 2, none⟩ p).setCell ⟨g, 3, none⟩ q).setCell ⟨g, 4, none⟩ r).setCell ⟨g, 5, none⟩ s).heap[g]? = some (.cells #[a, b, p, q, r, s, x, y] t (0, 0)) := by
  have h0 := heap_set (i := 2) h p
  have h1 := heap_set (i := 3) h0 q
  have h2 := heap_set (i := 4) h1 r
  exact heap_set (i := 5) h2 s
theorem s4at2_far {w : World} {N x : Nat} (hx : x ≠ N) (a b c d : Value) :
    ((((w.setCell ⟨N, 2, none⟩ a).setCell ⟨N, 3, none⟩ b).setCell ⟨N, 4, none⟩ c).setCell ⟨N, 5, none⟩ d).heap[x]? = w.heap[x]? :=
  (heap_far (p := ⟨N, 5, none⟩) hx d).trans ((heap_far (p := ⟨N, 4, none⟩) hx c).trans ((heap_far (p := ⟨N, 3, none⟩) hx b).trans (heap_far (p := ⟨N, 2, none⟩) hx a)))
theorem s4at2_gb {w0 w : World} {b N : Nat} (h : w0.grownBy w (some b)) (hN : w0.heap.size ≤ N) (x y z u : Value) :
    w0.grownBy ((((w.setCell ⟨N, 2, none⟩ x).setCell ⟨N, 3, none⟩ y).setCell ⟨N, 4, none⟩ z).setCell ⟨N, 5, none⟩ u) (some b) := by
  refine gb_setCell ?_ (.inr hN) _
  refine gb_setCell ?_ (.inr hN) _
  refine gb_setCell ?_ (.inr hN) _
  exact gb_setCell h (.inr hN) _

set_option maxHeartbeats 2000000 in
set_option maxRecDepth 100000 in
theorem hcopy_any (V : Int) (k o : Int) (t : List UInt8) (kids : Fo) (A : Option Addr) (c : Nat) (w : World) (hV0 : 0 ≤ V) (hV1 : V ≤ 1152921504606846976) (hN : fsize kids ≤ 1099511627776) (hK : KT w kids A c) (hcl : closed1 k o kids V = true) :
    Calls Try.prog 21 #[.agg #[.int .i64 k, .string ⟨t.toArray⟩, .int .i64 o, .slice A kids.len c]] w (SbP w NS ⟨k, t, kids, o⟩) := by
  have f1 := bh_alloc (BH.refl w) (.cells #[.int .i64 k, .string ⟨t.toArray⟩, .int .i64 o, .slice A kids.len c] 31)
  have f2 := bh_alloc f1 (.cells #[.int .i64 0, .string ⟨#[]⟩, .int .i64 0, .slice none 0 0] 31)
  have e2 := heap_alloc_new (w.alloc (.cells #[.int .i64 k, .string ⟨t.toArray⟩, .int .i64 o, .slice A kids.len c] 31)) (.cells #[.int .i64 0, .string ⟨#[]⟩, .int .i64 0, .slice none 0 0] 31)
  rw [World.size_alloc] at e2
  have hR := instantiate_any V k o t kids A c .nil none 0 _ hV0 hV1 (by omega) (wid_of_size hN) (by decide) (hK.below f2) (kt0 _) hcl
  rw [rep1_nil] at hR
  have HC := Lib.hid hR
  have HE := Lib.hid e2
  have HF := Lib.hid f2
  clear f1 f2 e2 hR
  go_enter Try.func21, Try.ntmps21
  go_wp2_with (fail)
  refine HC.out.mono ?_
  rintro e w2 ⟨A2, c2, rfl, u1, u2⟩
  have HN2 := Lib.hid ((Below.block u2 (w.heap.size + 1) (by simp)).trans HE.out)
  have HFin := Lib.hid (SbP.box (x := ⟨k, t, kids, o⟩) (N := w.heap.size + 1) (S := NS) (w := w) (fun y hy => hy.elim) (by omega) (BH.trans HF.out u2) (u1.keep (S' := fun y => (NS y ∨ w.heap.size ≤ y) ∧ y ≠ w.heap.size + 1) (Nat.le_refl _) fun y hy _ => ⟨rfl, hy.elim (fun h => h.elim) fun h => ⟨.inr (by simp at h; omega), by simp at h; omega⟩⟩))
  clear u1 u2
  obtain ⟨b0, b1, b2, b3, y0, y1, y2, y3⟩ := row4 HN2.out
  go_wp2_with (fail)
  obtain ⟨m0, m1, m2, m3, _⟩ := row4 (s4 HN2.out (.int .i64 k) (.string ⟨t.toArray⟩) (.int .i64 o) (.slice A2 kids.len c2))
  exact bodyPost_ret (v := .agg #[.int .i64 k, .string ⟨t.toArray⟩, .int .i64 o, .slice A2 kids.len c2]) (by simp [results, Try.results21, go_sem, m0, m1, m2, m3]) rfl HFin.out

set_option maxHeartbeats 2000000 in
set_option maxRecDepth 100000 in
theorem cloneNil (w : World) : Calls Try.prog 35 #[.slice none 0 0] w fun e w' => e = .returned (.slice none 0 0) ∧ BH w w' := by
  have q := fun (w : World) (a : Option Addr) (n c n' c' : Nat) => Lib.run_eql_slice_nil (P := Try.prog) w 32 _ a n c n' c' Try.underlying32
  go_enter Try.func35, Try.ntmps35
  go_wp2_with (fail)
  go_ret
  exact ⟨rfl, BH.refl _⟩

theorem s8 {w : World} {N : Nat} {ty : TypeId} {q0 q1 q2 q3 q4 q5 q6 q7 : Value} (h : w.heap[N]? = some (.cells #[q0, q1, q2, q3, q4, q5, q6, q7] ty (0, 0))) (a b c d e f x y : Value) :
    ((((((((w.setCell ⟨N, 0, none⟩ a).setCell ⟨N, 1, none⟩ b).setCell ⟨N, 2, none⟩ c).setCell ⟨N, 3, none⟩ d).setCell ⟨N, 4, none⟩ e).setCell ⟨N, 5, none⟩ f).setCell ⟨N, 6, none⟩ x).setCell ⟨N, 7, none⟩ y).heap[N]? = some (.cells #[a, b, c, d, e, f, x, y] ty (0, 0)) := by
  have h0 : (w.setCell ⟨N, 0, none⟩ a).heap[N]? = some (.cells #[a, q1, q2, q3, q4, q5, q6, q7] ty (0, 0)) := heap_set (i := 0) h a
  generalize w.setCell ⟨N, 0, none⟩ a = w0 at *
  have h1 : (w0.setCell ⟨N, 1, none⟩ b).heap[N]? = some (.cells #[a, b, q2, q3, q4, q5, q6, q7] ty (0, 0)) := heap_set (i := 1) h0 b
  generalize w0.setCell ⟨N, 1, none⟩ b = w1 at *
  have h2 : (w1.setCell ⟨N, 2, none⟩ c).heap[N]? = some (.cells #[a, b, c, q3, q4, q5, q6, q7] ty (0, 0)) := heap_set (i := 2) h1 c
  generalize w1.setCell ⟨N, 2, none⟩ c = w2 at *
  have h3 : (w2.setCell ⟨N, 3, none⟩ d).heap[N]? = some (.cells #[a, b, c, d, q4, q5, q6, q7] ty (0, 0)) := heap_set (i := 3) h2 d
  generalize w2.setCell ⟨N, 3, none⟩ d = w3 at *
  have h4 : (w3.setCell ⟨N, 4, none⟩ e).heap[N]? = some (.cells #[a, b, c, d, e, q5, q6, q7] ty (0, 0)) := heap_set (i := 4) h3 e
  generalize w3.setCell ⟨N, 4, none⟩ e = w4 at *
  have h5 : (w4.setCell ⟨N, 5, none⟩ f).heap[N]? = some (.cells #[a, b, c, d, e, f, q6, q7] ty (0, 0)) := heap_set (i := 5) h4 f
  generalize w4.setCell ⟨N, 5, none⟩ f = w5 at *
  have h6 : (w5.setCell ⟨N, 6, none⟩ x).heap[N]? = some (.cells #[a, b, c, d, e, f, x, q7] ty (0, 0)) := heap_set (i := 6) h5 x
  generalize w5.setCell ⟨N, 6, none⟩ x = w6 at *
  exact heap_set (i := 7) h6 y
theorem s8_far {w : World} {N i : Nat} (hx : i ≠ N) (a b c d e f x y : Value) :
    ((((((((w.setCell ⟨N, 0, none⟩ a).setCell ⟨N, 1, none⟩ b).setCell ⟨N, 2, none⟩ c).setCell ⟨N, 3, none⟩ d).setCell ⟨N, 4, none⟩ e).setCell ⟨N, 5, none⟩ f).setCell ⟨N, 6, none⟩ x).setCell ⟨N, 7, none⟩ y).heap[i]? = w.heap[i]? :=
  (heap_far (p := ⟨N, 7, none⟩) hx y).trans ((heap_far (p := ⟨N, 6, none⟩) hx x).trans ((heap_far (p := ⟨N, 5, none⟩) hx f).trans ((heap_far (p := ⟨N, 4, none⟩) hx e).trans ((heap_far (p := ⟨N, 3, none⟩) hx d).trans ((heap_far (p := ⟨N, 2, none⟩) hx c).trans ((heap_far (p := ⟨N, 1, none⟩) hx b).trans (heap_far (p := ⟨N, 0, none⟩) hx a)))))))
theorem s8_gb {w0 w : World} {g N : Nat} (h : w0.grownBy w (some g)) (hN : w0.heap.size ≤ N) (a b c d e f x y : Value) :
    w0.grownBy ((((((((w.setCell ⟨N, 0, none⟩ a).setCell ⟨N, 1, none⟩ b).setCell ⟨N, 2, none⟩ c).setCell ⟨N, 3, none⟩ d).setCell ⟨N, 4, none⟩ e).setCell ⟨N, 5, none⟩ f).setCell ⟨N, 6, none⟩ x).setCell ⟨N, 7, none⟩ y) (some g) := by
  refine gb_setCell ?_ (.inr hN) _
  refine gb_setCell ?_ (.inr hN) _
  refine gb_setCell ?_ (.inr hN) _
  refine gb_setCell ?_ (.inr hN) _
  refine gb_setCell ?_ (.inr hN) _
  refine gb_setCell ?_ (.inr hN) _
  refine gb_setCell ?_ (.inr hN) _
  exact gb_setCell h (.inr hN) _

set_option maxHeartbeats 4000000 in
set_option maxRecDepth 100000 in
theorem copyDecl0 (V : Int) (n : List UInt8) (ar k o : Int) (t : List UInt8) (kids : Fo) (A : Option Addr) (c : Nat) (cc : Bool) (w : World) (hV0 : 0 ≤ V) (hV1 : V ≤ 1152921504606846976) (hN : fsize kids ≤ 1099511627776) (hK : KT w kids A c) (hcl : closed1 k o kids V = true) :
    Calls Try.prog 20 #[.agg #[.string ⟨n.toArray⟩, .int .i64 ar, .int .i64 k, .string ⟨t.toArray⟩, .int .i64 o, .slice A kids.len c, .bool cc, .slice none 0 0]] w fun e w' => ∃ A2 c2, e = .returned (.agg #[.string ⟨n.toArray⟩, .int .i64 ar, .int .i64 k, .string ⟨t.toArray⟩, .int .i64 o, .slice A2 kids.len c2, .bool cc, .slice none 0 0]) ∧ KS w' (fun x => w.heap.size ≤ x) kids A2 c2 ∧ BH w w' := by
  have f1 := bh_alloc (BH.refl w) (.cells #[.string ⟨n.toArray⟩, .int .i64 ar, .int .i64 k, .string ⟨t.toArray⟩, .int .i64 o, .slice A kids.len c, .bool cc, .slice none 0 0] 34)
  have e1 := heap_alloc_new w (.cells #[.string ⟨n.toArray⟩, .int .i64 ar, .int .i64 k, .string ⟨t.toArray⟩, .int .i64 o, .slice A kids.len c, .bool cc, .slice none 0 0] 34)
  have f2 := bh_alloc f1 (.cells #[.string ⟨#[]⟩, .int .i64 0, .int .i64 0, .string ⟨#[]⟩, .int .i64 0, .slice none 0 0, .bool false, .slice none 0 0] 34)
  have e2 := heap_alloc_new (w.alloc (.cells #[.string ⟨n.toArray⟩, .int .i64 ar, .int .i64 k, .string ⟨t.toArray⟩, .int .i64 o, .slice A kids.len c, .bool cc, .slice none 0 0] 34)) (.cells #[.string ⟨#[]⟩, .int .i64 0, .int .i64 0, .string ⟨#[]⟩, .int .i64 0, .slice none 0 0, .bool false, .slice none 0 0] 34)
  rw [World.size_alloc] at e2
  have e1' := (Below.heap_alloc (w.alloc (.cells #[.string ⟨n.toArray⟩, .int .i64 ar, .int .i64 k, .string ⟨t.toArray⟩, .int .i64 o, .slice A kids.len c, .bool cc, .slice none 0 0] 34)) (.cells #[.string ⟨#[]⟩, .int .i64 0, .int .i64 0, .string ⟨#[]⟩, .int .i64 0, .slice none 0 0, .bool false, .slice none 0 0] 34) w.heap.size (by simp)).trans e1
  have HC := Lib.hid (hcopy_any V k o t kids A c _ hV0 hV1 hN (hK.below f2) hcl)
  have HE := Lib.hid (And.intro e1' (And.intro e2 f2))
  obtain ⟨⟨r0, r1, r2, r3, r4, r5, r6, r7⟩, z0, z1, z2, z3, z4, z5, z6, z7⟩ := row8 e1'
  clear f1 e1 f2 e2 e1' hK hcl hV0 hV1 hN
  go_enter Try.func20, Try.ntmps20
  go_wp2_with (fail)
  refine HC.out.mono ?_
  rintro e w2 ⟨A2, c2, rfl, u1, u2⟩
  obtain ⟨g1, g2, g3⟩ := HE.out
  have E1 := Lib.hid ((Below.block u2 _ (heap_lt g1)).trans g1)
  have E2 := Lib.hid ((Below.block u2 _ (heap_lt g2)).trans g2)
  have U1 := Lib.hid (u1.keep (S' := fun y => w.heap.size + 2 ≤ y) (Nat.le_refl _) fun y hy _ => ⟨rfl, hy.elim (fun h => h.elim) fun h => by simpa using h⟩)
  have U2 := Lib.hid (BH.trans g3 u2)
  clear g1 g2 g3 u1 u2 r0 r1 r2 r3 r4 r5 r6 r7 z0 z1 z2 z3 z4 z5 z6 z7 HC HE
  obtain ⟨⟨r0, r1, r2, r3, r4, r5, r6, r7⟩, z0, z1, z2, z3, z4, z5, z6, z7⟩ := row8 E1.out
  go_upto_region 2 with (fail)
  refine gen_wp _ (fun X => X.heap[w.heap.size]? = some (.cells #[.string ⟨n.toArray⟩, .int .i64 ar, .int .i64 k, .string ⟨t.toArray⟩, .int .i64 o, .slice A2 kids.len c2, .bool cc, .slice none 0 0] 34 (0, 0)) ∧ X.heap[w.heap.size + 1]? = some (.cells #[.string ⟨#[]⟩, .int .i64 0, .int .i64 0, .string ⟨#[]⟩, .int .i64 0, .slice none 0 0, .bool false, .slice none 0 0] 34 (0, 0)) ∧ KS X (fun y => w.heap.size + 2 ≤ y) kids A2 c2 ∧ BH w X) ?_ ?_
  · refine ⟨s4at2 E1.out _ _ _ _, (s4at2_far (by omega) _ _ _ _).trans E2.out, U1.out.keep (by simp [size_set]) fun y hy _ => ⟨s4at2_far (by omega) _ _ _ _, hy⟩, ?_⟩
    exact below_gb_of (BH.refl w) (s4at2_gb (gb_below U2.out (some w.heap.size)) (Nat.le_refl _) _ _ _ _) (Nat.le_refl _)
  rintro X3 ⟨x1, x2, x3, x4⟩
  have HX := Lib.hid (And.intro x1 (And.intro x2 (And.intro x3 x4)))
  clear E1 E2 U1 U2 r0 r1 r2 r3 r4 r5 r6 r7 z0 z1 z2 z3 z4 z5 z6 z7 x2 x3 x4
  obtain ⟨⟨r0, r1, r2, r3, r4, r5, r6, r7⟩, z0, z1, z2, z3, z4, z5, z6, z7⟩ := row8 x1
  clear x1
  go_wp2_with (fail)
  refine (cloneNil _).mono ?_
  rintro e w4 ⟨rfl, hb⟩
  obtain ⟨x1, x2, x3, x4⟩ := HX.out
  have HY := Lib.hid (And.intro ((Below.block hb _ (heap_lt x1)).trans x1) (And.intro ((Below.block hb _ (heap_lt x2)).trans x2) (And.intro (x3.bh hb) (BH.trans x4 hb))))
  clear x1 x2 x3 x4 hb HX r0 r1 r2 r3 r4 r5 r6 r7 z0 z1 z2 z3 z4 z5 z6 z7
  obtain ⟨⟨r0, r1, r2, r3, r4, r5, r6, r7⟩, z0, z1, z2, z3, z4, z5, z6, z7⟩ := row8 HY.out.1
  go_upto_region 3 with (fail)
  refine gen_wp _ (fun X => X.heap[w.heap.size]? = some (.cells #[.string ⟨n.toArray⟩, .int .i64 ar, .int .i64 k, .string ⟨t.toArray⟩, .int .i64 o, .slice A2 kids.len c2, .bool cc, .slice none 0 0] 34 (0, 0)) ∧ X.heap[w.heap.size + 1]? = some (.cells #[.string ⟨#[]⟩, .int .i64 0, .int .i64 0, .string ⟨#[]⟩, .int .i64 0, .slice none 0 0, .bool false, .slice none 0 0] 34 (0, 0)) ∧ KS X (fun y => w.heap.size + 2 ≤ y) kids A2 c2 ∧ BH w X) ?_ ?_
  · obtain ⟨x1, x2, x3, x4⟩ := HY.out
    refine ⟨heap_set (i := 7) x1 _, (heap_far (p := ⟨w.heap.size, 7, none⟩) (show w.heap.size + 1 ≠ w.heap.size by omega) _).trans x2, x3.keep (by simp [size_set]) fun y hy _ => ⟨heap_far (p := ⟨w.heap.size, 7, none⟩) (show y ≠ w.heap.size by omega) _, hy⟩, ?_⟩
    exact below_gb_of (BH.refl w) (gb_setCell (gb_below x4 (some w.heap.size)) (.inr (Nat.le_refl _)) _) (Nat.le_refl _)
  rintro X5 ⟨x1, x2, x3, x4⟩
  have HZ := Lib.hid (And.intro x1 (And.intro x2 (And.intro x3 x4)))
  clear x2 x3 x4 HY r0 r1 r2 r3 r4 r5 r6 r7 z0 z1 z2 z3 z4 z5 z6 z7
  obtain ⟨⟨r0, r1, r2, r3, r4, r5, r6, r7⟩, z0, z1, z2, z3, z4, z5, z6, z7⟩ := row8 x1
  clear x1
  go_wp2_with (fail)
  go_loopw [15] (fun iv wr => iv = .int .i64 0 ∧ wr = X5) (fun _ _ => 0)
  case atStart => exact ⟨rfl, rfl⟩
  case round =>
    obtain ⟨rfl, rfl⟩ := hrel
    obtain ⟨x1, x2, x3, x4⟩ := HZ.out
    obtain ⟨⟨p0, p1, p2, p3, p4, p5, p6, p7⟩, y0, y1, y2, y3, y4, y5, y6, y7⟩ := row8 x2
    clear x1 x2 x3 x4
    go_wp2_with (fail)
    obtain ⟨x1, x2, x3, x4⟩ := HZ.out
    obtain ⟨⟨m0, m1, m2, m3, m4, m5, m6, m7⟩, _⟩ := row8 (s8 x2 (.string ⟨n.toArray⟩) (.int .i64 ar) (.int .i64 k) (.string ⟨t.toArray⟩) (.int .i64 o) (.slice A2 kids.len c2) (.bool cc) (.slice none 0 0))
    refine bodyPost_ret (v := .agg #[.string ⟨n.toArray⟩, .int .i64 ar, .int .i64 k, .string ⟨t.toArray⟩, .int .i64 o, .slice A2 kids.len c2, .bool cc, .slice none 0 0]) (by simp [results, Try.results20, go_sem, m0, m1, m2, m3, m4, m5, m6, m7]) rfl ⟨A2, c2, rfl, ?_, ?_⟩
    · exact x3.keep (by simp [size_set]) fun y hy _ => ⟨s8_far (by omega) _ _ _ _ _ _ _ _, by omega⟩
    · exact below_gb_of (BH.refl w) (s8_gb (gb_below x4 (some (w.heap.size + 1))) (by omega) _ _ _ _ _ _ _ _) (by omega)
end Go.Proofs.Ytpdigaankmgagaa
namespace Go.Proofs.Ytpdigaankmgagaa
open Go.RowKit Sx

/-- v is the declaration d, which has no fields, its super in blocks of S -/
def D0 (w : World) (S : Nat → Prop) (v : Value) (d : De) : Prop :=
  ∃ A c, v = .agg #[.string ⟨d.name.toArray⟩, .int .i64 d.arity, .int .i64 d.super.k, .string ⟨d.super.t.toArray⟩, .int .i64 d.super.o, .slice A d.super.kids.len c, .bool d.conc, .slice none 0 0] ∧ KS w S d.super.kids A c
theorem D0.keep {w w' : World} {S S' : Nat → Prop} {v : Value} {d : De} (h : D0 w S v d) (hs : w.heap.size ≤ w'.heap.size) (hk : ∀ x, S x → x < w.heap.size → w'.heap[x]? = w.heap[x]? ∧ S' x) : D0 w' S' v d := by
  obtain ⟨A, c, e, hu⟩ := h
  exact ⟨A, c, e, hu.keep hs hk⟩

def namesV (ds : List De) : List Value := ds.map fun d => strV d.name
/-- block p is a hierarchy: the row v of the names, the map b of the declarations -/
structure Hier (w : World) (B p b : Nat) (v : Value) (l : List (List UInt8 × Value)) (ds : List De) : Prop where
  blk : w.heap[p]? = some (.cells #[v, .map (some b)] 41 (0, 0))
  own : w.ownsRow B 9 1 v ds.length (namesV ds)
  map : MapL w b l
  len : l.length = ds.length
  row : ∀ (i : Nat) (d : De), ds[i]? = some d → ∃ u : Value, l[i]? = some (d.name, u) ∧ D0 w (fun x => x ≠ p ∧ x ≠ b ∧ v.ownBlock ≠ some x) u d
  hpb : p ≠ b
  hvp : v.ownBlock ≠ some p
  hvb : v.ownBlock ≠ some b
  hB : B ≤ p ∧ B ≤ b
theorem Hier.bh {w w' : World} {B p b : Nat} {v : Value} {l : List (List UInt8 × Value)} {ds : List De} (h : Hier w B p b v l ds) (hb : BH w w') : Hier w' B p b v l ds := by
  refine ⟨(Below.block hb _ (heap_lt h.blk)).trans h.blk, ?_, h.map.keep (Below.block hb _ h.map.lt), h.len, fun i d hd => ?_, h.hpb, h.hvp, h.hvb, h.hB⟩
  · exact h.own.kept (row := none) (gb_below hb none) (by
      cases hv : v.ownBlock with
      | none => exact .inl rfl
      | some x => exact .inr (by simp))
  · obtain ⟨u, h1, h2⟩ := h.row i d hd
    exact ⟨u, h1, h2.keep (Below.size hb) fun x hx hl => ⟨Below.block hb x hl, hx⟩⟩
/-- what an operation on the hierarchy leaves of the rest -/
structure KH (p b : Nat) (v v' : Value) (w w' : World) : Prop where
  os : w'.os = w.os
  tape : w'.tape = w.tape
  output : w'.output = w.output
  size : w.heap.size ≤ w'.heap.size
  block : ∀ x, x < w.heap.size → x ≠ p → x ≠ b → v.ownBlock ≠ some x → w'.heap[x]? = w.heap[x]?
  own : v'.ownBlock = v.ownBlock ∨ ∃ g, w.heap.size ≤ g ∧ v'.ownBlock = some g
theorem KH.bh {p b : Nat} {v : Value} {w w' : World} (h : BH w w') : KH p b v v w w' := ⟨Below.os h, Below.tape h, Below.output h, Below.size h, fun x hx _ _ _ => Below.block h x hx, .inl rfl⟩
theorem KH.trans {p b : Nat} {v v' v'' : Value} {w w' w'' : World} (h : KH p b v v' w w') (k : KH p b v' v'' w' w'') : KH p b v v'' w w'' := by
  refine ⟨k.os.trans h.os, k.tape.trans h.tape, k.output.trans h.output, Nat.le_trans h.size k.size, fun x hx hp hb hv => ?_, ?_⟩
  · refine (k.block x (Nat.lt_of_lt_of_le hx h.size) hp hb ?_).trans (h.block x hx hp hb hv)
    rcases h.own with e | ⟨g, hg, e⟩
    · rw [e]; exact hv
    · rw [e]; intro e'; cases e'; omega
  · rcases k.own with e | ⟨g, hg, e⟩
    · rcases h.own with e2 | ⟨g, hg, e2⟩
      · exact .inl (e.trans e2)
      · exact .inr ⟨g, hg, e.trans e2⟩
    · exact .inr ⟨g, Nat.le_trans h.size hg, e⟩
theorem KH.below {B p b : Nat} {v v' : Value} {w w' : World} {l : List (List UInt8 × Value)} {ds : List De} (h : KH p b v v' w w') (hh : Hier w B p b v l ds) (hBw : B ≤ w.heap.size) : Below B w w' :=
  ⟨h.os, h.tape, h.output, h.size, fun x hx => h.block x (by omega) (by have := hh.hB; omega) (by have := hh.hB; omega) (fun e => by have := (hh.own.lt x e).1; omega)⟩

theorem infoStr : (Try.prog.info? 9).map (fun i => (i.zero, i.size, i.bytes)) = some (some (.string ⟨#[]⟩), 1, 16) := by kernel_rfl

/-- what the operations ahead of the store into the map leave -/
def adV (wc : World) (p b gD : Nat) (n : List UInt8) (ar k o : Int) (t : List UInt8) (kids : Fo) (A : Option Addr) (c : Nat) (cc : Bool) (j : Nat) (v : Value) (w : World) : Prop :=
  match j with
  | 0 => v = .pointer (some ⟨p, 0, none⟩)
  | 1 => v = .pointer (some ⟨p, 0, none⟩)
  | 2 => v = .pointer (some ⟨p, 1, none⟩)
  | 3 => v = .map (some b)
  | 4 => v = .pointer (some ⟨gD, 0, none⟩)
  | 5 => v = .string ⟨n.toArray⟩
  | 6 => v = .agg #[.string ⟨n.toArray⟩, .int .i64 ar, .int .i64 k, .string ⟨t.toArray⟩, .int .i64 o, .slice A kids.len c, .bool cc, .slice none 0 0]
  | 7 => ∃ A2 c2, v = .agg #[.string ⟨n.toArray⟩, .int .i64 ar, .int .i64 k, .string ⟨t.toArray⟩, .int .i64 o, .slice A2 kids.len c2, .bool cc, .slice none 0 0] ∧ KS w (fun x => wc.heap.size ≤ x) kids A2 c2
  | _ => True
theorem adV_bh {wc : World} {p b gD : Nat} {n : List UInt8} {ar k o : Int} {t : List UInt8} {kids : Fo} {A : Option Addr} {c : Nat} {cc : Bool} {j : Nat} {v : Value} {w w' : World} (h : adV wc p b gD n ar k o t kids A c cc j v w) (hb : BH w w') : adV wc p b gD n ar k o t kids A c cc j v w' := by
  unfold adV at *
  split at h
  all_goals first
    | exact h
    | (obtain ⟨A2, c2, e, hk⟩ := h; exact ⟨A2, c2, e, hk.bh hb⟩)

set_option maxHeartbeats 8000000 in
set_option maxRecDepth 100000 in
theorem hadd_any (V : Int) (B p b : Nat) (v : Value) (l : List (List UInt8 × Value)) (ds : List De) (d : De) (A : Option Addr) (c : Nat) (w : World) (h : Hier w B p b v l ds) (hBw : B ≤ w.heap.size) (hlen : ds.length ≤ 1000) (hn : d.name.length ≤ 1048576) (hnew : getM l d.name = none)
    (hV0 : 0 ≤ V) (hV1 : V ≤ 1152921504606846976) (hN : fsize d.super.kids ≤ 1099511627776) (hK : KS w (fun x => x ≠ p ∧ x ≠ b ∧ v.ownBlock ≠ some x) d.super.kids A c) (hcl : closed1 d.super.k d.super.o d.super.kids V = true) :
    Calls Try.prog 10 #[.pointer (some ⟨p, 0, none⟩), .agg #[.string ⟨d.name.toArray⟩, .int .i64 d.arity, .int .i64 d.super.k, .string ⟨d.super.t.toArray⟩, .int .i64 d.super.o, .slice A d.super.kids.len c, .bool d.conc, .slice none 0 0]] w
      fun e w' => ∃ v' u, e = .returned (.tuple #[]) ∧ Hier w' B p b v' (l ++ [(d.name, u)]) (ds ++ [d]) ∧ KH p b v v' w w' := by
  obtain ⟨i0, hi, hz0, hz1, hz2⟩ := info_parts infoStr
  obtain ⟨n, ar, ⟨k, t, kids, o⟩, cc, fs⟩ := d
  simp only at *
  obtain ⟨A5, c5, rfl, hc5⟩ := own_shape h.own
  have f1 := bh_alloc (BH.refl w) (.cells #[.string ⟨n.toArray⟩, .int .i64 ar, .int .i64 k, .string ⟨t.toArray⟩, .int .i64 o, .slice A kids.len c, .bool cc, .slice none 0 0] 34)
  have e1 := heap_alloc_new w (.cells #[.string ⟨n.toArray⟩, .int .i64 ar, .int .i64 k, .string ⟨t.toArray⟩, .int .i64 o, .slice A kids.len c, .bool cc, .slice none 0 0] 34)
  have H := Lib.hid h
  have HK := Lib.hid hK
  have HCl := Lib.hid hcl
  have HNew := Lib.hid hnew
  have HF := Lib.hid (And.intro e1 f1)
  have hp1 := (Below.block f1 _ (heap_lt h.blk)).trans h.blk
  clear h hK hcl hnew hc5
  go_enter Try.func10, Try.ntmps10
  go_upto_region 1 with (fail)
  refine gen_wp _ (fun X => X.heap[w.heap.size]? = some (.cells #[.string ⟨n.toArray⟩, .int .i64 ar, .int .i64 k, .string ⟨t.toArray⟩, .int .i64 o, .slice A kids.len c, .bool cc, .slice none 0 0] 34 (0, 0)) ∧ BH w X) HF.out ?_
  rintro X1 ⟨x1, x2⟩
  obtain ⟨gD, hgD⟩ : ∃ gD, w.heap.size = gD := ⟨_, rfl⟩
  have HgD := Lib.hid hgD
  rw [hgD] at x1 ⊢
  have HX := Lib.hid (And.intro x1 x2)
  obtain ⟨⟨r0, r1, r2, r3, r4, r5, r6, r7⟩, _⟩ := row8 x1
  have hpX := (Below.block x2 _ (heap_lt H.out.blk)).trans H.out.blk
  obtain ⟨s0, s1, y0, y1⟩ := row2 hpX
  have HO := Lib.hid (H.out.bh (BH.trans x2 (below_drew X1))).own
  have HpX := Lib.hid hpX
  have hpl := heap_lt hpX
  have hbl : b < X1.heap.size := Nat.lt_of_lt_of_le H.out.map.lt (Below.size x2)
  have hBX : B ≤ X1.heap.size := Nat.le_trans hBw (Below.size x2)
  clear x1 x2 hgD hp1 e1 f1 hpX HF
  go_cut [] (fun wx => Hid (∃ v' : Value, X1.heap.size ≤ wx.heap.size ∧ wx.heap[p]? = some (.cells #[v', .map (some b)] 41 (0, 0)) ∧ wx.ownsRow B 9 1 v' (ds.length + 1) ((namesV ds) ++ [.string ⟨n.toArray⟩]) ∧ KH p b (.slice A5 ds.length c5) v' X1 wx ∧ wx.heap[b]? = X1.heap[b]? ∧ v'.ownBlock ≠ some p ∧ v'.ownBlock ≠ some b))
  case first =>
    go_region_law (refine step_app _ (by rfl) _ _ _ (by rfl) B 9 i0 _ 1 16 Try.underlying39 hi hz0 hz1 hz2 rfl (by decide) (.slice A5 ds.length c5) ds.length (namesV ds) (by rfl) (HO.out.alloc _) (some ⟨X1.heap.size, 0, none⟩) 1 1 [.string ⟨n.toArray⟩] (by rfl) (cel1 (heap_alloc_new _ _)) (by intro u hu; simp at hu; subst hu; rfl) (by unfold maxLen; omega) (by omega) (by simp; omega) ?_; intro v1 w5 ho hg ha; obtain ⟨A6, c6, rfl, hc6⟩ := own_shape ho; have hp5 := Lib.hid ((hg.block p (by simp; omega) (fun e => H.out.hvp e.symm)).trans ((Below.heap_alloc X1 _ p hpl).trans HpX.out)); have HO2 := Lib.hid (And.intro ho (And.intro hg ha)); obtain ⟨s0, s1, y0, y1⟩ := row2 hp5.out; clear ho hg ha hc6)
    all_goals
      go_wp2_with (fail)
      go_meet
      obtain ⟨ho, hg, ha⟩ := HO2.out
      have hs5 := hg.size
      simp at hs5
      have hne' : (Value.slice A6 (ds.length + 1) c6).ownBlock ≠ some p := by
        rcases ha with e | e
        · rw [e]; exact H.out.hvp
        · rw [e]; simp; omega
      refine Lib.hid ⟨.slice A6 (ds.length + 1) c6, by simp [size_set]; omega, heap_set (i := 0) hp5.out _, ?_, ⟨hg.os, hg.tape, hg.output, by simp [size_set]; omega, fun x hx hxp hxb hxv => ?_, ?_⟩, ?_, hne', ?_⟩
      · have := ho.kept (row := some p) (gb_setCell (p := ⟨p, 0, none⟩) (World.grownBy.refl _ _) (.inl rfl) (Value.slice A6 (ds.length + 1) c6)) (.inr hne')
        simpa using this
      · exact (heap_far hxp _).trans ((hg.block x (by simp; omega) (fun e => hxv e.symm)).trans (Below.heap_alloc X1 _ x hx))
      · rcases ha with e | e
        · exact .inl e
        · exact .inr ⟨_, by simp, e⟩
      · exact (heap_far (p := ⟨p, 0, none⟩) (fun e => H.out.hpb e.symm) _).trans ((hg.block b (by simp; omega) (fun e => H.out.hvb e.symm)).trans (Below.heap_alloc X1 _ b hbl))
      · rcases ha with e | e
        · rw [e]; exact H.out.hvb
        · rw [e]; simp; omega
  case rest =>
    obtain ⟨v', q1, q2, q3, q4, q5, q6, q7⟩ := hcut.out
    have hX1 := HX.out
    have hHX := H.out.bh hX1.2
    have hgd : gD ≠ p ∧ gD ≠ b ∧ (Value.slice A5 ds.length c5).ownBlock ≠ some gD := by
      have hg := HgD.out
      refine ⟨by have := heap_lt H.out.blk; omega, by have := H.out.map.lt; omega, fun e => by have := (H.out.own.lt gD e).2; omega⟩
    have hD := (q4.block gD (heap_lt hX1.1) hgd.1 hgd.2.1 hgd.2.2).trans hX1.1
    have hkp : ∀ x, (x ≠ p ∧ x ≠ b ∧ (Value.slice A5 ds.length c5).ownBlock ≠ some x) → x < X1.heap.size → wc.heap[x]? = X1.heap[x]? ∧ (x ≠ p ∧ x ≠ b ∧ v'.ownBlock ≠ some x) := by
      rintro x ⟨x1, x2, x3⟩ hl
      refine ⟨q4.block x hl x1 x2 x3, x1, x2, ?_⟩
      rcases q4.own with e | ⟨g, hg, e⟩
      · rw [e]; exact x3
      · rw [e]; intro e'; cases e'; omega
    have hKc : KS wc (fun x => x ≠ p ∧ x ≠ b ∧ v'.ownBlock ≠ some x) kids A c := (HK.out.bh hX1.2).keep q4.size hkp
    have hMc : MapL wc b l := (hHX.map).keep q5
    have hRc : ∀ (i : Nat) (d : De), ds[i]? = some d → ∃ u : Value, l[i]? = some (d.name, u) ∧ D0 wc (fun x => x ≠ p ∧ x ≠ b ∧ v'.ownBlock ≠ some x) u d := by
      intro i d hd
      obtain ⟨u, h1, h2⟩ := hHX.row i d hd
      exact ⟨u, h1, h2.keep q4.size hkp⟩
    have hKH : KH p b (.slice A5 ds.length c5) v' w wc := (KH.bh hX1.2).trans q4
    have HW := Lib.hid (And.intro q2 (And.intro q3 (And.intro hMc (And.intro hRc (And.intro hKc (And.intro hD (And.intro hKH (And.intro q6 q7))))))))
    clear q1 q2 q3 q4 q5 q6 q7 hD hkp hKc hMc hRc hKH hX1 hHX hcut HX HpX HO r0 r1 r2 r3 r4 r5 r6 r7 s0 s1 y0 y1
    go_upto_region 2 with (fail)
    obtain ⟨RR, hRR⟩ : ∃ RR : Act → World → Prop, RR = (fun (_ : Act) W => Hid (∃ u, Hier W B p b v' (l ++ [(n, u)]) (ds ++ [⟨n, ar, ⟨k, t, kids, o⟩, cc, fs⟩]) ∧ KH p b (.slice A5 ds.length c5) v' w W)) := ⟨_, rfl⟩
    have HRR := Lib.hid hRR
    clear hRR
    refine wp_region_last (γ := Unit) (by kernel_rfl) (fun _ => adV wc p b gD n ar k o t kids A c cc) (fun _ W => BH wc W) (fun _ W _ W' => BH W W') (fun _ _ => True) RR () 8 _ rfl (below_drew wc) (fun _ => trivial) (fun _ _ _ _ h1 h2 => BH.trans h1 h2) (fun _ _ _ _ _ _ h1 h2 => adV_bh h1 h2) (by kernel_rfl) ?_ ?_ ?_
    · refine ⟨?_, ?_, ?_, ?_, ?_, ?_, ?_, ?_, trivial⟩
      · intro m a W hI _ hF hD
        have h := same_of hF 0 (by kernel_rfl)
        go_simp
        exact ⟨_, rfl, rfl, BH.refl _⟩
      · intro m a W hI _ hF hD
        have h : a.tmps[15]?.getD undef = .pointer (some ⟨p, 0, none⟩) := dep_of hD 0 15 (by kernel_rfl) rfl rfl
        go_simp
        exact ⟨_, rfl, rfl, BH.refl _⟩
      · intro m a W hI _ hF hD
        have h : a.tmps[16]?.getD undef = .pointer (some ⟨p, 0, none⟩) := dep_of hD 1 16 (by kernel_rfl) rfl rfl
        go_simp
        exact ⟨_, rfl, rfl, BH.refl _⟩
      · intro m a W hI _ hF hD
        have h : a.tmps[17]?.getD undef = .pointer (some ⟨p, 1, none⟩) := dep_of hD 2 17 (by kernel_rfl) rfl rfl
        obtain ⟨s0, s1, _⟩ := row2 ((Below.block hI _ (heap_lt HW.out.1)).trans HW.out.1)
        go_simp
        exact ⟨_, rfl, rfl, BH.refl _⟩
      · intro m a W hI _ hF hD
        have h := same_of hF 3 (by kernel_rfl)
        go_simp
        exact ⟨_, rfl, rfl, BH.refl _⟩
      · intro m a W hI _ hF hD
        have h : a.tmps[19]?.getD undef = .pointer (some ⟨gD, 0, none⟩) := dep_of hD 4 19 (by kernel_rfl) rfl rfl
        obtain ⟨⟨r0, r1, r2, r3, r4, r5, r6, r7⟩, _⟩ := row8 ((Below.block hI _ (heap_lt HW.out.2.2.2.2.2.1)).trans HW.out.2.2.2.2.2.1)
        go_simp
        exact ⟨_, rfl, rfl, BH.refl _⟩
      · intro m a W hI _ hF hD
        have h := same_of hF 3 (by kernel_rfl)
        obtain ⟨⟨r0, r1, r2, r3, r4, r5, r6, r7⟩, _⟩ := row8 ((Below.block hI _ (heap_lt HW.out.2.2.2.2.2.1)).trans HW.out.2.2.2.2.2.1)
        go_simp
        exact ⟨_, rfl, rfl, BH.refl _⟩
      · intro m a W hI _ hF hD
        have h : a.tmps[21]?.getD undef = .agg #[.string ⟨n.toArray⟩, .int .i64 ar, .int .i64 k, .string ⟨t.toArray⟩, .int .i64 o, .slice A kids.len c, .bool cc, .slice none 0 0] := dep_of hD 6 21 (by kernel_rfl) rfl rfl
        go_simp
        refine (copyDecl0 V n ar k o t kids A c cc W hV0 hV1 hN (HW.out.2.2.2.2.1.bh hI).kt HCl.out).mono ?_
        rintro e u ⟨A2, c2, rfl, h1, h2⟩
        have hs := Below.size hI
        exact ⟨_, rfl, ⟨A2, c2, rfl, h1.keep (Nat.le_refl _) fun x hx _ => ⟨rfl, Nat.le_trans hs hx⟩⟩, h2⟩
    · intro m a W hI hF hall
      have h18 : a.tmps[18]?.getD undef = .map (some b) := all_of hall 3 18 rfl rfl
      have h20 : a.tmps[20]?.getD undef = .string ⟨n.toArray⟩ := all_of hall 5 20 rfl rfl
      obtain ⟨A2, c2, h22, hk2⟩ : ∃ A2 c2, a.tmps[22]?.getD undef = .agg #[.string ⟨n.toArray⟩, .int .i64 ar, .int .i64 k, .string ⟨t.toArray⟩, .int .i64 o, .slice A2 kids.len c2, .bool cc, .slice none 0 0] ∧ KS W (fun x => wc.heap.size ≤ x) kids A2 c2 := all_of hall 7 22 rfl rfl
      obtain ⟨w1, w2, w3, w4, w5, w6, w7, w8, w9⟩ := HW.out
      have hMW : MapL W b l := w3.keep (Below.block hI _ w3.lt)
      obtain ⟨W', hrun, m1, m2, m3⟩ := hMW.push (P := Try.prog) (t := 38) Try.underlying9 Try.underlying38 (s := n) (by unfold maxLen; omega) (.agg #[.string ⟨n.toArray⟩, .int .i64 ar, .int .i64 k, .string ⟨t.toArray⟩, .int .i64 o, .slice A2 kids.len c2, .bool cc, .slice none 0 0]) HNew.out
      have hrun' : (Instr.mapUpdate 38 (.map (some b)) (.string ⟨n.toArray⟩) (.agg #[.string ⟨n.toArray⟩, .int .i64 ar, .int .i64 k, .string ⟨t.toArray⟩, .int .i64 o, .slice A2 kids.len c2, .bool cc, .slice none 0 0])).run Try.prog W = .ok () W' := hrun
      have hfin : RR a W' := by
        rw [HRR.out]
        have hsW := Below.size hI
        have hlp := heap_lt w1
        have hlb := w3.lt
        have hBl : ∀ x, x < wc.heap.size → x ≠ b → W'.heap[x]? = wc.heap[x]? := fun x hx hxb => (m2.block x (by omega) (fun e => hxb (by cases e; rfl))).trans (Below.block hI x hx)
        have hkp : ∀ x, (x ≠ p ∧ x ≠ b ∧ v'.ownBlock ≠ some x) → x < wc.heap.size → W'.heap[x]? = wc.heap[x]? ∧ (x ≠ p ∧ x ≠ b ∧ v'.ownBlock ≠ some x) := fun x hx hl => ⟨hBl x hl hx.2.1, hx⟩
        refine Lib.hid ⟨_, ⟨(hBl p hlp H.out.hpb).trans w1, ?_, m1, by simp [H.out.len], ?_, H.out.hpb, w8, w9, H.out.hB⟩, w7.trans ⟨m2.os.trans (Below.os hI), m2.tape.trans (Below.tape hI), m2.output.trans (Below.output hI), by omega, fun x hx _ hxb _ => hBl x hx hxb, .inl rfl⟩⟩
        · have o1 := w2.kept (row := none) (gb_below hI none) (by
            cases hv : v'.ownBlock with
            | none => exact .inl rfl
            | some x => exact .inr (by simp))
          have o2 := o1.kept (row := some b) m2 (.inr w9)
          simpa [namesV] using o2
        · intro i d' hd'
          rcases Nat.lt_or_ge i ds.length with hlt | hge
          · rw [List.getElem?_append_left hlt] at hd'
            obtain ⟨u, h1, h2⟩ := w4 i d' hd'
            refine ⟨u, ?_, h2.keep (by omega) hkp⟩
            rw [List.getElem?_append_left (by rw [H.out.len]; exact hlt)]
            exact h1
          · rw [List.getElem?_append_right hge] at hd'
            obtain ⟨h0, rfl⟩ : i - ds.length = 0 ∧ (⟨n, ar, ⟨k, t, kids, o⟩, cc, fs⟩ : De) = d' := by
              rcases hj : i - ds.length with _ | j
              · rw [hj] at hd'
                exact ⟨rfl, by simpa using hd'⟩
              · rw [hj] at hd'
                simp at hd'
            refine ⟨_, ?_, A2, c2, rfl, hk2.keep (by omega) fun x hx hl => ⟨m2.block x hl (fun e => by cases e; omega), by omega, by omega, fun e => ?_⟩⟩
            · rw [List.getElem?_append_right (by rw [H.out.len]; exact hge), H.out.len, h0]
              rfl
            · have := (w2.lt x e).2
              omega
      clear m1 m2 m3 hrun hMW w1 w2 w3 w4 w5 w6 w7 w8 w9
      go_simp
      exact hfin
    · intro a W hF hR
      rw [HRR.out] at hR
      obtain ⟨u, h1, h2⟩ := hR.out
      exact bodyPost_end (results_none rfl _ _ _) (hF.defers.trans rfl) ⟨v', u, rfl, h1, h2⟩
end Go.Proofs.Ytpdigaankmgagaa
namespace Go.Proofs.Ytpdigaankmgagaa
open Go.RowKit Sx

theorem Hier.none' {w : World} {B p b : Nat} {v : Value} {l : List (List UInt8 × Value)} {ds : List De} (h : Hier w B p b v l ds) {s : List UInt8} (hs : findD ds s = none) : getM l s = none := by
  refine getM_none fun q hq => ?_
  obtain ⟨i, hi, hqi⟩ := List.getElem_of_mem hq
  have hid : i < ds.length := by rw [← h.len]; exact hi
  obtain ⟨u, h1, _⟩ := h.row i _ (List.getElem?_eq_getElem hid)
  rw [List.getElem?_eq_getElem hi, hqi] at h1
  have h2 := Option.some.inj h1
  have h3 := List.find?_eq_none.1 hs _ (List.getElem_mem hid)
  rw [h2]
  simpa using h3
theorem Hier.some' {w : World} {B p b : Nat} {v : Value} {l : List (List UInt8 × Value)} {ds : List De} (h : Hier w B p b v l ds) {s : List UInt8} {d : De} (hs : findD ds s = some d) :
    d.name = s ∧ ∃ u, getM l s = some u ∧ D0 w (fun x => x ≠ p ∧ x ≠ b ∧ v.ownBlock ≠ some x) u d := by
  have h1 : d.name = s := by simpa using List.find?_some hs
  obtain ⟨i, hi, hdi⟩ := List.getElem_of_mem (List.mem_of_find?_eq_some hs)
  obtain ⟨u, h2, h3⟩ := h.row i d (by rw [List.getElem?_eq_getElem hi, hdi])
  obtain ⟨es, clock, _, _, hn, _⟩ := h.map
  refine ⟨h1, u, getM_some hn ?_, h3⟩
  rw [← h1]
  exact List.mem_of_getElem? h2

def nm0 : List (List UInt8) := [[73, 110, 116], [66, 111, 111, 108], [83, 116, 114, 105, 110, 103], [78, 105, 108]]
def dNew (s : List UInt8) : De := ⟨s, 0, ⟨0, [], .nil, 0⟩, true, []⟩
/-- the declarations of New -/
def ds0 : List De := nm0.map dNew

set_option maxHeartbeats 8000000 in
set_option maxRecDepth 100000 in
theorem hnew_any (w : World) : Calls Try.prog 4 #[] w fun e w' => ∃ p b v l, e = .returned (.pointer (some ⟨p, 0, none⟩)) ∧ Hier w' w.heap.size p b v l ds0 ∧ BH w w' := by
  have hmm := @run_makeMap Try.prog
  go_enter Try.func4, Try.ntmps4
  go_upto_region 2 with (fail)
  refine gen_wp _ (fun X => Hier X w.heap.size (w.heap.size + 1) w.heap.size (.slice none 0 0) [] [] ∧ BH w X) ?_ ?_
  · have h1 := bh_alloc (bh_alloc (BH.refl w) (.map #[] 0)) (.cells #[.slice none 0 0, .map (some w.heap.size)] 41)
    have h2 := heap_alloc_new (w.alloc (.map #[] 0)) (.cells #[.slice none 0 0, .map (some w.heap.size)] 41)
    rw [World.size_alloc] at h2
    exact ⟨⟨h2, World.ownsRow_nil _ _ _ _, (MapL.made w).keep (Below.heap_alloc (w.alloc (.map #[] 0)) _ w.heap.size (by simp)), rfl, fun i d hd => by simp at hd, by omega, by simp [Value.ownBlock], by simp [Value.ownBlock], by omega, Nat.le_refl _⟩, h1⟩
  rintro X ⟨hH, hb⟩
  have HH := Lib.hid hH
  have HB := Lib.hid hb
  have hpl := heap_lt hH.blk
  have hbl := hH.map.lt
  have hS := heap_alloc_new X (.cells #[.string ⟨#[73, 110, 116]⟩, .string ⟨#[66, 111, 111, 108]⟩, .string ⟨#[83, 116, 114, 105, 110, 103]⟩, .string ⟨#[78, 105, 108]⟩] 9)
  have fS := bh_alloc (BH.refl X) (.cells #[.string ⟨#[73, 110, 116]⟩, .string ⟨#[66, 111, 111, 108]⟩, .string ⟨#[83, 116, 114, 105, 110, 103]⟩, .string ⟨#[78, 105, 108]⟩] 9)
  have HS := Lib.hid (And.intro hS fS)
  clear hH hb hS fS hmm
  go_wp2_with (fail)
  go_loopw [9] (fun iv wr => ∃ (i : Nat) (v : Value) (l : List (List UInt8 × Value)), iv = .int .i64 (i : Int) ∧ i ≤ 4 ∧ Hier wr w.heap.size (w.heap.size + 1) w.heap.size v l (ds0.take i) ∧ BH w wr ∧ v.ownBlock ≠ some X.heap.size ∧
      wr.heap[X.heap.size]? = some (.cells #[.string ⟨#[73, 110, 116]⟩, .string ⟨#[66, 111, 111, 108]⟩, .string ⟨#[83, 116, 114, 105, 110, 103]⟩, .string ⟨#[78, 105, 108]⟩] 9 (0, 0))) (fun iv _ => 4 - (match iv with | .int _ n => n.toNat | _ => 0))
  case atStart => exact ⟨0, _, [], rfl, by omega, HH.out.bh HS.out.2, BH.trans HB.out HS.out.2, by simp [Value.ownBlock], HS.out.1⟩
  case round =>
    obtain ⟨i, v, l, rfl, hi4, hH, hb, hvS, hS⟩ := hrel
    have HHr := Lib.hid hH
    have HBr := Lib.hid hb
    have HVS := Lib.hid hvS
    have HSr := Lib.hid hS
    by_cases hlt : i < 4
    · obtain ⟨s, hs, hcell, hnew⟩ : ∃ s, nm0[i]? = some s ∧ wr.cell? ⟨X.heap.size, i, none⟩ = some (.string ⟨s.toArray⟩) ∧ findD (ds0.take i) s = none := by
        have h4 : i = 0 ∨ i = 1 ∨ i = 2 ∨ i = 3 := by omega
        rcases h4 with rfl | rfl | rfl | rfl
        · exact ⟨_, rfl, cell_of_row _ _ 0 _ _ _ hS, by decide⟩
        · exact ⟨_, rfl, cell_of_row _ _ 1 _ _ _ hS, by decide⟩
        · exact ⟨_, rfl, cell_of_row _ _ 2 _ _ _ hS, by decide⟩
        · exact ⟨_, rfl, cell_of_row _ _ 3 _ _ _ hS, by decide⟩
      have hsl : s.length ≤ 1048576 := by
        have hm : s ∈ nm0 := List.mem_of_getElem? hs
        have key : ∀ s ∈ nm0, s.length ≤ 1048576 := by decide
        exact key s hm
      have hge : decide ((i : Int) < 4) = true := by rw [decide_eq_true_eq]; omega
      have hiL : (i : Int) < 4 := by omega
      have hi0 : (0 : Int) ≤ (i : Int) := by omega
      have Hs := Lib.hid hs
      have HN := Lib.hid (HHr.out.none' hnew)
      clear hH hb hvS hS hs hnew
      go_wp2_with (fail)
      refine (hadd_any 1 w.heap.size (w.heap.size + 1) w.heap.size v l (ds0.take i) (dNew s) none 0 wr HHr.out (Below.size HBr.out) (by rw [List.length_take]; omega) hsl HN.out (by decide) (by decide) (by show fsize Fo.nil ≤ _; decide) ⟨Nat.le_refl _, [], reads_nil _ _, rfl⟩ rfl).mono ?_
      rintro e wr2 ⟨v2, u, rfl, h1, h2⟩
      have H1 := Lib.hid (And.intro h1 h2)
      clear h1 h2
      go_wp2_with (fail)
      obtain ⟨h1, h2⟩ := H1.out
      have hsz := heap_lt HSr.out
      refine ⟨⟨i + 1, v2, l ++ [((dNew s).name, u)], rfl, hlt, ?_, Below.trans (show Below w.heap.size w wr from HBr.out) (h2.below HHr.out (Below.size HBr.out)), ?_, (h2.block _ hsz (by omega) (by omega) HVS.out).trans HSr.out⟩, by simp; omega⟩
      · have e1 : ds0.take (i + 1) = ds0.take i ++ [dNew s] := by
          rw [List.take_add_one, ds0, List.getElem?_map, Hs.out]
          rfl
        rw [e1]
        exact h1
      · rcases h2.own with e | ⟨g, hg, e⟩
        · rw [e]; exact HVS.out
        · rw [e]; intro e'; cases e'; omega
    · have h4 : i = 4 := by omega
      subst h4
      clear hH hb hvS hS
      go_wp2_with (fail)
      go_ret
      exact ⟨_, _, _, _, rfl, HHr.out, HBr.out⟩
end Go.Proofs.Ytpdigaankmgagaa
