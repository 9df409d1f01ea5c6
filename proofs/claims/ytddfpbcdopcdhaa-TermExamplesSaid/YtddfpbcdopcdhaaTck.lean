/- tellaw2.check: the example of chapter 2. No condition. -/
import Derived.Test.YtddfpbcdopcdhaaTls
import Derived.Test.YtddfpbcdopcdhaaTva
import Derived.Test.YtddfpbcdopcdhaaTd
set_option linter.unusedVariables false
set_option linter.unusedSimpArgs false
namespace Go.Proofs.Ytddfpbcdopcdhaa
open Go.RowKit Sx

theorem setI_one (x : Int) : setI [x] = [x] := by unfold setI; rw [List.mergeSort_singleton]; rfl

theorem anyC (w : World) : Calls Try.prog 9 #[] w fun e w' => e = .returned (.agg #[.int .i64 0, .string ⟨#[]⟩, .int .i64 0, .slice none 0 0]) ∧ BH w w' := by
  go_enter Try.func9, Try.ntmps9
  go_wp2_with (fail)
  obtain ⟨m0, m1, m2, m3⟩ := box4 w (.int .i64 0) (.string ⟨#[]⟩) (.int .i64 0) (.slice none 0 0) 24
  exact bodyPost_ret (v := .agg #[.int .i64 0, .string ⟨#[]⟩, .int .i64 0, .slice none 0 0]) (by simp [results, Try.results9, go_sem, m0, m1, m2, m3]) rfl ⟨rfl, (Below.refl _ _).alloc (Nat.le_refl _) _⟩
theorem varC (i : Int) (w : World) : Calls Try.prog 5 #[.int .i64 i] w fun e w' => e = .returned (.agg #[.int .i64 5, .string ⟨#[]⟩, .int .i64 i, .slice none 0 0]) ∧ BH w w' := by
  go_enter Try.func5, Try.ntmps5
  go_wp2_with (fail)
  obtain ⟨m0, m1, m2, m3⟩ := box4 w (.int .i64 5) (.string ⟨#[]⟩) (.int .i64 i) (.slice none 0 0) 24
  exact bodyPost_ret (v := .agg #[.int .i64 5, .string ⟨#[]⟩, .int .i64 i, .slice none 0 0]) (by simp [results, Try.results5, go_sem, m0, m1, m2, m3]) rfl ⟨rfl, (Below.refl _ _).alloc (Nat.le_refl _) _⟩
theorem namedC (s : ByteArray) (A : Option Addr) (n c : Nat) (w : World) : Calls Try.prog 4 #[.string s, .slice A n c] w fun e w' => e = .returned (.agg #[.int .i64 2, .string s, .int .i64 0, .slice A n c]) ∧ BH w w' := by
  go_enter Try.func4, Try.ntmps4
  go_wp2_with (fail)
  obtain ⟨m0, m1, m2, m3⟩ := box4 w (.int .i64 2) (.string s) (.int .i64 0) (.slice A n c) 24
  exact bodyPost_ret (v := .agg #[.int .i64 2, .string s, .int .i64 0, .slice A n c]) (by simp [results, Try.results4, go_sem, m0, m1, m2, m3]) rfl ⟨rfl, (Below.refl _ _).alloc (Nat.le_refl _) _⟩

set_option maxHeartbeats 1000000 in
theorem existsC (k1 o1 k2 o2 : Int) (s1 s2 : ByteArray) (A1 A2 : Option Addr) (n1 c1 n2 c2 : Nat) (w : World) :
    Calls Try.prog 8 #[.agg #[.int .i64 k1, .string s1, .int .i64 o1, .slice A1 n1 c1], .agg #[.int .i64 k2, .string s2, .int .i64 o2, .slice A2 n2 c2]] w fun e w' =>
      ∃ g, e = .returned (.agg #[.int .i64 6, .string ⟨#[]⟩, .int .i64 0, .slice (some ⟨g, 0, none⟩) 2 2]) ∧ w'.heap[g]? = some (.cells #[.int .i64 k1, .string s1, .int .i64 o1, .slice A1 n1 c1, .int .i64 k2, .string s2, .int .i64 o2, .slice A2 n2 c2] 24 (0, 0)) ∧ BH w w' := by
  obtain ⟨b0, b1, b2, b3⟩ := box4 w (.int .i64 k1) (.string s1) (.int .i64 o1) (.slice A1 n1 c1) 24
  have ha := heap_alloc_new w (.cells #[.int .i64 k1, .string s1, .int .i64 o1, .slice A1 n1 c1] 24 (0, 0))
  go_enter Try.func8, Try.ntmps8
  go_wp2_with (fail)
  obtain ⟨wb, hwb⟩ : ∃ wb, (w.alloc (.cells #[.int .i64 k1, .string s1, .int .i64 o1, .slice A1 n1 c1] 24)).alloc (.cells #[.int .i64 k2, .string s2, .int .i64 o2, .slice A2 n2 c2] 24) = wb := ⟨_, rfl⟩
  have hs : wb.heap.size = w.heap.size + 2 := by rw [← hwb]; simp
  have hb : BH w wb := by rw [← hwb]; exact ((Below.refl _ _).alloc (Nat.le_refl _) _).alloc (by simp) _
  rw [hwb]
  have h1 := heap_alloc_new wb (.cells #[.int .i64 6, .string ⟨#[]⟩, .int .i64 0, .slice (some ⟨w.heap.size + 1 + 1 + 1, 0, none⟩) 2 2] 24 (0, 0))
  rw [hs] at h1
  have h2 := (Below.heap_alloc (wb.alloc (.cells #[.int .i64 6, .string ⟨#[]⟩, .int .i64 0, .slice (some ⟨w.heap.size + 1 + 1 + 1, 0, none⟩) 2 2] 24 (0, 0))) (.cells #[.int .i64 k1, .string s1, .int .i64 o1, .slice A1 n1 c1, .int .i64 k2, .string s2, .int .i64 o2, .slice A2 n2 c2] 24 (0, 0)) (w.heap.size + 2) (by simp [hs])).trans h1
  have h3 := heap_alloc_new (wb.alloc (.cells #[.int .i64 6, .string ⟨#[]⟩, .int .i64 0, .slice (some ⟨w.heap.size + 1 + 1 + 1, 0, none⟩) 2 2] 24 (0, 0))) (.cells #[.int .i64 k1, .string s1, .int .i64 o1, .slice A1 n1 c1, .int .i64 k2, .string s2, .int .i64 o2, .slice A2 n2 c2] 24 (0, 0))
  have hs3 : (wb.alloc (.cells #[.int .i64 6, .string ⟨#[]⟩, .int .i64 0, .slice (some ⟨w.heap.size + 1 + 1 + 1, 0, none⟩) 2 2] 24 (0, 0))).heap.size = w.heap.size + 1 + 1 + 1 := by simp [hs]
  rw [hs3] at h3
  obtain ⟨m0, m1, m2, m3, _⟩ := row4 h2
  exact bodyPost_ret (v := .agg #[.int .i64 6, .string ⟨#[]⟩, .int .i64 0, .slice (some ⟨w.heap.size + 1 + 1 + 1, 0, none⟩) 2 2]) (by simp [results, Try.results8, go_sem, m0, m1, m2, m3]) rfl
    ⟨_, rfl, h3, Below.alloc (Below.alloc hb (by omega) _) (by simp; omega) _⟩

/-- the example's term -/
def exT : Fo := .cons 0 [] .nil 0 (.cons 2 [66, 111, 120] (.one 5 [] .nil 0) 0 .nil)

set_option maxHeartbeats 2000000 in
theorem check2_any (w : World) : Calls Try.prog 10 #[] w fun e w' => e = .returned (.bool true) ∧ BH w w' := by
  go_enter Try.func10, Try.ntmps10
  go_wp2_with (fail)
  refine (anyC _).mono ?_
  rintro e w1 ⟨rfl, h1⟩
  have H1 := Lib.hid h1
  clear h1
  go_wp2_with (fail)
  refine (varC _ _).mono ?_
  rintro e w2 ⟨rfl, h2⟩
  have H2 := Lib.hid (BH.trans H1.out h2)
  clear h2
  have hA := heap_alloc_new w2 (.cells #[.int .i64 5, .string ⟨#[]⟩, .int .i64 0, .slice none 0 0] 24 (0, 0))
  have HA := Lib.hid hA
  have HB2 := Lib.hid (BH.trans H2.out ((Below.refl w2.heap.size w2).alloc (Nat.le_refl _) (.cells #[.int .i64 5, .string ⟨#[]⟩, .int .i64 0, .slice none 0 0] 24 (0, 0))))
  clear hA
  go_wp2_with (fail)
  refine (namedC _ _ _ _ _).mono ?_
  rintro e w3 ⟨rfl, h3⟩
  have H3 := Lib.hid (BH.trans HB2.out h3)
  have HA3 := Lib.hid ((Below.block h3 w2.heap.size (by simp)).trans HA.out)
  clear h3
  go_wp2_with (fail)
  refine (existsC _ _ _ _ _ _ _ _ _ _ _ _ _).mono ?_
  rintro e w4 ⟨g, rfl, hg, h4⟩
  have H4 := Lib.hid (BH.trans H3.out h4)
  have hA4 := (Below.block h4 w2.heap.size (heap_lt HA3.out)).trans HA3.out
  obtain ⟨gA, hgA⟩ : ∃ gA, w2.heap.size = gA := ⟨_, rfl⟩
  rw [hgA] at hA4 hg ⊢
  have hk1 : KT w4 (.one 5 [] .nil 0) (some ⟨gA, 0, none⟩) 1 := by
    refine ⟨Nat.le_refl _, [.int .i64 5, .string ⟨#[]⟩, .int .i64 0, .slice none 0 0], fun _ => ⟨gA, 0, rfl, trivial, heap_lt hA4, fun j u hu => ?_⟩, none, 0, [], [], rfl, Nat.le_refl _, fun h => absurd h (by simp [Fo.len]), rfl, rfl⟩
    rw [Nat.zero_add, cell_of_row _ _ j _ _ _ hA4]
    simpa using hu
  have hk : KT w4 exT (some ⟨g, 0, none⟩) 2 := by
    obtain ⟨hc, ys, q1, q2⟩ := hk1
    refine ⟨Nat.le_refl _, [.int .i64 0, .string ⟨#[]⟩, .int .i64 0, .slice none 0 0, .int .i64 2, .string ⟨#[66, 111, 120]⟩, .int .i64 0, .slice (some ⟨gA, 0, none⟩) 1 1], fun _ => ⟨g, 0, rfl, trivial, heap_lt hg, fun j u hu => ?_⟩, ?_⟩
    · rw [Nat.zero_add, cell_of_row _ _ j _ _ _ hg]
      simpa using hu
    · exact ⟨none, 0, [], _, rfl, Nat.le_refl _, fun h => absurd h (by simp [Fo.len]), rfl, some ⟨gA, 0, none⟩, 1, ys, [], rfl, hc, q1, q2, rfl⟩
  have hG := fun j u (hu : (#[Value.int .i64 0, .string ⟨#[]⟩, .int .i64 0, .slice none 0 0, .int .i64 2, .string ⟨#[66, 111, 120]⟩, .int .i64 0, .slice (some ⟨gA, 0, none⟩) 1 1] : Array Value)[j]? = some u) => (cell_of_row w4 g j _ _ _ hg).trans hu
  have HK1 := Lib.hid hk1
  have HK := Lib.hid hk
  have HG := Lib.hid hG
  clear hgA hA4 hg hk1 hk hG h4 HA3 HA
  have hfv1 : ∀ X, BH w4 X → Calls Try.prog 19 #[.agg #[.int .i64 2, .string ⟨#[66, 111, 120]⟩, .int .i64 0, .slice (some ⟨gA, 0, none⟩) 1 1]] X fun e u => (∃ g1 c1, e = .returned (.slice (some ⟨g1, 0, none⟩) 1 c1) ∧ u.cell? ⟨g1, 0, none⟩ = some (.int .i64 0)) ∧ BH X u := by
    intro X hX
    refine (freeVars_any 2 0 [66, 111, 120] (.one 5 [] .nil 0) (some ⟨gA, 0, none⟩) 1 X (by decide) (HK1.out.below hX) (R := [0]) (by rw [show free1 2 0 (.one 5 [] .nil 0) 0 = [0] from by simp [free1, freeL, Fo.one, freeB, aroundB, wrap64], setI_one])).mono ?_
    rintro e u ⟨v', rfl, ho, hb⟩
    refine ⟨?_, hb⟩
    rcases ho.2 with ⟨_, h0⟩ | ⟨g1, cap, cur, rfl, _⟩
    · exact absurd h0 (by decide)
    · refine ⟨g1, cap, rfl, ?_⟩
      have := ho.cells (g := g1) rfl 0 (.int .i64 0) (by rfl)
      exact this
  have hfv2 : ∀ X, BH w4 X → Calls Try.prog 19 #[.agg #[.int .i64 6, .string ⟨#[]⟩, .int .i64 0, .slice (some ⟨g, 0, none⟩) 2 2]] X fun e u => (∃ A c, e = .returned (.slice A 0 c)) ∧ BH X u := by
    intro X hX
    refine (freeVars_any 6 0 [] exT (some ⟨g, 0, none⟩) 2 X (by decide) (HK.out.below hX) (R := []) (by rw [show free1 6 0 exT 0 = [] from rfl, setI_nil])).mono ?_
    rintro e u ⟨v', rfl, ho, hb⟩
    obtain ⟨A, c, rfl, _⟩ := own_shape ho
    exact ⟨⟨A, c, rfl⟩, hb⟩
  have hva : ∀ X, BH w4 X → Calls Try.prog 11 #[.agg #[.int .i64 6, .string ⟨#[]⟩, .int .i64 0, .slice (some ⟨g, 0, none⟩) 2 2]] X fun e u => e = .returned (.int .i64 0) ∧ BH X u := by
    intro X hX
    exact (validate_any 6 0 [] exT (some ⟨g, 0, none⟩) 2 X (by decide) (HK.out.below hX) (by decide) ⟨by decide, trivial, ⟨by decide, ⟨by decide, trivial, trivial⟩, trivial⟩⟩).mono fun e u h => ⟨h.1, h.2⟩
  have hsi : ∀ X, BH w4 X → Calls Try.prog 20 #[.agg #[.int .i64 6, .string ⟨#[]⟩, .int .i64 0, .slice (some ⟨g, 0, none⟩) 2 2]] X fun e u => e = .returned (.int .i64 4) ∧ BH X u := by
    intro X hX
    exact (size_any _ 6 0 [] exT (some ⟨g, 0, none⟩) 2 X (Nat.le_refl _) (by decide) (HK.out.below hX)).mono fun e u h => ⟨h.1, h.2⟩
  have hde : ∀ X, BH w4 X → Calls Try.prog 21 #[.agg #[.int .i64 6, .string ⟨#[]⟩, .int .i64 0, .slice (some ⟨g, 0, none⟩) 2 2]] X fun e u => e = .returned (.int .i64 3) ∧ BH X u := by
    intro X hX
    exact (depth_anyT _ 6 0 [] exT (some ⟨g, 0, none⟩) 2 X (Nat.le_refl _) (by decide) (HK.out.below hX)).mono fun e u h => ⟨h.1, h.2⟩
  have HF1 := Lib.hid hfv1
  have HF2 := Lib.hid hfv2
  have HVa := Lib.hid hva
  have HSi := Lib.hid hsi
  have HDe := Lib.hid hde
  have y0 := HG.out 0 _ rfl
  have y4 := HG.out 4 _ rfl
  have y5 := HG.out 5 _ rfl
  have y6 := HG.out 6 _ rfl
  have y7 := HG.out 7 _ rfl
  have hgl : g < w4.heap.size := by
    obtain ⟨_, ys, q1, _⟩ := HK.out
    obtain ⟨g', off', e, _, hl, _⟩ := q1 (by decide)
    cases e
    exact hl
  have hgne : ¬ g = w4.heap.size := by omega
  have hN := heap_alloc_new w4 (.cells #[.int .i64 6, .string ⟨#[]⟩, .int .i64 0, .slice (some ⟨g, 0, none⟩) 2 2] 24 (0, 0))
  have HN := Lib.hid hN
  have B5 : BH w4 (w4.alloc (.cells #[.int .i64 6, .string ⟨#[]⟩, .int .i64 0, .slice (some ⟨g, 0, none⟩) 2 2] 24 (0, 0))) := (Below.refl _ _).alloc (Nat.le_refl _) _
  have HB5 := Lib.hid B5
  obtain ⟨n0, n1, n2, n3, _⟩ := row4 hN
  clear hfv1 hfv2 hva hsi hde hN B5
  go_wp2_with (fail)
  refine (HF1.out _ HB5.out).mono ?_
  rintro e w5 ⟨⟨g1, c1, rfl, hc1⟩, hb⟩
  have HB6 := Lib.hid (BH.trans HB5.out hb)
  have HN6 := Lib.hid ((Below.block hb w4.heap.size (by simp)).trans HN.out)
  clear hb n0 n1 n2 n3
  obtain ⟨n0, n1, n2, n3, _⟩ := row4 HN6.out
  go_wp2_with (fail)
  refine (HVa.out _ HB6.out).mono ?_
  rintro e w6 ⟨rfl, hb⟩
  have HB7 := Lib.hid (BH.trans HB6.out hb)
  have HN7 := Lib.hid ((Below.block hb w4.heap.size (heap_lt HN6.out)).trans HN6.out)
  have hc2 := BH.cell hb hc1
  clear hb n0 n1 n2 n3 hc1
  obtain ⟨n0, n1, n2, n3, _⟩ := row4 HN7.out
  go_wp2_with (fail)
  refine (HF2.out _ HB7.out).mono ?_
  rintro e w7 ⟨⟨A9, c9, rfl⟩, hb⟩
  have HB8 := Lib.hid (BH.trans HB7.out hb)
  have HN8 := Lib.hid ((Below.block hb w4.heap.size (heap_lt HN7.out)).trans HN7.out)
  have hc3 := BH.cell hb hc2
  clear hb n0 n1 n2 n3 hc2
  obtain ⟨n0, n1, n2, n3, _⟩ := row4 HN8.out
  go_wp2_with (fail)
  refine (HSi.out _ HB8.out).mono ?_
  rintro e w8 ⟨rfl, hb⟩
  have HB9 := Lib.hid (BH.trans HB8.out hb)
  have HN9 := Lib.hid ((Below.block hb w4.heap.size (heap_lt HN8.out)).trans HN8.out)
  clear hb n0 n1 n2 n3
  obtain ⟨n0, n1, n2, n3, _⟩ := row4 HN9.out
  go_wp2_with (fail)
  refine (HDe.out _ HB9.out).mono ?_
  rintro e w9 ⟨rfl, hb⟩
  have HB10 := Lib.hid (BH.trans HB9.out hb)
  clear hb
  go_wp2_with (fail)
  go_ret
  exact ⟨rfl, BH.trans H4.out HB10.out⟩
end Go.Proofs.Ytddfpbcdopcdhaa
