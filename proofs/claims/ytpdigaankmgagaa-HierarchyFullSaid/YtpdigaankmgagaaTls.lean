/- typeterm.FreeVars: the free variables, sorted, each once. No condition but a bounded size. -/
import Derived.Test.YtpdigaankmgagaaTfc
import Derived.Test.YtpdigaankmgagaaShs
import Derived.Lib.OwnBridge
import Derived.Lib.RowBridge
import Derived.Sort.OwnSortedInts
set_option linter.unusedVariables false
set_option linter.unusedSimpArgs false
namespace Go.Proofs.Ytpdigaankmgagaa.Sx
/-- sorted, each once -/
def setI (l : List Int) : List Int := Go.Lib.compact (l.mergeSort fun x y => decide (x ≤ y))
theorem setI_nil : setI [] = [] := by unfold setI; rw [List.mergeSort_nil]; rfl
end Go.Proofs.Ytpdigaankmgagaa.Sx
namespace Go.Proofs.Ytpdigaankmgagaa
open Go.RowKit Go.Lib Go.Sort Sx

theorem own_mono {w : World} {base B : Nat} {e : TypeId} {size : Nat} {v : Value} {n : Nat} {xs : List Value} (h : w.ownsRow base e size v n xs) (hB : B ≤ base) : w.ownsRow B e size v n xs := by
  refine ⟨h.1, ?_⟩
  rcases h.2 with h | ⟨g, cap, cur, h1, h2, h3⟩
  · exact .inl h
  · exact .inr ⟨g, cap, cur, h1, by omega, h3⟩

set_option maxHeartbeats 2000000 in
theorem list_any (B b : Nat) (v : Value) (l : List Int) (w : World) (h : SA B b v l w) (hlen : l.length ≤ 8796093022208) (hBw : B ≤ w.heap.size) :
    Calls Try.prog 62 #[.pointer (some ⟨b, 0, none⟩)] w fun e w' => ∃ v', e = .returned v' ∧ w'.ownsRow B 3 1 v' (setI l).length ((setI l).map (Value.int .i64)) ∧ Below B w w' := by
  obtain ⟨hbk, hown, hne, hBb⟩ := id h
  obtain ⟨c0, f0⟩ := row1 hbk
  have hlt := heap_lt hbk
  by_cases hv : v = .slice none 0 0
  · subst hv
    have hl0 : l = [] := by
      rcases hown.2 with ⟨_, e⟩ | ⟨g, cap, cur, e, _⟩
      · exact List.eq_nil_of_length_eq_zero (by simpa using e)
      · cases e
    subst hl0
    rw [setI_nil]
    have HS := Lib.hid (fun W => Try.slices_Sort_int_none none 0 W)
    have HCm := Lib.hid (fun W => Try.slices_Compact_int_empty none 0 W)
    have HCl := Lib.hid (fun W => Try.slices_Clone_int_nil 0 0 W)
    clear h hown hne
    go_enter Try.func62, Try.ntmps62
    go_wp2_with (fail)
    refine (HS.out _).mono ?_
    rintro e w1 ⟨rfl, rfl⟩
    go_wp2_with (fail)
    refine (HCm.out _).mono ?_
    rintro e w1 ⟨rfl, rfl⟩
    go_wp2_with (fail)
    refine (HCl.out _).mono ?_
    rintro e w1 ⟨rfl, rfl⟩
    go_wp2_with (fail)
    go_ret
    exact ⟨_, rfl, World.ownsRow_nil _ _ _ _, Below.setCell (Below.refl _ _) hBb _⟩
  · obtain ⟨g, cap, rfl, hbg, hgl, hncap, hcm, hll, hH⟩ := holds_of_ownsRow hown hv
    have hgb : b ≠ g := fun e => hne (by rw [e]; rfl)
    have hl2 : (l.mergeSort fun x y => decide (x ≤ y)).length = l.length := List.length_mergeSort l
    have hle := compact_length_le (l.mergeSort fun x y => decide (x ≤ y))
    obtain ⟨cur, hb, h1, h2, h3⟩ : ∃ cur, w.heap[g]? = some (.cells cur 3 (0, 0)) ∧ l.length ≤ cap ∧ cap ≤ maxLen ∧ cur.size = cap * 1 := by
      rcases hown.2 with ⟨h0, _⟩ | ⟨g', cap', cur, hv, hbase, hb, h1, h2, h3, h4⟩
      · cases h0
      · cases hv
        exact ⟨cur, hb, h1, h2, h3⟩
    -- what the sort leaves
    have hS : Calls Try.prog 67 #[.slice (some ⟨g, 0, none⟩) l.length cap] w fun e w1 => e = .returned (.tuple #[]) ∧ w1.ownsRow B 3 1 (.slice (some ⟨g, 0, none⟩) l.length cap) l.length ((l.mergeSort fun x y => decide (x ≤ y)).map (Value.int .i64)) ∧ w.grownBy w1 (some g) := by
      refine (Try.slices_Sort_int g 0 cap l w hH hgl (by omega)).mono ?_
      rintro e w1 ⟨rfl, n, os, rfl⟩
      exact ⟨rfl, ownsRow_sortedI hl2 hbg hb h1 h2 h3, grownBy_sortedI _⟩
    have hC : ∀ W, W.ownsRow B 3 1 (.slice (some ⟨g, 0, none⟩) l.length cap) l.length ((l.mergeSort fun x y => decide (x ≤ y)).map (Value.int .i64)) →
        Calls Try.prog 68 #[.slice (some ⟨g, 0, none⟩) l.length cap] W fun e w1 => e = .returned (.slice (some ⟨g, 0, none⟩) (setI l).length cap) ∧ w1.ownsRow B 3 1 (.slice (some ⟨g, 0, none⟩) (setI l).length cap) (setI l).length ((setI l).map (Value.int .i64)) ∧ W.grownBy w1 (some g) := by
      intro W hW
      obtain ⟨g', cap', e0, _, hgl', _, _, hll', hH'⟩ := holds_of_ownsRow hW (by simp)
      cases e0
      have := Try.slices_Compact_int g 0 cap (l.mergeSort fun x y => decide (x ≤ y)) W hH' (by omega) (by omega)
      rw [hl2] at this
      refine this.mono ?_
      rintro e w1 ⟨rfl, q, rfl⟩
      refine ⟨rfl, ?_, ?_⟩
      · have hc := ownsRow_putRow (q := q) (k := (setI l).length) (ys := Lib.compact (l.mergeSort fun x y => decide (x ≤ y)) ++ List.replicate (l.length - (Lib.compact (l.mergeSort fun x y => decide (x ≤ y))).length) 0) hW (by simp; omega) (by unfold setI; omega)
        rw [show (setI l).length = (Lib.compact (l.mergeSort fun x y => decide (x ≤ y))).length from rfl, List.take_left] at hc
        exact hc
      · have hg := grownBy_sortedI (w := W) (g := g) (n := q) (os := #[]) (Lib.compact (l.mergeSort fun x y => decide (x ≤ y)) ++ List.replicate (l.length - (Lib.compact (l.mergeSort fun x y => decide (x ≤ y))).length) 0).toArray
        rw [grow_empty] at hg
        exact hg
    have hL : ∀ W, W.ownsRow B 3 1 (.slice (some ⟨g, 0, none⟩) (setI l).length cap) (setI l).length ((setI l).map (Value.int .i64)) →
        Calls Try.prog 69 #[.slice (some ⟨g, 0, none⟩) (setI l).length cap] W fun e w1 => ∃ v', e = .returned v' ∧ w1.ownsRow W.heap.size 3 1 v' (setI l).length ((setI l).map (Value.int .i64)) ∧ Below W.heap.size W w1 := by
      intro W hW
      have hcells : ∀ j, j < (setI l).length → W.cell? ⟨g, 0 + j, none⟩ = some (.int .i64 ((setI l).getD j 0)) := by
        intro j hj
        have := hW.cells (g := g) rfl j (.int .i64 ((setI l).getD j 0)) (by simp [List.getD, hj])
        rw [← this]
        congr 1
        unfold Addr.add
        split
        · rename_i h; simp [h]
        · simp
      have hsz : (setI l).length * 8 ≤ 140737488355328 := by unfold setI; omega
      refine (Try.slices_Clone_int g 0 (setI l).length cap (setI l) W (Nat.le_refl _) hsz hcells).mono ?_
      rintro e w1 ⟨v', rfl, h1, _, h2⟩
      rw [List.take_length] at h1
      exact ⟨v', rfl, h1, h2⟩
    obtain ⟨R, hR⟩ : ∃ R, setI l = R := ⟨_, rfl⟩
    rw [hR] at hC hL ⊢
    have HS := Lib.hid hS
    have HC := Lib.hid hC
    have HL := Lib.hid hL
    have HBK := Lib.hid hbk
    clear hS hC hL hH hb h1 h2 h3 hown hne hl2 hle hR hv h hbk hll
    go_enter Try.func62, Try.ntmps62
    go_wp2_with (fail)
    refine HS.out.mono ?_
    rintro e w1 ⟨rfl, ho1, hg1⟩
    have HBK1 := Lib.hid ((hg1.block b hlt (by simp; exact hgb)).trans HBK.out)
    have HO1 := Lib.hid ho1
    have HG1 := Lib.hid hg1
    clear ho1 hg1 c0 f0
    obtain ⟨c0, f0⟩ := row1 HBK1.out
    go_wp2_with (fail)
    refine (HC.out _ HO1.out).mono ?_
    rintro e w2 ⟨rfl, ho2, hg2⟩
    have HBK2 := Lib.hid ((hg2.block b (heap_lt HBK1.out) (by simp; exact hgb)).trans HBK1.out)
    have HO2 := Lib.hid ho2
    have HG2 := Lib.hid (gb_trans HG1.out hg2)
    clear ho2 hg2 c0 f0
    obtain ⟨c0, f0⟩ := row1 HBK2.out
    go_wp2_with (fail)
    have hO3 := HO2.out.kept (row := some b) (gb_setCell (p := ⟨b, 0, none⟩) (World.grownBy.refl _ _) (.inl rfl) (.slice (some ⟨g, 0, none⟩) R.length cap)) (.inr (by simp [Value.ownBlock]; omega))
    refine (HL.out _ hO3).mono ?_
    rintro e w3 ⟨v', rfl, ho4, hb4⟩
    have HO4 := Lib.hid ho4
    have HB4 := Lib.hid hb4
    clear ho4 hb4 hO3
    go_wp2_with (fail)
    go_ret
    have hs2 := HG2.out.size
    have hbel : Below B w (w2.setCell ⟨b, 0, none⟩ (.slice (some ⟨g, 0, none⟩) R.length cap)) :=
      Below.setCell ⟨HG2.out.os, HG2.out.tape, HG2.out.output, hs2, fun x hx => HG2.out.block x (by omega) (by simp; omega)⟩ hBb _
    exact ⟨v', rfl, own_mono HO4.out (by simp [size_set]; omega), hbel.trans (HB4.out.mono (by simp [size_set]; omega))⟩

theorem KB.mono {w : World} {B C : Nat} {f : Fo} {A : Option Addr} {c : Nat} (h : KB w B f A c) (hBC : B ≤ C) : KB w C f A c := by
  obtain ⟨hc, ys, h1, h2⟩ := h
  have key : ∀ (f : Fo) (ys : List Value), rowT w (fun x => x < B) f ys → rowT w (fun x => x < C) f ys := by
    intro f
    induction f with
    | nil => intro ys h; exact h
    | cons k t kids o r ih1 ih2 =>
      intro ys h
      obtain ⟨A, c, zs, us, hx, hc, hr, hk1, hk2⟩ := h
      exact ⟨A, c, zs, us, hx, hc, fun hn => (by obtain ⟨g, off, a1, a2, a3, a4⟩ := hr hn; exact ⟨g, off, a1, by omega, a3, a4⟩), ih1 _ hk1, ih2 _ hk2⟩
  exact ⟨hc, ys, fun hn => (by obtain ⟨g, off, a1, a2, a3, a4⟩ := h1 hn; exact ⟨g, off, a1, by omega, a3, a4⟩), key f ys h2⟩

set_option maxHeartbeats 2000000 in
theorem freeVars_any (k o : Int) (t : List UInt8) (kids : Fo) (A : Option Addr) (c : Nat) (w : World) (hN2 : fsize kids ≤ 8796093022206) (hK : KT w kids A c) {R : List Int} (hR : setI (free1 k o kids 0) = R) :
    Calls Try.prog 51 #[.agg #[.int .i64 k, .string ⟨t.toArray⟩, .int .i64 o, .slice A kids.len c]] w fun e w' => ∃ v', e = .returned v' ∧ w'.ownsRow w.heap.size 3 1 v' R.length (R.map (Value.int .i64)) ∧ BH w w' := by
  have hX := heap_alloc_new w (.cells #[.int .i64 k, .string ⟨t.toArray⟩, .int .i64 o, .slice A kids.len c] 31 (0, 0))
  obtain ⟨w0, hw0⟩ : ∃ w0, w.alloc (.cells #[.int .i64 k, .string ⟨t.toArray⟩, .int .i64 o, .slice A kids.len c] 31 (0, 0)) = w0 := ⟨_, rfl⟩
  have hs0 : w0.heap.size = w.heap.size + 1 := by rw [← hw0]; simp
  have hB0 : BH w w0 := by rw [← hw0]; exact (Below.refl _ _).alloc (Nat.le_refl _) _
  rw [hw0] at hX
  have hX1 := (Below.heap_alloc w0 (.cells #[.slice none 0 0] 84 (0, 0)) w.heap.size (by omega)).trans hX
  have hS := heap_alloc_new w0 (.cells #[.slice none 0 0] 84 (0, 0))
  rw [hs0] at hS
  have hB1 : BH w (w0.alloc (.cells #[.slice none 0 0] 84 (0, 0))) := Below.alloc hB0 (Below.size hB0) _
  have hKB : KB (w0.alloc (.cells #[.slice none 0 0] 84 (0, 0))) w.heap.size kids A c := hK.kb.below hB1
  have hSA : SA w.heap.size (w.heap.size + 1) (.slice none 0 0) [] (w0.alloc (.cells #[.slice none 0 0] 84 (0, 0))) := ⟨hS, World.ownsRow_nil _ _ _ _, by simp [Value.ownBlock], by omega⟩
  have HH := Lib.hid (And.intro hX1 (And.intro hKB (And.intro hSA hB1)))
  have hsz1 : (w0.alloc (.cells #[.slice none 0 0] 84 (0, 0))).heap.size = w.heap.size + 2 := by simp [hs0]
  have Hsz1 := Lib.hid hsz1
  rw [← hw0] at HH Hsz1
  have hfl := freeL_len kids k 0 0
  have hf1 : (free1 k o kids 0).length ≤ 1 + fsize kids := by
    simp only [free1, List.length_append]
    split <;> simp <;> omega
  have HRR := Lib.hid hR
  clear hX hX1 hS hB1 hKB hSA hsz1 hB0 hs0 hw0 w0 hK hfl hR
  obtain ⟨b0, b1, b2, b3⟩ := box4 w (.int .i64 k) (.string ⟨t.toArray⟩) (.int .i64 o) (.slice A kids.len c) 31
  go_enter Try.func51, Try.ntmps51
  go_wp2_with (fail)
  refine (collectFree_any _ k o 0 t kids A c w.heap.size (w.heap.size + 1) (.slice none 0 0) [] _ (Nat.le_refl _) (by omega) HH.out.2.1 HH.out.2.2.1 (by rw [Hsz1.out]; omega) (by decide) (by omega) (by simp; omega)).mono ?_
  rintro e w2 ⟨v2, rfl, hsa, hkq⟩
  have hsz2 : w.heap.size ≤ w2.heap.size := Nat.le_trans (by rw [Hsz1.out]; omega) hkq.size
  have HB2 := Lib.hid (Below.trans HH.out.2.2.2 (hkq.below HH.out.2.2.1 (by rw [Hsz1.out]; omega)))
  rw [List.nil_append] at hsa
  have HSA := Lib.hid hsa
  clear hsa hkq
  go_wp2_with (fail)
  refine (list_any w.heap.size (w.heap.size + 1) v2 _ w2 HSA.out (by omega) hsz2).mono ?_
  rintro e w3 ⟨v', rfl, ho, hb⟩
  rw [HRR.out] at ho
  have HO := Lib.hid ho
  have HB3 := Lib.hid hb
  clear ho hb
  go_wp2_with (fail)
  go_ret
  exact ⟨v', rfl, HO.out, HB2.out.trans HB3.out⟩
end Go.Proofs.Ytpdigaankmgagaa
