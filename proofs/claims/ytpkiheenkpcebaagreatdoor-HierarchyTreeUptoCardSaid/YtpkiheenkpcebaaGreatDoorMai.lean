/- typeterm.FreeVars: the free variables, sorted, each once. No condition but a bounded size. Blocks that hold one, two, three terms. No condition. Sorted rows without repetitions: sorting and leaving out repetitions is the same as putting each element in its place. Pure. No condition. -/
import Derived.Test.YtpkiheenkpcebaaGreatDoorMah
import Derived.Lib.OwnBridge
import Derived.Lib.RowBridge
import Derived.Sort.OwnSortedInts
import Derived.Test.YtpkiheenkpcebaaGreatDoorMab
import Derived.Test.YtpkiheenkpcebaaGreatDoorMaa
import Derived.Lib.SlicesCompact
set_option linter.unusedVariables false
set_option linter.unusedSimpArgs false
namespace Go.Proofs.YtpkiheenkpcebaaGreatDoor.Sx
/-- sorted, each once -/
def setI (l : List Int) : List Int := Go.Lib.compact (l.mergeSort fun x y => decide (x ≤ y))
theorem setI_nil : setI [] = [] := by unfold setI; rw [List.mergeSort_nil]; rfl
end Go.Proofs.YtpkiheenkpcebaaGreatDoor.Sx
namespace Go.Proofs.YtpkiheenkpcebaaGreatDoor
open Go.RowKit Go.Lib Go.Sort Sx

theorem own_mono {w : World} {base B : Nat} {e : TypeId} {size : Nat} {v : Value} {n : Nat} {xs : List Value} (h : w.ownsRow base e size v n xs) (hB : B ≤ base) : w.ownsRow B e size v n xs := by
  refine ⟨h.1, ?_⟩
  rcases h.2 with h | ⟨g, cap, cur, h1, h2, h3⟩
  · exact .inl h
  · exact .inr ⟨g, cap, cur, h1, by omega, h3⟩

set_option maxHeartbeats 2000000 in
theorem list_any (B b : Nat) (v : Value) (l : List Int) (w : World) (h : SA B b v l w) (hlen : l.length ≤ 8796093022208) (hBw : B ≤ w.heap.size) :
    Calls Tryz.prog 163 #[.pointer (some ⟨b, 0, none⟩)] w fun e w' => ∃ v', e = .returned v' ∧ w'.ownsRow B 3 1 v' (setI l).length ((setI l).map (Value.int .i64)) ∧ Below B w w' := by
  obtain ⟨hbk, hown, hne, hBb⟩ := id h
  obtain ⟨c0, f0⟩ := row1 hbk
  have hlt := heap_lt hbk
  by_cases hv : v = .slice none 0 0
  · subst hv
    have hl0 : l = [] := by
      rcases hown.2 with ⟨_, e⟩ | ⟨g, cap, cur, e, _⟩
      · exact List.eq_nil_of_length_eq_zero (by simpa using e)
      · cases e
    subst hl0
    rw [setI_nil]
    have HS := Lib.hid (fun W => Tryz.slices_Sort_int_none none 0 W)
    have HCm := Lib.hid (fun W => Tryz.slices_Compact_int_empty none 0 W)
    have HCl := Lib.hid (fun W => Tryz.slices_Clone_int_nil 0 0 W)
    clear h hown hne
    go_enter Tryz.func163, Tryz.ntmps163
    go_wp2_with (fail)
    refine (HS.out _).mono ?_
    rintro e w1 ⟨rfl, rfl⟩
    go_wp2_with (fail)
    refine (HCm.out _).mono ?_
    rintro e w1 ⟨rfl, rfl⟩
    go_wp2_with (fail)
    refine (HCl.out _).mono ?_
    rintro e w1 ⟨rfl, rfl⟩
    go_wp2_with (fail)
    go_ret
    exact ⟨_, rfl, World.ownsRow_nil _ _ _ _, Below.setCell (Below.refl _ _) hBb _⟩
  · obtain ⟨g, cap, rfl, hbg, hgl, hncap, hcm, hll, hH⟩ := holds_of_ownsRow hown hv
    have hgb : b ≠ g := fun e => hne (by rw [e]; rfl)
    have hl2 : (l.mergeSort fun x y => decide (x ≤ y)).length = l.length := List.length_mergeSort l
    have hle := compact_length_le (l.mergeSort fun x y => decide (x ≤ y))
    obtain ⟨cur, hb, h1, h2, h3⟩ : ∃ cur, w.heap[g]? = some (.cells cur 3 (0, 0)) ∧ l.length ≤ cap ∧ cap ≤ maxLen ∧ cur.size = cap * 1 := by
      rcases hown.2 with ⟨h0, _⟩ | ⟨g', cap', cur, hv, hbase, hb, h1, h2, h3, h4⟩
      · cases h0
      · cases hv
        exact ⟨cur, hb, h1, h2, h3⟩
    -- what the sort leaves
    have hS : Calls Tryz.prog 187 #[.slice (some ⟨g, 0, none⟩) l.length cap] w fun e w1 => e = .returned (.tuple #[]) ∧ w1.ownsRow B 3 1 (.slice (some ⟨g, 0, none⟩) l.length cap) l.length ((l.mergeSort fun x y => decide (x ≤ y)).map (Value.int .i64)) ∧ w.grownBy w1 (some g) := by
      refine (Tryz.slices_Sort_int g 0 cap l w hH hgl (by omega)).mono ?_
      rintro e w1 ⟨rfl, n, os, rfl⟩
      exact ⟨rfl, ownsRow_sortedI hl2 hbg hb h1 h2 h3, grownBy_sortedI _⟩
    have hC : ∀ W, W.ownsRow B 3 1 (.slice (some ⟨g, 0, none⟩) l.length cap) l.length ((l.mergeSort fun x y => decide (x ≤ y)).map (Value.int .i64)) →
        Calls Tryz.prog 188 #[.slice (some ⟨g, 0, none⟩) l.length cap] W fun e w1 => e = .returned (.slice (some ⟨g, 0, none⟩) (setI l).length cap) ∧ w1.ownsRow B 3 1 (.slice (some ⟨g, 0, none⟩) (setI l).length cap) (setI l).length ((setI l).map (Value.int .i64)) ∧ W.grownBy w1 (some g) := by
      intro W hW
      obtain ⟨g', cap', e0, _, hgl', _, _, hll', hH'⟩ := holds_of_ownsRow hW (by simp)
      cases e0
      have := Tryz.slices_Compact_int g 0 cap (l.mergeSort fun x y => decide (x ≤ y)) W hH' (by omega) (by omega)
      rw [hl2] at this
      refine this.mono ?_
      rintro e w1 ⟨rfl, q, rfl⟩
      refine ⟨rfl, ?_, ?_⟩
      · have hc := ownsRow_putRow (q := q) (k := (setI l).length) (ys := Lib.compact (l.mergeSort fun x y => decide (x ≤ y)) ++ List.replicate (l.length - (Lib.compact (l.mergeSort fun x y => decide (x ≤ y))).length) 0) hW (by simp; omega) (by unfold setI; omega)
        rw [show (setI l).length = (Lib.compact (l.mergeSort fun x y => decide (x ≤ y))).length from rfl, List.take_left] at hc
        exact hc
      · have hg := grownBy_sortedI (w := W) (g := g) (n := q) (os := #[]) (Lib.compact (l.mergeSort fun x y => decide (x ≤ y)) ++ List.replicate (l.length - (Lib.compact (l.mergeSort fun x y => decide (x ≤ y))).length) 0).toArray
        rw [grow_empty] at hg
        exact hg
    have hL : ∀ W, W.ownsRow B 3 1 (.slice (some ⟨g, 0, none⟩) (setI l).length cap) (setI l).length ((setI l).map (Value.int .i64)) →
        Calls Tryz.prog 189 #[.slice (some ⟨g, 0, none⟩) (setI l).length cap] W fun e w1 => ∃ v', e = .returned v' ∧ w1.ownsRow W.heap.size 3 1 v' (setI l).length ((setI l).map (Value.int .i64)) ∧ Below W.heap.size W w1 := by
      intro W hW
      have hcells : ∀ j, j < (setI l).length → W.cell? ⟨g, 0 + j, none⟩ = some (.int .i64 ((setI l).getD j 0)) := by
        intro j hj
        have := hW.cells (g := g) rfl j (.int .i64 ((setI l).getD j 0)) (by simp [List.getD, hj])
        rw [← this]
        congr 1
        unfold Addr.add
        split
        · rename_i h; simp [h]
        · simp
      have hsz : (setI l).length * 8 ≤ 140737488355328 := by unfold setI; omega
      refine (Tryz.slices_Clone_int g 0 (setI l).length cap (setI l) W (Nat.le_refl _) hsz hcells).mono ?_
      rintro e w1 ⟨v', rfl, h1, _, h2⟩
      rw [List.take_length] at h1
      exact ⟨v', rfl, h1, h2⟩
    obtain ⟨R, hR⟩ : ∃ R, setI l = R := ⟨_, rfl⟩
    rw [hR] at hC hL ⊢
    have HS := Lib.hid hS
    have HC := Lib.hid hC
    have HL := Lib.hid hL
    have HBK := Lib.hid hbk
    clear hS hC hL hH hb h1 h2 h3 hown hne hl2 hle hR hv h hbk hll
    go_enter Tryz.func163, Tryz.ntmps163
    go_wp2_with (fail)
    refine HS.out.mono ?_
    rintro e w1 ⟨rfl, ho1, hg1⟩
    have HBK1 := Lib.hid ((hg1.block b hlt (by simp; exact hgb)).trans HBK.out)
    have HO1 := Lib.hid ho1
    have HG1 := Lib.hid hg1
    clear ho1 hg1 c0 f0
    obtain ⟨c0, f0⟩ := row1 HBK1.out
    go_wp2_with (fail)
    refine (HC.out _ HO1.out).mono ?_
    rintro e w2 ⟨rfl, ho2, hg2⟩
    have HBK2 := Lib.hid ((hg2.block b (heap_lt HBK1.out) (by simp; exact hgb)).trans HBK1.out)
    have HO2 := Lib.hid ho2
    have HG2 := Lib.hid (gb_trans HG1.out hg2)
    clear ho2 hg2 c0 f0
    obtain ⟨c0, f0⟩ := row1 HBK2.out
    go_wp2_with (fail)
    have hO3 := HO2.out.kept (row := some b) (gb_setCell (p := ⟨b, 0, none⟩) (World.grownBy.refl _ _) (.inl rfl) (.slice (some ⟨g, 0, none⟩) R.length cap)) (.inr (by simp [Value.ownBlock]; omega))
    refine (HL.out _ hO3).mono ?_
    rintro e w3 ⟨v', rfl, ho4, hb4⟩
    have HO4 := Lib.hid ho4
    have HB4 := Lib.hid hb4
    clear ho4 hb4 hO3
    go_wp2_with (fail)
    go_ret
    have hs2 := HG2.out.size
    have hbel : Below B w (w2.setCell ⟨b, 0, none⟩ (.slice (some ⟨g, 0, none⟩) R.length cap)) :=
      Below.setCell ⟨HG2.out.os, HG2.out.tape, HG2.out.output, hs2, fun x hx => HG2.out.block x (by omega) (by simp; omega)⟩ hBb _
    exact ⟨v', rfl, own_mono HO4.out (by simp [size_set]; omega), hbel.trans (HB4.out.mono (by simp [size_set]; omega))⟩

theorem KB.mono {w : World} {B C : Nat} {f : Fo} {A : Option Addr} {c : Nat} (h : KB w B f A c) (hBC : B ≤ C) : KB w C f A c := by
  obtain ⟨hc, ys, h1, h2⟩ := h
  have key : ∀ (f : Fo) (ys : List Value), rowT w (fun x => x < B) f ys → rowT w (fun x => x < C) f ys := by
    intro f
    induction f with
    | nil => intro ys h; exact h
    | cons k t kids o r ih1 ih2 =>
      intro ys h
      obtain ⟨A, c, zs, us, hx, hc, hr, hk1, hk2⟩ := h
      exact ⟨A, c, zs, us, hx, hc, fun hn => (by obtain ⟨g, off, a1, a2, a3, a4⟩ := hr hn; exact ⟨g, off, a1, by omega, a3, a4⟩), ih1 _ hk1, ih2 _ hk2⟩
  exact ⟨hc, ys, fun hn => (by obtain ⟨g, off, a1, a2, a3, a4⟩ := h1 hn; exact ⟨g, off, a1, by omega, a3, a4⟩), key f ys h2⟩

set_option maxHeartbeats 2000000 in
theorem freeVars_any (k o : Int) (t : List UInt8) (kids : Fo) (A : Option Addr) (c : Nat) (w : World) (hN2 : fsize kids ≤ 8796093022206) (hK : KT w kids A c) {R : List Int} (hR : setI (free1 k o kids 0) = R) :
    Calls Tryz.prog 132 #[.agg #[.int .i64 k, .string ⟨t.toArray⟩, .int .i64 o, .slice A kids.len c]] w fun e w' => ∃ v', e = .returned v' ∧ w'.ownsRow w.heap.size 3 1 v' R.length (R.map (Value.int .i64)) ∧ BH w w' := by
  have hX := heap_alloc_new w (.cells #[.int .i64 k, .string ⟨t.toArray⟩, .int .i64 o, .slice A kids.len c] 34 (0, 0))
  obtain ⟨w0, hw0⟩ : ∃ w0, w.alloc (.cells #[.int .i64 k, .string ⟨t.toArray⟩, .int .i64 o, .slice A kids.len c] 34 (0, 0)) = w0 := ⟨_, rfl⟩
  have hs0 : w0.heap.size = w.heap.size + 1 := by rw [← hw0]; simp
  have hB0 : BH w w0 := by rw [← hw0]; exact (Below.refl _ _).alloc (Nat.le_refl _) _
  rw [hw0] at hX
  have hX1 := (Below.heap_alloc w0 (.cells #[.slice none 0 0] 173 (0, 0)) w.heap.size (by omega)).trans hX
  have hS := heap_alloc_new w0 (.cells #[.slice none 0 0] 173 (0, 0))
  rw [hs0] at hS
  have hB1 : BH w (w0.alloc (.cells #[.slice none 0 0] 173 (0, 0))) := Below.alloc hB0 (Below.size hB0) _
  have hKB : KB (w0.alloc (.cells #[.slice none 0 0] 173 (0, 0))) w.heap.size kids A c := hK.kb.below hB1
  have hSA : SA w.heap.size (w.heap.size + 1) (.slice none 0 0) [] (w0.alloc (.cells #[.slice none 0 0] 173 (0, 0))) := ⟨hS, World.ownsRow_nil _ _ _ _, by simp [Value.ownBlock], by omega⟩
  have HH := Lib.hid (And.intro hX1 (And.intro hKB (And.intro hSA hB1)))
  have hsz1 : (w0.alloc (.cells #[.slice none 0 0] 173 (0, 0))).heap.size = w.heap.size + 2 := by simp [hs0]
  have Hsz1 := Lib.hid hsz1
  rw [← hw0] at HH Hsz1
  have hfl := freeL_len kids k 0 0
  have hf1 : (free1 k o kids 0).length ≤ 1 + fsize kids := by
    simp only [free1, List.length_append]
    split <;> simp <;> omega
  have HRR := Lib.hid hR
  clear hX hX1 hS hB1 hKB hSA hsz1 hB0 hs0 hw0 w0 hK hfl hR
  obtain ⟨b0, b1, b2, b3⟩ := box4 w (.int .i64 k) (.string ⟨t.toArray⟩) (.int .i64 o) (.slice A kids.len c) 34
  go_enter Tryz.func132, Tryz.ntmps132
  go_wp2_with (fail)
  refine (collectFree_any _ k o 0 t kids A c w.heap.size (w.heap.size + 1) (.slice none 0 0) [] _ (Nat.le_refl _) (by omega) HH.out.2.1 HH.out.2.2.1 (by rw [Hsz1.out]; omega) (by decide) (by omega) (by simp; omega)).mono ?_
  rintro e w2 ⟨v2, rfl, hsa, hkq⟩
  have hsz2 : w.heap.size ≤ w2.heap.size := Nat.le_trans (by rw [Hsz1.out]; omega) hkq.size
  have HB2 := Lib.hid (Below.trans HH.out.2.2.2 (hkq.below HH.out.2.2.1 (by rw [Hsz1.out]; omega)))
  rw [List.nil_append] at hsa
  have HSA := Lib.hid hsa
  clear hsa hkq
  go_wp2_with (fail)
  refine (list_any w.heap.size (w.heap.size + 1) v2 _ w2 HSA.out (by omega) hsz2).mono ?_
  rintro e w3 ⟨v', rfl, ho, hb⟩
  rw [HRR.out] at ho
  have HO := Lib.hid ho
  have HB3 := Lib.hid hb
  clear ho hb
  go_wp2_with (fail)
  go_ret
  exact ⟨v', rfl, HO.out, HB2.out.trans HB3.out⟩
end Go.Proofs.YtpkiheenkpcebaaGreatDoor
namespace Go.Proofs.YtpkiheenkpcebaaGreatDoor
open Go.RowKit Sx

theorem kt0 (X : World) : KT X .nil none 0 := ⟨Nat.le_refl _, [], fun h => absurd h (by simp [Fo.len]), rfl⟩
theorem kt1 {X : World} {g : Nat} {e : TypeId} {k o : Int} {t : List UInt8} {kids : Fo} {A : Option Addr} {c : Nat} (h : X.heap[g]? = some (.cells #[.int .i64 k, .string ⟨t.toArray⟩, .int .i64 o, .slice A kids.len c] e (0, 0))) (hk : KT X kids A c) : KT X (.cons k t kids o .nil) (some ⟨g, 0, none⟩) 1 := by
  obtain ⟨hc, ys, q1, q2⟩ := hk
  refine ⟨Nat.le_refl _, [.int .i64 k, .string ⟨t.toArray⟩, .int .i64 o, .slice A kids.len c], fun _ => ⟨g, 0, rfl, trivial, heap_lt h, fun j u hu => ?_⟩, A, c, ys, [], rfl, hc, q1, q2, rfl⟩
  rw [Nat.zero_add, cell_of_row _ _ j _ _ _ h]
  simpa using hu
theorem kt2 {X : World} {g : Nat} {e : TypeId} {k o k2 o2 : Int} {t t2 : List UInt8} {kids kids2 : Fo} {A A2 : Option Addr} {c c2 : Nat} (h : X.heap[g]? = some (.cells #[.int .i64 k, .string ⟨t.toArray⟩, .int .i64 o, .slice A kids.len c, .int .i64 k2, .string ⟨t2.toArray⟩, .int .i64 o2, .slice A2 kids2.len c2] e (0, 0))) (hk : KT X kids A c) (hk2 : KT X kids2 A2 c2) :
    KT X (.cons k t kids o (.cons k2 t2 kids2 o2 .nil)) (some ⟨g, 0, none⟩) 2 := by
  obtain ⟨hc, ys, q1, q2⟩ := hk
  obtain ⟨hc', ys', q1', q2'⟩ := hk2
  refine ⟨Nat.le_refl _, [.int .i64 k, .string ⟨t.toArray⟩, .int .i64 o, .slice A kids.len c, .int .i64 k2, .string ⟨t2.toArray⟩, .int .i64 o2, .slice A2 kids2.len c2], fun _ => ⟨g, 0, rfl, trivial, heap_lt h, fun j u hu => ?_⟩, A, c, ys, _, rfl, hc, q1, q2, A2, c2, ys', [], rfl, hc', q1', q2', rfl⟩
  rw [Nat.zero_add, cell_of_row _ _ j _ _ _ h]
  simpa using hu
theorem kt3 {X : World} {g : Nat} {e : TypeId} {k o k2 o2 k3 o3 : Int} {t t2 t3 : List UInt8} {kids kids2 kids3 : Fo} {A A2 A3 : Option Addr} {c c2 c3 : Nat} (h : X.heap[g]? = some (.cells #[.int .i64 k, .string ⟨t.toArray⟩, .int .i64 o, .slice A kids.len c, .int .i64 k2, .string ⟨t2.toArray⟩, .int .i64 o2, .slice A2 kids2.len c2, .int .i64 k3, .string ⟨t3.toArray⟩, .int .i64 o3, .slice A3 kids3.len c3] e (0, 0))) (hk : KT X kids A c) (hk2 : KT X kids2 A2 c2) (hk3 : KT X kids3 A3 c3) :
    KT X (.cons k t kids o (.cons k2 t2 kids2 o2 (.cons k3 t3 kids3 o3 .nil))) (some ⟨g, 0, none⟩) 3 := by
  obtain ⟨hc, ys, q1, q2⟩ := hk
  obtain ⟨hc', ys', q1', q2'⟩ := hk2
  obtain ⟨hd, zs, r1, r2⟩ := hk3
  refine ⟨Nat.le_refl _, [.int .i64 k, .string ⟨t.toArray⟩, .int .i64 o, .slice A kids.len c, .int .i64 k2, .string ⟨t2.toArray⟩, .int .i64 o2, .slice A2 kids2.len c2, .int .i64 k3, .string ⟨t3.toArray⟩, .int .i64 o3, .slice A3 kids3.len c3], fun _ => ⟨g, 0, rfl, trivial, heap_lt h, fun j u hu => ?_⟩, A, c, ys, _, rfl, hc, q1, q2, A2, c2, ys', _, rfl, hc', q1', q2', A3, c3, zs, [], rfl, hd, r1, r2, rfl⟩
  rw [Nat.zero_add, cell_of_row _ _ j _ _ _ h]
  simpa using hu

end Go.Proofs.YtpkiheenkpcebaaGreatDoor
namespace Go.Proofs.YtpkiheenkpcebaaGreatDoor.Sx
open Go.Lib
section
variable {α : Type} [Inhabited α] [DecidableEq α] [LT α] [LE α] [DecidableRel (α := α) (· < ·)] [DecidableRel (α := α) (· ≤ ·)]

structure Lin (α : Type) [LT α] [LE α] : Prop where
  irr : ∀ a : α, ¬ a < a
  trans : ∀ a b c : α, a < b → b < c → a < c
  tri : ∀ a b : α, a < b ∨ a = b ∨ b < a
  le : ∀ a b : α, a ≤ b ↔ ¬ b < a

omit [Inhabited α] [LE α] [DecidableRel (α := α) (· ≤ ·)] in
def insG : List α → α → List α
  | [], n => [n]
  | x :: r, n => if x < n then x :: insG r n else if x = n then x :: r else n :: x :: r
def insAG (l xs : List α) : List α := xs.foldl insG l

omit [Inhabited α] [LE α] [DecidableRel (α := α) (· ≤ ·)] in
theorem insG_len (l : List α) (n : α) : (insG l n).length ≤ l.length + 1 := by
  induction l with
  | nil => simp [insG]
  | cons x r ih =>
    simp only [insG]
    split
    · simp; omega
    · split <;> simp
omit [Inhabited α] [LE α] [DecidableRel (α := α) (· ≤ ·)] in
theorem insAG_len (xs : List α) : ∀ l : List α, (insAG l xs).length ≤ l.length + xs.length := by
  induction xs with
  | nil => intro l; simp [insAG]
  | cons x xs ih =>
    intro l
    have h1 := ih (insG l x)
    have h2 := insG_len l x
    simp only [insAG, List.foldl_cons, List.length_cons] at *
    omega
omit [Inhabited α] [LE α] [DecidableRel (α := α) (· ≤ ·)] in
theorem insAG_app (l xs ys : List α) : insAG l (xs ++ ys) = insAG (insAG l xs) ys := by simp [insAG]
omit [LE α] [DecidableRel (α := α) (· ≤ ·)] in
theorem insG_at (l : List α) (n : α) : ∀ k, k ≤ l.length → (∀ j, j < k → l.getD j default < n) → (k = l.length ∨ ¬ l.getD k default < n) → insG l n = if k < l.length ∧ l.getD k default = n then l else l.take k ++ n :: l.drop k := by
  induction l with
  | nil =>
    intro k hk _ _
    obtain rfl : k = 0 := by simpa using hk
    simp [insG]
  | cons x r ih =>
    intro k hk hlo hat
    cases k with
    | zero =>
      have h : ¬ x < n := by
        rcases hat with h | h
        · simp at h
        · simpa using h
      simp only [insG, if_neg h]
      by_cases hx : x = n
      · simp [hx]
      · simp [hx]
    | succ k =>
      have h0 : x < n := by simpa using hlo 0 (by omega)
      have := ih k (by simpa using hk) (fun j hj => by simpa using hlo (j + 1) (by omega)) (by
        rcases hat with h | h
        · left; simpa using h
        · right; simpa using h)
      simp only [insG, if_pos h0, this]
      by_cases hc : k < r.length ∧ r.getD k default = n
      · rw [if_pos hc, if_pos (by simpa using hc)]
      · rw [if_neg hc, if_neg (by simpa using hc)]
        simp

abbrev Asc (l : List α) : Prop := l.Pairwise (· < ·)

omit [Inhabited α] [LE α] [DecidableRel (α := α) (· ≤ ·)] in
theorem mem_insG (l : List α) (n a : α) : a ∈ insG l n ↔ a = n ∨ a ∈ l := by
  induction l with
  | nil => simp [insG]
  | cons x r ih =>
    simp only [insG]
    split
    · simp only [List.mem_cons, ih]
      constructor
      · rintro (h | h | h) <;> simp [h]
      · rintro (h | h | h) <;> simp [h]
    · split
      · rename_i _ h; subst h; simp
      · simp
omit [Inhabited α] [DecidableRel (α := α) (· ≤ ·)] in
theorem asc_insG (L : Lin α) (l : List α) (n : α) (h : Asc l) : Asc (insG l n) := by
  induction l with
  | nil => simp [insG, Asc]
  | cons x r ih =>
    obtain ⟨h1, h2⟩ := List.pairwise_cons.1 h
    simp only [insG]
    split
    · rename_i hx
      refine List.pairwise_cons.2 ⟨fun y hy => ?_, ih h2⟩
      rcases (mem_insG r n y).1 hy with rfl | hy
      · exact hx
      · exact h1 y hy
    · split
      · exact h
      · rename_i hx hn
        have hnx : n < x := by
          rcases L.tri x n with h | h | h
          · exact absurd h hx
          · exact absurd h hn
          · exact h
        refine List.pairwise_cons.2 ⟨fun y hy => ?_, h⟩
        rcases List.mem_cons.1 hy with rfl | hy
        · exact hnx
        · exact L.trans _ _ _ hnx (h1 y hy)
omit [Inhabited α] [LE α] [DecidableRel (α := α) (· ≤ ·)] in
theorem mem_insAG (xs : List α) (a : α) : ∀ l : List α, a ∈ insAG l xs ↔ a ∈ xs ∨ a ∈ l := by
  induction xs with
  | nil => intro l; simp [insAG]
  | cons x xs ih =>
    intro l
    have := ih (insG l x)
    simp only [insAG, List.foldl_cons] at *
    rw [this, mem_insG]
    simp only [List.mem_cons]
    constructor
    · rintro (h | h | h) <;> simp [h]
    · rintro ((h | h) | h) <;> simp [h]
omit [Inhabited α] [DecidableRel (α := α) (· ≤ ·)] in
theorem asc_insAG (L : Lin α) (xs : List α) : ∀ l : List α, Asc l → Asc (insAG l xs) := by
  induction xs with
  | nil => intro l h; exact h
  | cons x xs ih => intro l h; exact ih _ (asc_insG L l x h)

omit [Inhabited α] [DecidableEq α] [DecidableRel (α := α) (· < ·)] [DecidableRel (α := α) (· ≤ ·)] in
theorem asc_ext (L : Lin α) : ∀ l1 l2 : List α, Asc l1 → Asc l2 → (∀ a, a ∈ l1 ↔ a ∈ l2) → l1 = l2 := by
  intro l1
  induction l1 with
  | nil =>
    intro l2 _ _ h
    cases l2 with
    | nil => rfl
    | cons y ys => exact absurd ((h y).2 (by simp)) (by simp)
  | cons x xs ih =>
    intro l2 h1 h2 h
    cases l2 with
    | nil => exact absurd ((h x).1 (by simp)) (by simp)
    | cons y ys =>
      obtain ⟨a1, b1⟩ := List.pairwise_cons.1 h1
      obtain ⟨a2, b2⟩ := List.pairwise_cons.1 h2
      have hxy : x = y := by
        rcases List.mem_cons.1 ((h x).1 (by simp)) with e | hx
        · exact e
        · rcases List.mem_cons.1 ((h y).2 (by simp)) with e | hy
          · exact e.symm
          · exact absurd (L.trans _ _ _ (a2 x hx) (a1 y hy)) (L.irr y)
      subst hxy
      congr 1
      refine ih ys b1 b2 fun a => ?_
      constructor
      · intro ha
        rcases List.mem_cons.1 ((h a).1 (List.mem_cons_of_mem _ ha)) with e | h'
        · subst e; exact absurd (a1 a ha) (L.irr a)
        · exact h'
      · intro ha
        rcases List.mem_cons.1 ((h a).2 (List.mem_cons_of_mem _ ha)) with e | h'
        · subst e; exact absurd (a2 a ha) (L.irr a)
        · exact h'

omit [DecidableRel (α := α) (· < ·)] [DecidableRel (α := α) (· ≤ ·)] in
theorem compact_asc (L : Lin α) (d : Array α) (hs : ∀ i j, i < j → j < d.size → d[i]! ≤ d[j]!) : ∀ m, m ≤ d.size → Asc (compactUpTo d m) ∧ ∀ a, a ∈ compactUpTo d m ↔ ∃ j, j < m ∧ a = d[j]! := by
  intro m
  induction m with
  | zero => intro _; exact ⟨by simp [compactUpTo, Asc], fun a => by simp [compactUpTo]⟩
  | succ m ih =>
    intro hm
    obtain ⟨h1, h2⟩ := ih (by omega)
    rw [compactUpTo_succ]
    by_cases hk : keeps d m = true
    · rw [if_pos hk]
      refine ⟨List.pairwise_append.2 ⟨h1, by simp, fun a ha b hb => ?_⟩, fun a => ?_⟩
      · obtain ⟨j, hj, rfl⟩ := (h2 a).1 ha
        obtain rfl : b = d[m]! := by simpa using hb
        have hne : d[m]! ≠ d[m - 1]! := by
          simp only [keeps, decide_eq_true_eq] at hk
          rcases hk with h | h
          · omega
          · exact h
        have hle : d[m - 1]! ≤ d[m]! := hs _ _ (by omega) (by omega)
        have hlt : d[m - 1]! < d[m]! := by
          rcases L.tri (d[m - 1]!) (d[m]!) with h | h | h
          · exact h
          · exact absurd h.symm hne
          · exact absurd h ((L.le _ _).1 hle)
        by_cases hj1 : j = m - 1
        · rw [hj1]; exact hlt
        · have hle2 : d[j]! ≤ d[m - 1]! := hs _ _ (by omega) (by omega)
          rcases L.tri (d[j]!) (d[m - 1]!) with h | h | h
          · exact L.trans _ _ _ h hlt
          · rw [h]; exact hlt
          · exact absurd h ((L.le _ _).1 hle2)
      · rw [List.mem_append, h2, List.mem_singleton]
        constructor
        · rintro (⟨j, hj, rfl⟩ | rfl)
          · exact ⟨j, by omega, rfl⟩
          · exact ⟨m, by omega, rfl⟩
        · rintro ⟨j, hj, rfl⟩
          by_cases e : j = m
          · right; rw [e]
          · left; exact ⟨j, by omega, rfl⟩
    · rw [if_neg hk, List.append_nil]
      refine ⟨h1, fun a => ?_⟩
      rw [h2]
      have hm0 : 0 < m ∧ d[m]! = d[m - 1]! := by
        simp only [keeps, decide_eq_true_eq] at hk
        refine ⟨?_, ?_⟩
        · rcases Nat.eq_zero_or_pos m with h | h
          · exact absurd (Or.inl h) hk
          · exact h
        · exact Decidable.not_not.1 fun h => hk (Or.inr h)
      constructor
      · rintro ⟨j, hj, rfl⟩
        exact ⟨j, by omega, rfl⟩
      · rintro ⟨j, hj, rfl⟩
        by_cases e : j = m
        · exact ⟨m - 1, by omega, by rw [e, hm0.2]⟩
        · exact ⟨j, by omega, rfl⟩

/-- sorted, each once: the same in both ways -/
theorem set_eq (L : Lin α) (xs : List α) : compact (xs.mergeSort fun x y => decide (x ≤ y)) = insAG [] xs := by
  have htr : ∀ a b c : α, decide (a ≤ b) = true → decide (b ≤ c) = true → decide (a ≤ c) = true := by
    intro a b c h1 h2
    rw [decide_eq_true_eq, L.le] at *
    intro h
    rcases L.tri a b with h' | h' | h'
    · exact h2 (L.trans _ _ _ h h')
    · subst h'; exact h2 h
    · exact h1 h'
  have htot : ∀ a b : α, (decide (a ≤ b) || decide (b ≤ a)) = true := by
    intro a b
    rw [Bool.or_eq_true, decide_eq_true_eq, decide_eq_true_eq, L.le, L.le]
    by_cases h : b < a
    · right; intro h'; exact L.irr a (L.trans _ _ _ h' h)
    · exact .inl h
  have hp := List.pairwise_mergeSort htr htot xs
  obtain ⟨ys, hys⟩ : ∃ ys, (xs.mergeSort fun x y => decide (x ≤ y)) = ys := ⟨_, rfl⟩
  have hmem : ∀ a, a ∈ ys ↔ a ∈ xs := fun a => by rw [← hys]; exact List.mem_mergeSort
  rw [hys] at hp ⊢
  have hsorted : ∀ i j, i < j → j < ys.toArray.size → ys.toArray[i]! ≤ ys.toArray[j]! := by
    intro i j hij hj
    have hj' : j < ys.length := by simpa using hj
    have := List.pairwise_iff_getElem.1 hp i j (by omega) hj' hij
    rw [decide_eq_true_eq] at this
    rw [getElem!_pos ys.toArray i (by simpa using (by omega : i < ys.length)), getElem!_pos ys.toArray j hj]
    simpa using this
  obtain ⟨h1, h2⟩ := compact_asc L ys.toArray hsorted ys.length (by simp)
  refine asc_ext L _ _ h1 (asc_insAG L xs [] (by simp [Asc])) fun a => ?_
  unfold compact
  rw [h2, mem_insAG]
  constructor
  · rintro ⟨j, hj, rfl⟩
    left
    rw [← hmem, getElem!_pos ys.toArray j (by simpa using hj)]
    simp
  · rintro (h | h)
    · rw [← hmem] at h
      obtain ⟨j, hj, rfl⟩ := List.mem_iff_getElem.1 h
      exact ⟨j, hj, by rw [getElem!_pos ys.toArray j (by simpa using hj)]; simp⟩
    · cases h
end
theorem lin_int : Lin Int := ⟨fun a => Int.lt_irrefl a, fun a b c => Int.lt_trans, fun a b => by omega, fun a b => by omega⟩
theorem lin_str : Lin (List UInt8) where
  irr := List.lt_irrefl
  trans := fun a b c => List.lt_trans
  tri := fun a b => by
    by_cases h : a < b
    · exact .inl h
    · by_cases h2 : b < a
      · exact .inr (.inr h2)
      · exact .inr (.inl (List.le_antisymm (List.not_lt.1 h2) (List.not_lt.1 h)))
  le := fun a b => List.not_lt.symm
end Go.Proofs.YtpkiheenkpcebaaGreatDoor.Sx
