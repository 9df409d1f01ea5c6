/- sexpr.elements and sexpr.list: the nodes from a position on, for every text of at most 65536 bytes. -/
import Derived.Test.YtpflfbfbjmoggaaDoorWord
import Derived.Test.YtpflfbfbjmoggaaDoorQuot
import Derived.Test.YtpflfbfbjmoggaaDoorMem
set_option linter.unusedVariables false
set_option linter.unusedSimpArgs false
namespace Go.Proofs.YtpflfbfbjmoggaaDoor
open Go.RowKit Sx

theorem infoNode : (Tryd.prog.info? 31).map (fun i => (i.zero, i.size, i.bytes)) = some (some (.agg #[.int .i64 0, .string ⟨#[]⟩, .slice none 0 0, .int .i64 0]), 4, 56) := by kernel_rfl

theorem size_alloc_set (w : World) (p : Addr) (v : Value) (o : Obj) : ((w.setCell p v).alloc o).heap.size = w.heap.size + 1 := by simp [size_set]

def ElemsPost (F b : Nat) (s : ByteArray) (p o : Nat) (w : World) (e : Ending) (w' : World) : Prop :=
  (match elems F o p (s.data.toList.drop p) with
   | .bad k a => e = faultEnd k (a : Int)
   | .ok ns q => ∃ v, e = .returned v ∧ sliceOf w' (fun x => w.heap.size ≤ x) ns v ∧ PA w' b s q) ∧ w.grownBy w' (some b)

def ElemsSays (F : Nat) : Prop := ∀ (b : Nat) (s : ByteArray) (p o : Nat) (w : World), PA w b s p → s.size ≤ 65536 → p ≤ s.size → o ≤ 40 → (s.data.toList.drop p).length < F →
  Calls Tryd.prog 49 #[.pointer (some ⟨b, 0, none⟩), .int .i64 (o : Int)] w (ElemsPost F b s p o w)

def ListPost (F b : Nat) (s : ByteArray) (p o : Nat) (w : World) (e : Ending) (w' : World) : Prop :=
  (if 40 < o then e = faultEnd 9 (p : Int) else match elems F o (p + 1) (s.data.toList.drop (p + 1)) with
   | .bad k a => e = faultEnd k (a : Int)
   | .ok ns q => ∃ A c ys, e = .returned (.agg #[.int .i64 3, .string ⟨#[]⟩, .slice A ns.len c, .int .i64 (p : Int)]) ∧ ns.len ≤ c ∧ readsAt w' (fun x => w.heap.size ≤ x) A ns.len ys ∧ rowOf w' (fun x => w.heap.size ≤ x) ns ys ∧ PA w' b s (q + 1)) ∧ w.grownBy w' (some b)

set_option maxHeartbeats 2000000 in
theorem list_any (F : Nat) (hE : ElemsSays F) (b : Nat) (s : ByteArray) (p o : Nat) (w : World) (h : PA w b s p) (hs : s.size ≤ 65536) (hp : p < s.size) (ho : o ≤ 41) (ho1 : 0 < o) (hF : (s.data.toList.drop (p + 1)).length < F) :
    Calls Tryd.prog 85 #[.pointer (some ⟨b, 0, none⟩), .int .i64 (o : Int)] w (ListPost F b s p o w) := by
  have hc0 := h.c0
  have hc1 := h.c1
  have hb := h.lt
  have hf1 := h.fz 1
  have HE := Lib.hid hE
  clear hE
  by_cases hbig : 40 < o
  · go_enter Tryd.func85, Tryd.ntmps85
    go_wp2_with (go_at_call 81; refine (fail_any _ _ _).mono ?_; rintro e w' ⟨rfl, rfl⟩)
    exact ⟨rfl, by rw [if_pos hbig], gb_alloc (World.grownBy.refl _ _) _⟩
  · go_enter Tryd.func85, Tryd.ntmps85
    go_wp2_with (fail)
    have hP1 : PA ((w.setCell ⟨b, 1, none⟩ (.int .i64 ((p : Int) + 1))).alloc (.cells #[.int .i64 0, .string ⟨#[]⟩, .slice none 0 0, .int .i64 0] 31)) b s (p + 1) := (h.set (p + 1)).alloc (by rw [size_set]; exact hb) _
    refine (HE.out b s (p + 1) o _ (by exact hP1) hs (by omega) (by omega) hF).mono ?_
    intro e w1 hpost
    unfold ElemsPost at hpost
    rcases hel : elems F o (p + 1) (s.data.toList.drop (p + 1)) with ⟨k, a⟩ | ⟨ns, q⟩
    · rw [hel] at hpost
      obtain ⟨rfl, hg1⟩ := hpost
      refine ⟨rfl, ?_, gb_trans (gb_alloc (gb_setCell (World.grownBy.refl _ _) (.inl rfl) _) _) hg1⟩
      rw [if_neg hbig, hel]
    · rw [hel] at hpost
      obtain ⟨⟨v, rfl, hsl, hPq⟩, hg1⟩ := hpost
      have hq := elems_pos _ _ _ _ _ _ hel
      rw [drop_len] at hq
      have hq3 := hq.2.2.1 ho1
      have d0 := hPq.c0
      have d1 := hPq.c1
      have e1 := hPq.fz 1
      have Hel := Lib.hid hel
      clear hel
      have hN : w1.heap[w.heap.size]? = some (.cells #[.int .i64 0, .string ⟨#[]⟩, .slice none 0 0, .int .i64 0] 31 (0, 0)) := by
        have h2 := heap_alloc_new (w.setCell ⟨b, 1, none⟩ (.int .i64 ((p : Int) + 1))) (.cells #[.int .i64 0, .string ⟨#[]⟩, .slice none 0 0, .int .i64 0] 31)
        rw [size_set] at h2
        exact (hg1.block _ (by simp [size_set]) (by simp; omega)).trans h2
      obtain ⟨m0, m1, m2, m3, z0, z1, z2, z3⟩ := row4 hN
      obtain ⟨A, c, ys, rfl, hc, hr, hro⟩ := hsl
      have hne : ¬ b = w.heap.size := by omega
      go_wp2_with (fail)
      refine bodyPost_ret (v := .agg #[.int .i64 3, .string ⟨#[]⟩, .slice A ns.len c, .int .i64 (p : Int)]) (by simp [results, Tryd.results85, go_sem, m0, m1, m2, m3, hne]) rfl ⟨?_, ?_⟩
      · rw [if_neg hbig, Hel.out]
        refine ⟨A, c, ys, rfl, hc, hr.keep (by simp [size_set]) ?_, hro.keep (by simp [size_set]) ?_ _, ?_⟩
        · intro x hx _
          rw [size_alloc_set] at hx
          refine ⟨?_, by omega⟩
          repeat (first | (refine (Below.heap_setCell _ _ _ _ (by simp; omega)).trans ?_) | rfl)
        · intro x hx _
          rw [size_alloc_set] at hx
          refine ⟨?_, by omega⟩
          repeat (first | (refine (Below.heap_setCell _ _ _ _ (by simp; omega)).trans ?_) | rfl)
        · have hPq2 : PA (w1.setCell ⟨b, 1, none⟩ (.int .i64 ((q : Int) + 1))) b s (q + 1) := hPq.set (q + 1)
          repeat (first | refine PA.far ?_ (by simp; omega) _ | exact hPq2)
      · have hg2 := gb_setCell (p := ⟨b, 1, none⟩) (gb_trans (gb_alloc (gb_setCell (World.grownBy.refl w (some b)) (p := ⟨b, 1, none⟩) (.inl rfl) (.int .i64 ((p : Int) + 1))) (.cells #[.int .i64 0, .string ⟨#[]⟩, .slice none 0 0, .int .i64 0] 31)) hg1) (.inl rfl) (.int .i64 ((q : Int) + 1))
        repeat (first | refine gb_setCell ?_ (.inr (Nat.le_refl _)) _ | exact hg2)
end Go.Proofs.YtpflfbfbjmoggaaDoor
