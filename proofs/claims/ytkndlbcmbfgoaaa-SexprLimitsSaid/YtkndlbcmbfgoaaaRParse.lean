/- The specification's own reader, whole: for every string the nodes, or the first fault, of the plain reading 'parseR'. -/
import Derived.Test.YtkndlbcmbfgoaaaRNod3
set_option linter.unusedVariables false
set_option linter.unusedSimpArgs false
namespace Go.Proofs.Ytkndlbcmbfgoaaa
open Go.RowKit Sx

def RParsePost (s : ByteArray) (w : World) (e : Ending) (w' : World) : Prop :=
  (match parseR s.data.toList with
   | .bad k a => e = .returned (.tuple #[.slice none 0 0, .agg #[.int .i64 k, .int .i64 (a : Int)]])
   | .ok ns _ => ∃ v, e = .returned (.tuple #[v, .agg #[.int .i64 0, .int .i64 0]]) ∧ sliceOf w' (fun x => w.heap.size ≤ x) ns v) ∧ Below w.heap.size w w'

set_option maxHeartbeats 2000000 in
theorem rParse_any (s : ByteArray) (w : World) (hs : s.size ≤ maxLen) :
    Calls Try.prog 7 #[.string s] w (RParsePost s w) := by
  have hl : s.data.toList.length = s.size := by simp
  unfold maxLen at hs
  by_cases hbig : 65536 < s.size
  · go_enter Try.func7, Try.ntmps7
    go_wp2
    refine bodyPost_ret (v := .tuple #[.slice none 0 0, .agg #[.int .i64 4, .int .i64 0]]) (by simp [results, Try.results7, go_sem]) rfl ⟨?_, ?_⟩
    · rw [parseR, if_pos (by rw [hl]; exact hbig)]
      rfl
    · exact (Below.refl _ _).alloc (Nat.le_refl _) _
  · go_enter Try.func7, Try.ntmps7
    go_wp2_with (fail)
    have hel0 : parseR s.data.toList = elems (s.data.toList.length + 1) 0 0 (s.data.toList.drop 0) := by rw [parseR, if_neg (by rw [hl]; exact hbig), List.drop_zero]
    have Hel := Lib.hid hel0
    clear hel0
    obtain ⟨W, hW⟩ : ∃ W, W = (w.alloc (.cells #[.int .i64 0, .int .i64 0] 25)) := ⟨_, rfl⟩
    have hWs : W.heap.size = w.heap.size + 1 := by rw [hW]; simp
    have hPW : RA (W.alloc (.cells #[.string s, .int .i64 0, .int .i64 0, .int .i64 0] 48)) (w.heap.size + 1) s 0 0 0 := by
      have := heap_alloc_new W (.cells #[.string s, .int .i64 0, .int .i64 0, .int .i64 0] 48)
      rw [hWs] at this
      exact this
    have hWf : W.heap[w.heap.size]? = some (.cells #[.int .i64 0, .int .i64 0] 25 (0, 0)) := by
      rw [hW]
      exact heap_alloc_new w _
    have hBW : Below w.heap.size w (W.alloc (.cells #[.string s, .int .i64 0, .int .i64 0, .int .i64 0] 48)) := by
      rw [hW]
      exact ((Below.refl _ _).alloc (Nat.le_refl _) _).alloc (by simp) _
    refine (rNodes_says _ (w.heap.size + 1) s 0 0 _ (by rw [← hW]; exact hPW) (by omega) (Nat.zero_le _) (by omega) (by rw [List.drop_zero]; exact Nat.lt_succ_self _)).mono ?_
    rw [← hW]
    intro e w1 hpost
    unfold RNodesPost at hpost
    obtain ⟨⟨v, f, rfl, hsl, hm⟩, hg1⟩ := hpost
    have hf1 := (hg1.block w.heap.size (by simp; omega) (by simp)).trans ((Below.heap_alloc W _ _ (by omega)).trans hWf)
    obtain ⟨f0, f1, f2, f3⟩ := row2 hf1
    have hs1 := hg1.size
    have hB1 := below_gb_of hBW hg1 (by omega)
    obtain ⟨A, c, ys, rfl, hc, hr, hro⟩ := hsl
    have hne : ¬ w.heap.size + 1 = w.heap.size := by omega
    rcases hel : elems (s.data.toList.length + 1) 0 0 (s.data.toList.drop 0) with ⟨k, a⟩ | ⟨ns, q⟩
    · rw [hel] at hm
      obtain ⟨q, hq, hR⟩ := hm
      have hk : k ≠ 0 := by rcases elems_kind _ _ _ _ _ _ hel with h | h | h <;> omega
      have hk1 : (k != 0) = true := by simpa using hk
      have Hl := Lib.hid hel
      clear hel
      obtain ⟨c0, c1, c2, c3, z0, z1, z2, z3⟩ := hR.row
      go_wp2_with (fail)
      go_region
      go_wp2_with (fail)
      refine bodyPost_ret (v := .tuple #[.slice none 0 0, .agg #[.int .i64 k, .int .i64 (a : Int)]]) (by simp [results, Try.results7, go_sem, f0, f1]) rfl ⟨?_, ?_⟩
      · rw [Hel.out, Hl.out]
      · exact ((hB1.setCell (p := ⟨w.heap.size, 0, none⟩) (Nat.le_refl _) _).setCell (p := ⟨w.heap.size, 1, none⟩) (Nat.le_refl _) _).drew
    · rw [hel] at hm
      obtain ⟨rfl, hR⟩ := hm
      have Hl := Lib.hid hel
      clear hel
      obtain ⟨c0, c1, c2, c3, z0, z1, z2, z3⟩ := hR.row
      go_wp2_with (fail)
      refine bodyPost_ret (v := .tuple #[.slice A f.len c, .agg #[.int .i64 0, .int .i64 0]]) (by simp [results, Try.results7, go_sem, f0, f1]) rfl ⟨?_, ?_⟩
      · rw [Hel.out, Hl.out]
        have hk : ∀ x, (W.alloc (.cells #[.string s, .int .i64 0, .int .i64 0, .int .i64 0] 48)).heap.size ≤ x → x < w1.heap.size → ((w1.setCell ⟨w.heap.size, 0, none⟩ (.int .i64 0)).setCell ⟨w.heap.size, 1, none⟩ (.int .i64 0)).heap[x]? = w1.heap[x]? ∧ w.heap.size ≤ x := by
          intro x hx _
          simp only [World.size_alloc, hWs] at hx
          exact ⟨(heap_far (by simp; omega) _).trans (heap_far (by simp; omega) _), by omega⟩
        exact ⟨_, rfl, A, c, ys, rfl, hc, hr.keep (by simp [size_set]) hk, hro.keep (by simp [size_set]) hk _⟩
      · exact (hB1.setCell (p := ⟨w.heap.size, 0, none⟩) (Nat.le_refl _) _).setCell (p := ⟨w.heap.size, 1, none⟩) (Nat.le_refl _) _
end Go.Proofs.Ytkndlbcmbfgoaaa
