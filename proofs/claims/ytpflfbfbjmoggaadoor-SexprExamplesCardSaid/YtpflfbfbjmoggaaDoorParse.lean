/- sexpr.Parse: for every string the nodes, or the first fault, of the plain reading 'parseR'. -/
import Derived.Test.YtpflfbfbjmoggaaDoorElem2
import Derived.Test.YtpflfbfbjmoggaaDoorUtil2
import Derived.Defers
import Derived.Recover
set_option linter.unusedVariables false
set_option linter.unusedSimpArgs false
namespace Go.Proofs.YtpflfbfbjmoggaaDoor
open Go.RowKit Sx

theorem assert_fault (k o : Int) (w : World) : (Instr.typeAssert (.iface 25 (.agg #[.int .i64 k, .int .i64 o])) 20 25 true).run Tryd.prog w = .ok (.tuple #[.agg #[.int .i64 k, .int .i64 o], .bool true]) w := by kernel_rfl
set_option maxHeartbeats 1000000 in
theorem faultOf_fault (k o : Int) (w : World) :
    Calls Tryd.prog 48 #[.iface 25 (.agg #[.int .i64 k, .int .i64 o])] w fun e w' => e = .returned (.agg #[.int .i64 k, .int .i64 o]) ∧ Below w.heap.size w w' := by
  have hta := assert_fault k o
  go_enter Tryd.func48, Tryd.ntmps48
  go_wp2
  refine bodyPost_ret (v := .agg #[.int .i64 k, .int .i64 o]) (by simp [results, Tryd.results48, go_sem]) rfl ⟨rfl, ?_⟩
  exact ((Below.refl _ _).alloc (Nat.le_refl _) _).alloc (by simp) _

theorem catch_panicking (nb fb : Nat) (B : Nat) (k o : Int) (older : List PanicEntry) (w : World) (hn : w.heap[nb]? = some (.cells #[.slice none 0 0] 22 (0, 0))) (hf : w.heap[fb]? = some (.cells #[.int .i64 0, .int .i64 0] 25 (0, 0)))
    (hB1 : B ≤ nb) (hB2 : B ≤ fb) (hne : nb ≠ fb) :
    CallsD Tryd.prog 47 #[.pointer (some ⟨nb, 0, none⟩), .pointer (some ⟨fb, 0, none⟩)] (.panicking ({ v := .iface 25 (.agg #[.int .i64 k, .int .i64 o]), recovered := false } :: older)) w fun e u' w' =>
      e = .returned (.tuple #[]) ∧ u' = .panicking ({ v := .iface 25 (.agg #[.int .i64 k, .int .i64 o]), recovered := true } :: older) ∧
      w'.heap[nb]? = some (.cells #[.slice none 0 0] 22 (0, 0)) ∧ w'.heap[fb]? = some (.cells #[.int .i64 k, .int .i64 o] 25 (0, 0)) ∧ Below B w w' := by
  refine callsD_of_wpS Tryd.func47 rfl fun c₀ cs hu => ?_
  apply wpS_seq
  apply wpS_region
  simp [wpOpsS, go_sem, recoverD, hu, Tryd.ntmps47, Exit.thenS]
  apply wpS_seq
  apply wpS_region
  simp [wpOpsS, go_sem, Exit.thenS]
  refine wpS_cond (t := true) (by simp [Act.eval, Array.replicate]) ?_
  simp only [if_true]
  refine wpS_of_wp ?_
  go_wp2_with (fail)
  refine (faultOf_fault _ _ _).mono ?_
  rintro e w1 ⟨rfl, hb1⟩
  have hn1 := (hb1.block nb (heap_lt hn)).trans hn
  have hf1 := (hb1.block fb (heap_lt hf)).trans hf
  obtain ⟨n0, n1⟩ := row1 hn1
  obtain ⟨f0, f1, f2, f3⟩ := row2 hf1
  have hne' : ¬ fb = nb := fun e => hne e.symm
  go_wp2_with (fail)
  simp [bodyPostS, results, Tryd.results47, go_sem]
  have hlt := heap_lt hn
  refine ⟨?_, ?_, ((((hb1.mono (by omega)).setCell (p := ⟨nb, 0, none⟩) hB1 _).setCell (p := ⟨fb, 0, none⟩) hB2 _).setCell (p := ⟨fb, 1, none⟩) hB2 _)⟩
  · rw [heap_far hne, heap_far hne, heap_set hn1]
    rfl
  · have h1 := heap_set (i := 0) ((heap_far (p := ⟨nb, 0, none⟩) (fun e => hne e.symm) (.slice none 0 0)).trans hf1) (.int .i64 k)
    have h2 := heap_set (i := 1) h1 (.int .i64 o)
    exact h2

theorem catch_idle (nb fb : Nat) (w : World) :
    CallsD Tryd.prog 47 #[.pointer (some ⟨nb, 0, none⟩), .pointer (some ⟨fb, 0, none⟩)] .returning w fun e u' w' => e = .returned (.tuple #[]) ∧ u' = .returning ∧ w' = w := by
  refine callsD_of_wpS Tryd.func47 rfl fun c₀ cs hu => ?_
  apply wpS_seq
  apply wpS_region
  simp [wpOpsS, go_sem, recoverD, hu, Tryd.ntmps47, Exit.thenS]
  apply wpS_seq
  apply wpS_region
  simp [wpOpsS, go_sem, Exit.thenS]
  refine wpS_cond (t := false) (by simp [Act.eval, Array.replicate]) ?_
  simp only [Bool.false_eq_true, if_false]
  refine wpS_of_wp (wp_skip ?_)
  cases c₀
  simp_all [bodyPostS, results, Tryd.results47]

def ParsePost (s : ByteArray) (w : World) (e : Ending) (w' : World) : Prop :=
  (match parseR s.data.toList with
   | .bad k a => e = .returned (.tuple #[.slice none 0 0, .agg #[.int .i64 k, .int .i64 (a : Int)]])
   | .ok ns _ => ∃ v, e = .returned (.tuple #[v, .agg #[.int .i64 0, .int .i64 0]]) ∧ sliceOf w' (fun x => w.heap.size ≤ x) ns v) ∧ Below w.heap.size w w'

set_option maxHeartbeats 2000000 in
theorem parse_any (s : ByteArray) (w : World) (hs : s.size ≤ maxLen) :
    Calls Tryd.prog 11 #[.string s] w (ParsePost s w) := by
  have hl : s.data.toList.length = s.size := by simp
  unfold maxLen at hs
  by_cases hbig : 65536 < s.size
  · have hmf : ∀ (fn : Fn) (first cap : Array Value) (w : World), (Instr.makeFunc fn first cap).run Tryd.prog w = .ok (.func fn first cap) w := fun _ _ _ _ => rfl
    go_enter_defers Tryd.func11, Tryd.ntmps11
    go_wp2
    simp [bodyPostD, Leaves, settle, results, Tryd.results11, go_sem]
    refine ⟨?_, ((Below.refl _ _).alloc (Nat.le_refl _) _).alloc (by simp) _⟩
    rw [parseR, if_pos (by rw [hl]; exact hbig)]
    rfl
  · have hmf : ∀ (fn : Fn) (first cap : Array Value) (w : World), (Instr.makeFunc fn first cap).run Tryd.prog w = .ok (.func fn first cap) w := fun _ _ _ _ => rfl
    go_enter_defers Tryd.func11, Tryd.ntmps11
    go_wp2_with (fail)
    have hel0 : parseR s.data.toList = elems (s.data.toList.length + 1) 0 0 (s.data.toList.drop 0) := by rw [parseR, if_neg (by rw [hl]; exact hbig), List.drop_zero]
    have Hel := Lib.hid hel0
    clear hel0
    have e0 : ((0 : Nat) : Int) = 0 := rfl
    obtain ⟨W, hW⟩ : ∃ W, W = ((w.alloc (.cells #[.slice none 0 0] 22)).alloc (.cells #[.int .i64 0, .int .i64 0] 25)) := ⟨_, rfl⟩
    have hWs : W.heap.size = w.heap.size + 2 := by rw [hW]; simp
    have hPW : PA (W.alloc (.cells #[.string s, .int .i64 0] 71)) (w.heap.size + 2) s 0 := by
      have := heap_alloc_new W (.cells #[.string s, .int .i64 0] 71)
      rw [hWs] at this
      exact this
    have hWn : W.heap[w.heap.size]? = some (.cells #[.slice none 0 0] 22 (0, 0)) := by
      rw [hW]
      exact (Below.heap_alloc _ _ _ (by simp)).trans (heap_alloc_new w _)
    have hWf : W.heap[w.heap.size + 1]? = some (.cells #[.int .i64 0, .int .i64 0] 25 (0, 0)) := by
      have := heap_alloc_new (w.alloc (.cells #[.slice none 0 0] 22)) (.cells #[.int .i64 0, .int .i64 0] 25)
      rw [hW]
      simpa using this
    have hBW : Below w.heap.size w (W.alloc (.cells #[.string s, .int .i64 0] 71)) := by
      rw [hW]
      exact (((Below.refl _ _).alloc (Nat.le_refl _) _).alloc (by simp) _).alloc (by simp; omega) _
    refine (elems_says _ (w.heap.size + 2) s 0 0 _ (by rw [← hW]; exact hPW) (by omega) (Nat.zero_le _) (by omega) (by rw [List.drop_zero]; exact Nat.lt_succ_self _)).mono ?_
    rw [← hW]
    intro e w1 hpost
    unfold ElemsPost at hpost
    obtain ⟨hpost, hg1⟩ := hpost
    have hn1 := (hg1.block w.heap.size (by simp; omega) (by simp)).trans ((Below.heap_alloc W _ _ (by omega)).trans hWn)
    have hf1 := (hg1.block (w.heap.size + 1) (by simp; omega) (by simp)).trans ((Below.heap_alloc W _ _ (by omega)).trans hWf)
    obtain ⟨n0, n1⟩ := row1 hn1
    obtain ⟨f0, f1, f2, f3⟩ := row2 hf1
    have hs1 := hg1.size
    have hB1 := below_gb_of hBW hg1 (by omega)
    rcases hel : elems (s.data.toList.length + 1) 0 0 (s.data.toList.drop 0) with ⟨k, a⟩ | ⟨ns, q⟩
    · rw [hel] at hpost
      dsimp only at hpost
      subst hpost
      refine leaves_cons (f := 47) (args := #[.pointer (some ⟨w.heap.size, 0, none⟩), .pointer (some ⟨w.heap.size + 1, 0, none⟩)]) (by simp) (by simp [go_sem]) ?_
      refine (catch_panicking w.heap.size (w.heap.size + 1) w.heap.size k (a : Int) [] w1 hn1 hf1 (Nat.le_refl _) (Nat.le_succ _) (by omega)).mono ?_
      rintro e u' w2 ⟨rfl, rfl, hn2, hf2, hb2⟩
      obtain ⟨a0, a1⟩ := row1 hn2
      obtain ⟨b0, b1, b2, b3⟩ := row2 hf2
      simp [Leaves, settle, results, Tryd.results11, go_sem, a0, b0, b1]
      refine ⟨?_, hB1.trans hb2⟩
      rw [Hel.out, hel]
    · rw [hel] at hpost
      obtain ⟨v, rfl, hsl, hP⟩ := hpost
      obtain ⟨A, c, ys, rfl, hc, hr, hro⟩ := hsl
      have hne' : ¬ w.heap.size + 1 = w.heap.size := by omega
      have hne2 : ¬ w.heap.size = w.heap.size + 1 := by omega
      go_wp2_with (fail)
      refine leaves_cons (f := 47) (args := #[.pointer (some ⟨w.heap.size, 0, none⟩), .pointer (some ⟨w.heap.size + 1, 0, none⟩)]) (by simp) (by simp [go_sem]) ?_
      refine (catch_idle w.heap.size (w.heap.size + 1) _).mono ?_
      rintro e u' w2 ⟨rfl, rfl, rfl⟩
      simp [Leaves, settle, results, Tryd.results11, go_sem, n0, f0, f1]
      refine ⟨?_, ((hB1.setCell (Nat.le_refl _) _).setCell (Nat.le_succ _) _).setCell (Nat.le_succ _) _⟩
      rw [Hel.out, hel]
      have hk : ∀ x, (W.alloc (.cells #[.string s, .int .i64 0] 71)).heap.size ≤ x → x < w1.heap.size → (((w1.setCell ⟨w.heap.size, 0, none⟩ (.slice A ns.len c)).setCell ⟨w.heap.size + 1, 0, none⟩ (.int .i64 0)).setCell ⟨w.heap.size + 1, 1, none⟩ (.int .i64 0)).heap[x]? = w1.heap[x]? ∧ w.heap.size ≤ x := by
        intro x hx _
        simp only [World.size_alloc, hWs] at hx
        exact ⟨(heap_far (by simp; omega) _).trans ((heap_far (by simp; omega) _).trans (heap_far (by simp; omega) _)), by omega⟩
      exact ⟨_, rfl, A, c, ys, rfl, hc, hr.keep (by simp [size_set]) hk, hro.keep (by simp [size_set]) hk _⟩
end Go.Proofs.YtpflfbfbjmoggaaDoor
