/- skip -/
import Derived.Test.YtpflfbfbjmoggaaDoorLeaf
set_option linter.unusedVariables false
set_option linter.unusedSimpArgs false
namespace Go.Proofs.YtpflfbfbjmoggaaDoor
open Go.RowKit Sx

/-- Block b is a parser of sexpr: its text and its position. -/
def PA (w : World) (b : Nat) (s : ByteArray) (p : Nat) : Prop := w.heap[b]? = some (.cells #[.string s, .int .i64 (p : Int)] 71 (0, 0))

theorem PA.c0 {w : World} {b : Nat} {s : ByteArray} {p : Nat} (h : PA w b s p) : w.cell? ⟨b, 0, none⟩ = some (.string s) := cell_of_row w b 0 _ _ _ h
theorem PA.c1 {w : World} {b : Nat} {s : ByteArray} {p : Nat} (h : PA w b s p) : w.cell? ⟨b, 1, none⟩ = some (.int .i64 (p : Int)) := cell_of_row w b 1 _ _ _ h
theorem PA.fz {w : World} {b : Nat} {s : ByteArray} {p : Nat} (h : PA w b s p) (i : Nat) : w.frozen? ⟨b, i, none⟩ = false := by
  unfold PA at h; simp [World.frozen?, h]
theorem PA.set {w : World} {b : Nat} {s : ByteArray} {p : Nat} (h : PA w b s p) (q : Nat) : PA (w.setCell ⟨b, 1, none⟩ (.int .i64 (q : Int))) b s q := by
  unfold PA at h ⊢
  simp [World.setCell, Array.getElem?_modify, h]
theorem PA.drewN {w : World} {b : Nat} {s : ByteArray} {p : Nat} (h : PA w b s p) (n : Nat) : PA (w.drewN n) b s p := h

theorem PA.lt {w : World} {b : Nat} {s : ByteArray} {p : Nat} (h : PA w b s p) : b < w.heap.size := by
  rcases Nat.lt_or_ge b w.heap.size with hlt | hge
  · exact hlt
  · unfold PA at h; rw [Array.getElem?_eq_none hge] at h; cases h
theorem PA.alloc {w : World} {b : Nat} {s : ByteArray} {p : Nat} (h : PA w b s p) (hb : b < w.heap.size) (o : Obj) : PA (w.alloc o) b s p := (Below.heap_alloc w o b hb).trans h
theorem PA.kept {w w' : World} {b : Nat} {s : ByteArray} {p : Nat} (h : PA w b s p) (hk : w'.heap[b]? = w.heap[b]?) : PA w' b s p := hk.trans h

theorem PA.far {w : World} {b : Nat} {s : ByteArray} {q : Nat} (h : PA w b s q) {p : Addr} (hp : b ≠ p.block) (u : Value) : PA (w.setCell p u) b s q := (Below.heap_setCell w p u b hp).trans h

def posOf (w : World) (b : Nat) : Nat := match w.cell? ⟨b, 1, none⟩ with | some (.int _ n) => n.toNat | _ => 0
theorem PA.pos {w : World} {b : Nat} {s : ByteArray} {p : Nat} (h : PA w b s p) : posOf w b = p := by
  unfold posOf; rw [h.c1]; simp

set_option maxHeartbeats 400000 in
theorem atEnd_any (b : Nat) (s : ByteArray) (p : Nat) (w : World) (h : PA w b s p) (hs : s.size ≤ maxLen) (hp : p ≤ s.size) :
    Calls Tryd.prog 80 #[.pointer (some ⟨b, 0, none⟩)] w fun e w' => e = .returned (.bool (endB p s.size)) ∧ ∃ n, w' = w.drewN n := by
  have h0 := h.c0
  have h1 := h.c1
  clear h
  unfold maxLen at hs
  go_enter Tryd.func80, Tryd.ntmps80
  go_wp2
  go_quiet (fail)
  go_wp2
  all_goals go_ret
  all_goals exact ⟨ret_bool (by rw [Bool.eq_iff_iff]; simp [endB] <;> omega), ⟨_, rfl⟩⟩

theorem atEnd_yes (b : Nat) (s : ByteArray) (p : Nat) (w : World) (h : PA w b s p) (hs : s.size ≤ maxLen) (hp : p = s.size) :
    Calls Tryd.prog 80 #[.pointer (some ⟨b, 0, none⟩)] w fun e w' => e = .returned (.bool true) ∧ ∃ n, w' = w.drewN n :=
  (atEnd_any b s p w h hs (by omega)).mono fun _ _ ⟨he, hw⟩ => ⟨by rw [he]; simp [endB, hp], hw⟩
theorem atEnd_no (b : Nat) (s : ByteArray) (p : Nat) (w : World) (h : PA w b s p) (hs : s.size ≤ maxLen) (hp : p < s.size) :
    Calls Tryd.prog 80 #[.pointer (some ⟨b, 0, none⟩)] w fun e w' => e = .returned (.bool false) ∧ ∃ n, w' = w.drewN n :=
  (atEnd_any b s p w h hs (by omega)).mono fun _ _ ⟨he, hw⟩ => ⟨by rw [he]; simp [endB]; omega, hw⟩

abbrev faultEnd (k o : Int) : Ending := .panicked [{ v := .iface 25 (.agg #[.int .i64 k, .int .i64 o]), recovered := false }]
set_option maxHeartbeats 400000 in
theorem fail_any (k o : Int) (w : World) :
    Calls Tryd.prog 81 #[.int .i64 k, .int .i64 o] w fun e w' => e = faultEnd k o ∧ w = w' := by
  go_enter Tryd.func81, Tryd.ntmps81
  go_wp2
  exact ⟨rfl, rfl, rfl⟩

set_option maxHeartbeats 400000 in
theorem skip_any (b : Nat) (s : ByteArray) (p : Nat) (w : World) (h : PA w b s p) (hs : s.size ≤ maxLen) (hp : p ≤ s.size) :
    Calls Tryd.prog 79 #[.pointer (some ⟨b, 0, none⟩)] w fun e w' => e = .returned (.tuple #[]) ∧ PA w' b s (p + skipN false (s.data.toList.drop p)) ∧ w.grownBy w' (some b) := by
  go_enter Tryd.func79, Tryd.ntmps79
  go_wp2
  go_loopw [2] (fun ic wr => ∃ (icb : Bool) (q : Nat), ic = .bool icb ∧ q ≤ s.size ∧ PA wr b s q ∧ w.grownBy wr (some b) ∧ q + skipN icb (s.data.toList.drop q) = p + skipN false (s.data.toList.drop p)) (fun _ wr => s.size - posOf wr b)
  case atStart => exact ⟨false, p, rfl, hp, h, World.grownBy.refl _ _, rfl⟩
  case round =>
    obtain ⟨icb, q, rfl, hq, hPA, hg, he⟩ := hrel
    have He := Lib.hid he
    clear he
    have hc0 := hPA.c0
    have hc1 := hPA.c1
    have hf1 := hPA.fz 1
    unfold maxLen at hs
    by_cases hlt : q < s.size
    · have hget := Lib.hid (drop_at s q hlt)
      have hne : endB q s.size = false := by simp [endB]; omega
      cases icb
      all_goals
        go_wp2_with (go_at_call 80; refine (atEnd_any b s q _ (by exact hPA) (by unfold maxLen; omega) (by omega)).mono ?_; rintro e w' ⟨rfl, n, rfl⟩)
        go_quiet (fail)
        go_wp2_with (fail)
        all_goals
          have he := He.out
          rw [hget.out] at he
          first | rw [skipN_10 (by assumption)] at he | rw [skipN_true (by assumption)] at he | rw [skipN_32 (by assumption) (by assumption)] at he | rw [skipN_59 (by assumption) (by assumption) (by assumption)] at he | rw [skipN_else (by assumption) (by assumption) (by assumption)] at he
          first
          | exact ⟨⟨_, q + 1, rfl, by omega, (hPA.drewN _).set (q + 1), gb_setCell (gb_drewN hg _) (.inl rfl) _, by omega⟩, meas hPA.pos ((hPA.drewN _).set (q + 1)).pos hlt⟩
          | (refine bodyPost_ret (results_none rfl _ _ _) rfl ?_
             refine ⟨rfl, ?_, gb_drewN hg _⟩
             rw [← he]
             exact hPA)
    · have hget := Lib.hid (drop_end s q (by omega))
      have hne : endB q s.size = true := by simp [endB]; omega
      go_wp2_with (go_at_call 80; refine (atEnd_any b s q _ (by exact hPA) (by unfold maxLen; omega) (by omega)).mono ?_; rintro e w' ⟨rfl, n, rfl⟩)
      have he := He.out
      rw [hget.out] at he
      go_end0
      refine ⟨rfl, ?_, gb_drewN hg _⟩
      rw [← he]
      cases icb <;> exact hPA
end Go.Proofs.YtpflfbfbjmoggaaDoor
