/- sexpr.quoted: a quoted string is read as the node of its value, or its first fault is raised. -/
import Derived.Test.YtpflfbfbjmoggaaDoorStr1
import Derived.Test.YtpflfbfbjmoggaaDoorBuild
import Derived.Test.YtpflfbfbjmoggaaDoorShelf
import Derived.Deep.RegionWith
set_option linter.unusedVariables false
set_option linter.unusedSimpArgs false
namespace Go.Proofs.YtpflfbfbjmoggaaDoor
open Go.RowKit Sx

theorem builder_kept {T e : TypeId} {B g b : Nat} {bs : List Value} {w w' : World} (h : Lib.IsBuilder T e B g bs w) (k : w.grownBy w' (some b)) (hb : b < B) : Lib.IsBuilder T e B g bs w' := by
  have H : ∀ p, Lib.BuilderAt T e B g p bs w → Lib.BuilderAt T e B g p bs w' := by
    intro p hp
    have hlt := Lib.BuilderAt.lt hp
    obtain ⟨hB, v, hg, hown, hne⟩ := hp
    refine ⟨hB, v, (k.block g hlt (by simp; omega)).trans hg, hown.kept k ?_, hne⟩
    cases hv : v.ownBlock with
    | none => exact .inl rfl
    | some x => exact .inr (by have := (hown.lt x hv).1; simp; omega)
  rcases h with h | h
  · exact .inl (H _ h)
  · exact .inr (H _ h)

theorem builder_lt {T e : TypeId} {B g : Nat} {bs : List Value} {w : World} (h : Lib.IsBuilder T e B g bs w) : g < w.heap.size := by
  rcases h with h | h <;> exact Lib.BuilderAt.lt h

theorem builder_set {T e : TypeId} {B g b i : Nat} {bs : List Value} {w : World} (h : Lib.IsBuilder T e B g bs w) (hb : b < B) (v : Value) : Lib.IsBuilder T e B g bs (w.setCell ⟨b, i, none⟩ v) :=
  builder_kept h (gb_setCell (g := b) (World.grownBy.refl _ _) (.inl rfl) _) hb
theorem len_any (B g : Nat) (l : List UInt8) (w : World) (h : Lib.IsBuilder 76 5 B g (Lib.byteCells l) w) :
    Calls Tryd.prog 111 #[.pointer (some ⟨g, 0, none⟩)] w fun e w' => e = .returned (.int .i64 (l.length : Int)) ∧ w = w' :=
  (Tryd.Builder_Len B g _ w h).mono fun _ _ ⟨he, hw⟩ => ⟨by rw [he, Lib.byteCells_length], hw.symm⟩

theorem builder_new {T e : TypeId} {B : Nat} (w : World) (hB : B ≤ w.heap.size) : Lib.IsBuilder T e B w.heap.size [] (w.alloc (.cells #[.pointer none, .slice none 0 0] T)) :=
  .inl ⟨hB, .slice none 0 0, heap_alloc_new w _, ⟨by simp, .inl ⟨rfl, rfl⟩⟩, by simp [Value.ownBlock]⟩

def QuotPost (b : Nat) (s : ByteArray) (p : Nat) (w : World) (e : Ending) (w' : World) : Prop :=
  (match quot ((s.data.toList.drop (p + 1)).length + 1) (s.data.toList.drop (p + 1)) with
   | .bad k => e = faultEnd 2 ((p + 1 + k : Nat) : Int)
   | .ok t n => if 2000 < t.length then e = faultEnd 4 p
      else e = .returned (.agg #[.int .i64 2, .string ⟨t.toArray⟩, .slice none 0 0, .int .i64 (p : Int)]) ∧ PA w' b s (p + 1 + n)) ∧ w.grownBy w' (some b)

set_option maxHeartbeats 4000000 in
theorem quoted_any (b : Nat) (s : ByteArray) (p : Nat) (w : World) (h : PA w b s p) (hs : s.size ≤ 65536) (hp : p < s.size) :
    Calls Tryd.prog 84 #[.pointer (some ⟨b, 0, none⟩)] w (QuotPost b s p w) := by
  have hc0 := h.c0
  have hc1 := h.c1
  have hb := h.lt
  have hf1 := h.fz 1
  go_enter Tryd.func84, Tryd.ntmps84
  go_wp2_with (fail)
  go_loopw [] (fun wr => ∃ (acc : List UInt8) (q f : Nat), p + 1 ≤ q ∧ q ≤ s.size ∧ PA wr b s q ∧ Lib.IsBuilder 76 5 (w.heap.size + 1) (w.heap.size + 1) (Lib.byteCells acc) wr ∧
    wr.heap[w.heap.size]? = some (.cells #[.int .i64 0, .string ⟨#[]⟩, .slice none 0 0, .int .i64 0] 31 (0, 0)) ∧ w.grownBy wr (some b) ∧ acc.length ≤ q - (p + 1) ∧ (s.data.toList.drop q).length < f ∧
    (quot f (s.data.toList.drop q)).pre acc (q - (p + 1)) = quot ((s.data.toList.drop (p + 1)).length + 1) (s.data.toList.drop (p + 1))) (fun wr => s.size - posOf wr b)
  case atStart =>
    refine ⟨[], p + 1, _, Nat.le_refl _, hp, ?_, ?_, ?_, ?_, by simp, Nat.lt_succ_self _, by simp [QRes.pre_nil]⟩
    · exact ((h.set (p + 1)).alloc (by rw [size_set]; exact hb) _).alloc (by simp [size_set]; omega) _
    · have := builder_new (T := 76) (e := 5) (B := w.heap.size + 1) ((w.setCell ⟨b, 1, none⟩ (.int .i64 ((p : Int) + 1))).alloc (.cells #[.int .i64 0, .string ⟨#[]⟩, .slice none 0 0, .int .i64 0] 31)) (by simp [size_set])
      simpa [size_set, Lib.byteCells] using this
    · have := heap_alloc_new (w.setCell ⟨b, 1, none⟩ (.int .i64 ((p : Int) + 1))) (.cells #[.int .i64 0, .string ⟨#[]⟩, .slice none 0 0, .int .i64 0] 31)
      rw [size_set] at this
      exact (Below.heap_alloc _ _ _ (by simp [size_set])).trans this
    · exact gb_alloc (gb_alloc (gb_setCell (World.grownBy.refl _ _) (.inl rfl) _) _) _
  case round =>
    obtain ⟨acc, q, f, hpq, hq, hPA, hB, hN, hg, hacc, hf, he⟩ := hrel
    obtain ⟨f, rfl⟩ : ∃ f', f = f' + 1 := ⟨f - 1, by omega⟩
    have He := Lib.hid he
    clear he
    clear hc0 hc1 hf1
    have hc0 := hPA.c0
    have hc1 := hPA.c1
    have hf1 := hPA.fz 1
    have hml : s.size ≤ maxLen := by unfold maxLen; omega
    by_cases hlt : q < s.size
    · have hget := Lib.hid (drop_at s q hlt)
      have b0 := byte_lo s[q]
      have b1 := byte_hi s[q]
      cases h34 : ((s[q].toNat : Int) == 34)
      · have h34' : ((s[q].toNat : Int) != 34) = true := by rw [bne, h34]; rfl
        have hst := Lib.hid (rfl : strStep (s.data.toList.drop q) = strStep (s.data.toList.drop q))
        go_wp2_with (fail)
        go_quiet ((go_at_call 80; exact Calls.quiet_of (atEnd_no b s q _ (by exact hPA) hml (by omega))))
        go_wp2_with (fail)
        refine (stringByte_any b s q _ (by exact hPA) hml hlt).mono ?_
        intro e w1 hpost
        unfold SbPost at hpost
        rcases hst : strStep (s.data.toList.drop q) with _ | ⟨d, m⟩
        · rw [hst] at hpost
          obtain ⟨rfl, hg1⟩ := hpost
          refine ⟨rfl, ?_, gb_trans (gb_drewN hg _) hg1⟩
          have he := He.out
          rw [hget.out] at he hst
          rw [quot_bad h34 hst] at he
          rw [← he]
          exact congrArg (faultEnd 2) (by omega)
        · rw [hst] at hpost
          obtain ⟨⟨rfl, hP1⟩, hg1⟩ := hpost
          have hB1 := builder_kept (by exact hB) hg1 (by omega)
          go_wp2_with (fail)
          obtain ⟨hm1, hm2⟩ := strStep_le hst
          rw [drop_len] at hm2
          refine (writeByte_any (w.heap.size + 1) (w.heap.size + 1) (Lib.byteCells acc) _ _ hB1 (by rw [Lib.byteCells_length]; omega) (by have := builder_lt hB1; omega)).mono ?_
          rintro e w2 ⟨rfl, hB2, hb2⟩
          go_wp2_with (fail)
          have he := He.out
          rw [hget.out] at he hst
          rw [quot_step h34 hst, ← hget.out, QRes.pre_pre, List.drop_drop] at he
          have hP2 := hP1.kept (hb2.block b (by omega))
          have hNl := heap_lt hN
          refine ⟨⟨acc ++ [d], q + m, f, by omega, by omega, hP2, .inr (by simpa [Lib.byteCells] using hB2), ?_, gb_belowB (gb_trans (gb_drewN hg _) hg1) hb2 (by omega), by simp; omega, ?_, ?_⟩, meas2 hPA.pos hP2.pos hlt (by omega)⟩
          · exact (hb2.block _ (by omega)).trans ((hg1.block _ hNl (by simp; omega)).trans hN)
          · rw [drop_len] at hf ⊢
            omega
          · rw [show q + m - (p + 1) = m + (q - (p + 1)) from by omega]
            exact he
      · have h34' : ((s[q].toNat : Int) != 34) = false := by simp [bne, h34]
        have he' := He.out
        rw [hget.out, quot_close h34] at he'
        have he := Lib.hid he'
        clear He he'
        go_wp2_with (fail)
        go_quiet ((go_at_call 80; exact Calls.quiet_of (atEnd_no b s q _ (by exact hPA) hml (by omega))))
        go_wp2_with (go_at_call 80; refine (atEnd_no b s q _ (by exact hPA) hml (by omega)).mono ?_; rintro e w' ⟨rfl, n1, rfl⟩)
        by_cases hbig : 2000 < acc.length
        · refine (len_any (w.heap.size + 1) (w.heap.size + 1) acc _ (by exact builder_set (by exact hB) (by omega) _)).mono ?_
          rintro e w1 ⟨rfl, rfl⟩
          go_wp2_with (go_at_call 81; refine (fail_any _ _ _).mono ?_; rintro e w' ⟨rfl, rfl⟩)
          refine ⟨rfl, ?_, gb_setCell (gb_drewN hg _) (.inl rfl) _⟩
          rw [← he.out]
          dsimp only [QRes.pre]
          rw [if_pos (by simpa using hbig)]
        · refine (len_any (w.heap.size + 1) (w.heap.size + 1) acc _ (by exact builder_set (by exact hB) (by omega) _)).mono ?_
          rintro e w1 ⟨rfl, rfl⟩
          go_wp2_with (fail)
          refine (Tryd.Builder_String_any (w.heap.size + 1) (w.heap.size + 1) acc _ (by exact builder_set (by exact hB) (by omega) _) (by have := builder_lt hB; simp [size_set]; omega)).mono ?_
          rintro e w2 ⟨rfl, hb2⟩
          have hN2 := (hb2.block _ (Nat.lt_succ_self _)).trans ((Below.heap_setCell _ _ _ _ (by simp; omega)).trans hN)
          obtain ⟨m0, m1, m2, m3, z0, z1, z2, z3⟩ := row4 hN2
          go_wp2_with (fail)
          refine bodyPost_ret (v := .agg #[.int .i64 2, .string ⟨acc.toArray⟩, .slice none 0 0, .int .i64 (p : Int)]) (by simp [results, Tryd.results84, go_sem, m0, m1, m2, m3]) rfl ⟨?_, ?_⟩
          · rw [← he.out]
            dsimp only [QRes.pre]
            rw [if_neg (by simpa using hbig)]
            refine ⟨by simp, ?_⟩
            have hP2 : PA w2 b s (q + 1) := ((hPA.drewN 0).set (q + 1)).kept (hb2.block b (by omega))
            rw [show p + 1 + (1 + (q - (p + 1))) = q + 1 from by omega]
            repeat (first | refine PA.far ?_ (by simp; omega) _ | exact hP2)
          · have hg2 := gb_belowB (gb_setCell (gb_drewN hg _) (p := ⟨b, 1, none⟩) (.inl rfl) _) hb2 (Nat.le_succ _)
            repeat (first | refine gb_setCell ?_ (.inr (Nat.le_refl _)) _ | exact hg2)
    · have hget := Lib.hid (drop_end s q (by omega))
      go_wp2_with (fail)
      go_quiet ((go_at_call 80; exact Calls.quiet_of (atEnd_yes b s q _ (by exact hPA) hml (by omega))))
      go_wp2_with (first | (go_at_call 80; refine (atEnd_yes b s q _ (by exact hPA) hml (by omega)).mono ?_; rintro e w' ⟨rfl, n1, rfl⟩) | (go_at_call 81; refine (fail_any _ _ _).mono ?_; rintro e w' ⟨rfl, rfl⟩))
      refine ⟨rfl, ?_, gb_drewN hg _⟩
      have he := He.out
      rw [hget.out, quot_end] at he
      rw [← he]
      exact congrArg (faultEnd 2) (by omega)
end Go.Proofs.YtpflfbfbjmoggaaDoor
