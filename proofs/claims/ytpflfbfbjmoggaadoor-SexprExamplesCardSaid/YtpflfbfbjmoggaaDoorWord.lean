/- sexpr.word: a word is read as the node of its bytes, or the fault of its length is raised. -/
import Derived.Test.YtpflfbfbjmoggaaDoorSkip
import Derived.Test.YtpflfbfbjmoggaaDoorShelf
import Derived.Deep.RegionWith
import Derived.Deep.RegionHeld3
import Derived.StillTailTactics
set_option linter.unusedVariables false
set_option linter.unusedSimpArgs false
namespace Go.Proofs.YtpflfbfbjmoggaaDoor
open Go.RowKit Sx

theorem clone_any (s : ByteArray) (w : World) (hlim : s.size ≤ 281474976710656) :
    Calls Tryd.prog 109 #[.string s] w fun e w' => e = .returned (.string s) ∧ Below w.heap.size w w' := by
  go_enter Tryd.func109, Tryd.ntmps109
  go_wp2_with (go_at_call 128; refine (Tryd.stringslite_Clone s _ hlim).mono ?_; rintro e w' ⟨rfl, hb⟩)
  go_ret
  exact ⟨rfl, hb⟩

def nodeV (k : Int) (t : ByteArray) (v : Value) (o : Int) : Value := .agg #[.int .i64 k, .string t, v, .int .i64 o]

def WordPost (b : Nat) (s : ByteArray) (p : Nat) (w : World) (e : Ending) (w' : World) : Prop :=
  (if 24 < wordN (s.data.toList.drop p) then e = faultEnd 4 p
   else e = .returned (.agg #[.int .i64 1, .string ⟨((s.data.toList.drop p).take (wordN (s.data.toList.drop p))).toArray⟩, .slice none 0 0, .int .i64 (p : Int)]) ∧ PA w' b s (p + wordN (s.data.toList.drop p))) ∧ w.grownBy w' (some b)

set_option maxHeartbeats 4000000 in
theorem word_any (b : Nat) (s : ByteArray) (p : Nat) (w : World) (h : PA w b s p) (hb : b < w.heap.size) (hs : s.size ≤ 65536) (hp : p ≤ s.size) :
    Calls Tryd.prog 83 #[.pointer (some ⟨b, 0, none⟩)] w (WordPost b s p w) := by
  have hc0 := h.c0
  have hc1 := h.c1
  go_enter Tryd.func83, Tryd.ntmps83
  go_wp2_with (fail)
  go_loopw [] (fun wr => ∃ (q : Nat), p ≤ q ∧ q ≤ s.size ∧ PA wr b s q ∧ w.grownBy wr (some b) ∧ wr.heap[w.heap.size]? = some (.cells #[.int .i64 0, .string ⟨#[]⟩, .slice none 0 0, .int .i64 0] 31 (0, 0)) ∧ q + wordN (s.data.toList.drop q) = p + wordN (s.data.toList.drop p)) (fun wr => s.size - posOf wr b)
  case atStart => exact ⟨p, Nat.le_refl _, hp, h.alloc hb _, gb_alloc (World.grownBy.refl _ _) _, heap_alloc_new w _, rfl⟩
  case round =>
    obtain ⟨q, hpq, hq, hPA, hg, hN, he⟩ := hrel
    have He := Lib.hid he
    clear he
    clear hc0 hc1
    have hc0 := hPA.c0
    have hc1 := hPA.c1
    have hf1 := hPA.fz 1
    by_cases hlt : q < s.size
    · have hget := Lib.hid (drop_at s q hlt)
      have b0 := byte_lo s[q]
      have b1 := byte_hi s[q]
      have hml : s.size ≤ maxLen := by unfold maxLen; omega
      cases hw : wordB (s[q].toNat : Int)
      · go_wp2_with (fail)
        go_quiet (first | (go_at_call 80; exact Calls.quiet_of (atEnd_no b s q _ (by exact hPA) hml (by omega))) | (go_at_call 82; exact quiet_left (isWordByte_no _ _ b0 b1 hw)))
        go_wp2_with (fail)
        · have hm : 24 < (q : Int) - p := by assumption
          go_wp2_with (go_at_call 81; refine (fail_any _ _ _).mono ?_; rintro e w' ⟨rfl, rfl⟩)
          refine ⟨rfl, ?_, gb_drewN hg _⟩
          have he := He.out
          rw [hget.out, wordN_no hw] at he
          rw [if_pos (by omega)]
        · have hm : (q : Int) - p ≤ 24 := by assumption
          have hsz := heap_lt hN
          have hext : (s.extract p q).size ≤ 281474976710656 := by simp; omega
          go_region_with (go_at_call 109; refine (clone_any _ _ hext).mono ?_; rintro e w2 ⟨rfl, hb2⟩; have hN2 := (hb2.block _ hsz).trans hN; obtain ⟨m0, m1, m2, m3, z0, z1, z2, z3⟩ := row4 hN2)
          all_goals
            have hP2 := hPA.kept (hb2.block b hPA.lt)
            have hg2 := gb_trans (gb_drewN hg _) (gb_below hb2 (some b))
            go_wp2_with (fail)
            have he := He.out
            rw [hget.out, wordN_no hw] at he
            refine bodyPost_ret (v := .agg #[.int .i64 1, .string (s.extract p q), .slice none 0 0, .int .i64 (p : Int)]) (by simp [results, Tryd.results83, go_sem, m0, m1, m2, m3]) rfl ⟨?_, ?_⟩
            · rw [if_neg (by omega)]
              refine ⟨?_, ?_⟩
              · rw [extract_eq, show q - p = wordN (s.data.toList.drop p) from by omega]
              · rw [show p + wordN (s.data.toList.drop p) = q from by omega]
                repeat (first | refine PA.far ?_ (by simp; omega) _ | exact hP2)
            · repeat (first | refine gb_setCell ?_ (.inr (Nat.le_refl _)) _ | exact hg2)
      · go_wp2_with (fail)
        go_quiet (first | (go_at_call 80; exact Calls.quiet_of (atEnd_no b s q _ (by exact hPA) hml (by omega))) | (go_at_call 82; exact quiet_left (isWordByte_yes _ _ b0 b1 hw)))
        go_wp2_with (fail)
        have he := He.out
        rw [hget.out, wordN_yes hw] at he
        exact ⟨⟨q + 1, by omega, by omega, (hPA.drewN _).set (q + 1), gb_setCell (gb_drewN hg _) (.inl rfl) _, (Below.heap_setCell _ _ _ _ (by simp; omega)).trans hN, by omega⟩, meas hPA.pos ((hPA.drewN _).set (q + 1)).pos hlt⟩
    · have hget := Lib.hid (drop_end s q (by omega))
      have hml : s.size ≤ maxLen := by unfold maxLen; omega
      go_wp2_with (fail)
      go_quiet ((go_at_call 80; exact Calls.quiet_of (atEnd_yes b s q _ (by exact hPA) hml (by omega))))
      go_wp2_with (fail)
      · have hm : 24 < (q : Int) - p := by assumption
        go_wp2_with (go_at_call 81; refine (fail_any _ _ _).mono ?_; rintro e w' ⟨rfl, rfl⟩)
        refine ⟨rfl, ?_, gb_drewN hg _⟩
        have he := He.out
        rw [hget.out, wordN] at he
        rw [if_pos (by omega)]
      · have hm : (q : Int) - p ≤ 24 := by assumption
        have hsz := heap_lt hN
        have hext : (s.extract p q).size ≤ 281474976710656 := by simp; omega
        go_region_with (go_at_call 109; refine (clone_any _ _ hext).mono ?_; rintro e w2 ⟨rfl, hb2⟩; have hN2 := (hb2.block _ hsz).trans hN; obtain ⟨m0, m1, m2, m3, z0, z1, z2, z3⟩ := row4 hN2)
        all_goals
          have hP2 := hPA.kept (hb2.block b hPA.lt)
          have hg2 := gb_trans (gb_drewN hg _) (gb_below hb2 (some b))
          go_wp2_with (fail)
          have he := He.out
          rw [hget.out, wordN] at he
          refine bodyPost_ret (v := .agg #[.int .i64 1, .string (s.extract p q), .slice none 0 0, .int .i64 (p : Int)]) (by simp [results, Tryd.results83, go_sem, m0, m1, m2, m3]) rfl ⟨?_, ?_⟩
          · rw [if_neg (by omega)]
            refine ⟨?_, ?_⟩
            · rw [extract_eq, show q - p = wordN (s.data.toList.drop p) from by omega]
            · rw [show p + wordN (s.data.toList.drop p) = q from by omega]
              repeat (first | refine PA.far ?_ (by simp; omega) _ | exact hP2)
          · repeat (first | refine gb_setCell ?_ (.inr (Nat.le_refl _)) _ | exact hg2)
end Go.Proofs.YtpflfbfbjmoggaaDoor
