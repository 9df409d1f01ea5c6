/- sexpr.stringByte: one byte of a quoted string's value, for every text and position inside it. -/
import Derived.Test.YtpflfbfbjmoggaaDoorSkip
set_option linter.unusedVariables false
set_option linter.unusedSimpArgs false
namespace Go.Proofs.YtpflfbfbjmoggaaDoor
open Go.RowKit Sx

def SbPost (b : Nat) (s : ByteArray) (p : Nat) (w : World) (e : Ending) (w' : World) : Prop :=
  (match strStep (s.data.toList.drop p) with
   | some (d, m) => e = .returned (.int .u8 (d.toNat : Int)) ∧ PA w' b s (p + m)
   | none => e = faultEnd 2 p) ∧ w.grownBy w' (some b)

set_option maxHeartbeats 1000000 in
theorem sb_esc_bad (b : Nat) (s : ByteArray) (p : Nat) (w : World) (h : PA w b s p) (hs : s.size ≤ maxLen) (hp : p < s.size) (h92 : ((s[p].toNat : Int) == 92) = true) (hend : p + 1 < s.size) (hesc : escB (s[p + 1].toNat : Int) = false) :
    Calls Tryd.prog 110 #[.pointer (some ⟨b, 0, none⟩)] w (SbPost b s p w) := by
  have hc0 := h.c0
  have hc1 := h.c1
  have hf1 := h.fz 1
  unfold maxLen at hs
  have hget := Lib.hid (drop_at s p hp)
  have b0 := byte_lo s[p]
  have b1 := byte_hi s[p]
  have hget2 := Lib.hid (drop_at s (p + 1) hend)
  have b2 := byte_lo s[p + 1]
  have b3 := byte_hi s[p + 1]
  have i1 : ((p : Int) + 1).toNat = p + 1 := by omega
  have i2 : (p : Int) + 1 < (s.size : Int) := by omega
  have i3 : 0 ≤ (p : Int) + 1 := by omega
  go_enter Tryd.func110, Tryd.ntmps110
  go_wp2_with (fail)
  go_quiet (fail)
  go_wp2_with (fail)
  go_quiet (first | (go_at_call 80; first | exact Calls.quiet_of (atEnd_no b s (p + 1) _ (by exact (h.drewN _).set (p + 1)) (by unfold maxLen; omega) (by omega)) | exact quiet_add (atEnd_no b s (p + 1) _ (by exact (h.drewN _).set (p + 1)) (by unfold maxLen; omega) (by omega))) | (go_at_call 113; first | exact quiet_left (mustEscape_any _ _ (by assumption) (by assumption)) | exact quiet_add_left (mustEscape_any _ _ (by assumption) (by assumption))))
  go_wp2_with (first | (go_at_call 123; refine (isStringByte_any _ _ (by assumption) (by assumption)).mono ?_; rintro e w' ⟨rfl, rfl⟩) | (go_at_call 81; refine (fail_any _ _ _).mono ?_; rintro e w' ⟨rfl, rfl⟩))
  refine ⟨rfl, ?_, gb_drewN (gb_setCell (gb_drewN (World.grownBy.refl _ _) _) (.inl rfl) _) _⟩
  rw [hget.out, hget2.out, strStep_esc_bad h92 hesc]
set_option maxHeartbeats 1000000 in
theorem sb_esc (b : Nat) (s : ByteArray) (p : Nat) (w : World) (h : PA w b s p) (hs : s.size ≤ maxLen) (hp : p < s.size) (h92 : ((s[p].toNat : Int) == 92) = true) (hend : p + 1 < s.size) (hesc : escB (s[p + 1].toNat : Int) = true) :
    Calls Tryd.prog 110 #[.pointer (some ⟨b, 0, none⟩)] w (SbPost b s p w) := by
  have hc0 := h.c0
  have hc1 := h.c1
  have hf1 := h.fz 1
  unfold maxLen at hs
  have hget := Lib.hid (drop_at s p hp)
  have b0 := byte_lo s[p]
  have b1 := byte_hi s[p]
  have hget2 := Lib.hid (drop_at s (p + 1) hend)
  have b2 := byte_lo s[p + 1]
  have b3 := byte_hi s[p + 1]
  have i1 : ((p : Int) + 1).toNat = p + 1 := by omega
  have i2 : (p : Int) + 1 < (s.size : Int) := by omega
  have i3 : 0 ≤ (p : Int) + 1 := by omega
  have hstr := strB_of_escB hesc
  go_enter Tryd.func110, Tryd.ntmps110
  go_wp2_with (fail)
  go_quiet (fail)
  go_wp2_with (fail)
  go_quiet (first | (go_at_call 80; first | exact Calls.quiet_of (atEnd_no b s (p + 1) _ (by exact (h.drewN _).set (p + 1)) (by unfold maxLen; omega) (by omega)) | exact quiet_add (atEnd_no b s (p + 1) _ (by exact (h.drewN _).set (p + 1)) (by unfold maxLen; omega) (by omega))) | (go_at_call 113; first | exact quiet_left (mustEscape_any _ _ (by assumption) (by assumption)) | exact quiet_add_left (mustEscape_any _ _ (by assumption) (by assumption))))
  go_wp2_with (fail)
  go_quiet (fail)
  go_wp2_with (first | (go_at_call 123; refine (isStringByte_any _ _ (by assumption) (by assumption)).mono ?_; rintro e w' ⟨rfl, rfl⟩) | (go_at_call 81; refine (fail_any _ _ _).mono ?_; rintro e w' ⟨rfl, rfl⟩))
  go_ret
  refine ⟨?_, gb_setCell (gb_drewN (gb_setCell (gb_drewN (World.grownBy.refl _ _) _) (.inl rfl) _) _) (.inl rfl) _⟩
  rw [hget.out, hget2.out, strStep_esc h92 hesc]
  exact ⟨rfl, (((h.drewN _).set (p + 1)).drewN _).set (p + 2)⟩
set_option maxHeartbeats 1000000 in
theorem sb_esc_end (b : Nat) (s : ByteArray) (p : Nat) (w : World) (h : PA w b s p) (hs : s.size ≤ maxLen) (hp : p < s.size) (h92 : ((s[p].toNat : Int) == 92) = true) (hend : s.size ≤ p + 1) :
    Calls Tryd.prog 110 #[.pointer (some ⟨b, 0, none⟩)] w (SbPost b s p w) := by
  have hc0 := h.c0
  have hc1 := h.c1
  have hf1 := h.fz 1
  unfold maxLen at hs
  have hget := Lib.hid (drop_at s p hp)
  have b0 := byte_lo s[p]
  have b1 := byte_hi s[p]
  have hget2 := Lib.hid (drop_end s (p + 1) (by omega))
  go_enter Tryd.func110, Tryd.ntmps110
  go_wp2_with (fail)
  go_quiet (fail)
  go_wp2_with (fail)
  go_quiet (first | (go_at_call 80; first | exact Calls.quiet_of (atEnd_yes b s (p + 1) _ (by exact (h.drewN _).set (p + 1)) (by unfold maxLen; omega) (by omega)) | exact quiet_add (atEnd_yes b s (p + 1) _ (by exact (h.drewN _).set (p + 1)) (by unfold maxLen; omega) (by omega))) | (go_at_call 113; first | exact quiet_left (mustEscape_any _ _ (by assumption) (by assumption)) | exact quiet_add_left (mustEscape_any _ _ (by assumption) (by assumption))))
  go_wp2_with (first | (go_at_call 123; refine (isStringByte_any _ _ (by assumption) (by assumption)).mono ?_; rintro e w' ⟨rfl, rfl⟩) | (go_at_call 81; refine (fail_any _ _ _).mono ?_; rintro e w' ⟨rfl, rfl⟩))
  refine ⟨rfl, ?_, gb_drewN (gb_setCell (gb_drewN (World.grownBy.refl _ _) _) (.inl rfl) _) _⟩
  rw [hget.out, hget2.out, strStep_esc_end h92]
set_option maxHeartbeats 1000000 in
theorem sb_plain (b : Nat) (s : ByteArray) (p : Nat) (w : World) (h : PA w b s p) (hs : s.size ≤ maxLen) (hp : p < s.size) (h92' : ((s[p].toNat : Int) == 92) = false) :
    Calls Tryd.prog 110 #[.pointer (some ⟨b, 0, none⟩)] w (SbPost b s p w) := by
  have hc0 := h.c0
  have hc1 := h.c1
  have hf1 := h.fz 1
  unfold maxLen at hs
  have hget := Lib.hid (drop_at s p hp)
  have b0 := byte_lo s[p]
  have b1 := byte_hi s[p]
  cases hstr : strB (s[p].toNat : Int)
  all_goals
    go_enter Tryd.func110, Tryd.ntmps110
    go_wp2_with (fail)
    go_quiet (fail)
    go_wp2_with (fail)
    go_quiet (fail)
    go_wp2_with (first | (go_at_call 123; refine (isStringByte_any _ _ (by assumption) (by assumption)).mono ?_; rintro e w' ⟨rfl, rfl⟩) | (go_at_call 81; refine (fail_any _ _ _).mono ?_; rintro e w' ⟨rfl, rfl⟩))
  · refine ⟨rfl, ?_, gb_drewN (World.grownBy.refl _ _) _⟩
    rw [hget.out, strStep_bad h92' hstr]
  · go_ret
    refine ⟨?_, gb_setCell (gb_drewN (World.grownBy.refl _ _) _) (.inl rfl) _⟩
    rw [hget.out, strStep_plain h92' hstr]
    exact ⟨rfl, (h.drewN _).set (p + 1)⟩

theorem stringByte_any (b : Nat) (s : ByteArray) (p : Nat) (w : World) (h : PA w b s p) (hs : s.size ≤ maxLen) (hp : p < s.size) :
    Calls Tryd.prog 110 #[.pointer (some ⟨b, 0, none⟩)] w (SbPost b s p w) := by
  cases h92 : ((s[p].toNat : Int) == 92)
  · exact sb_plain b s p w h hs hp h92
  · by_cases hend : p + 1 < s.size
    · cases hesc : escB (s[p + 1].toNat : Int)
      · exact sb_esc_bad b s p w h hs hp h92 hend hesc
      · exact sb_esc b s p w h hs hp h92 hend hesc
    · exact sb_esc_end b s p w h hs hp h92 (by omega)
end Go.Proofs.YtpflfbfbjmoggaaDoor
