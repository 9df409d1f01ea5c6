/- tellaw2.TermValidate: the walk. No condition but the names. -/
import Derived.Test.YtnidngpenhblcaaDoorTp1
import Derived.Test.YtnidngpenhblcaaDoorTrw
set_option linter.unusedVariables false
set_option linter.unusedSimpArgs false
namespace Go.Proofs.YtnidngpenhblcaaDoor.TL
open Go.RowKit Sx

set_option maxHeartbeats 4000000 in
set_option maxRecDepth 100000 in
theorem validate_walk (a0 : Option Addr) (len0 cap0 : Nat) (z0 : List Int) (w : World)
    (hl0 : len0 ≤ maxLen) (hI0 : Ints w a0 len0 z0) (W : List (List UInt8)) (gw ow cw : Nat) (tW : TabW w 0 11 W gw ow cw) (hW : ∀ s ∈ W, s.length ≤ 1048576) :
    Calls Tryd.prog 4 #[.slice a0 len0 cap0] w fun e w' => e = .returned (.bool true) ∧ Below w.heap.size w w' := by
  have HI0 := Lib.hid hI0
  have TW := Lib.hid tW
  have HW := Lib.hid hW
  clear hI0 tW hW
  go_enter Tryd.func4, Tryd.ntmps4
  go_wp2_with (fail)
  refine (new_any _ _ _ _).mono ?_
  rintro e1 u0 ⟨rfl, rfl⟩
  go_wp2_with (fail)
  refine (anyTerm_any 5 ⟨_, _, _, _, z0, W, gw, ow, cw⟩ _ (gen_newT (Below.refl _ _) hl0 HI0.out TW.out) (by decide)).mono ?_
  rintro e2 w0 ⟨k, o, t, kids, A, c, ys, rfl, hc, hr, hk, hok, hG, hgb⟩
  have B0 : Below w.heap.size w w0 := below_gb_of (Below.alloc (Below.refl _ _) (Nat.le_refl _) _) hgb (Nat.le_refl _)
  have s0 := kids_okA5 hok
  have HLT := Lib.hid (okA_len HW.out _ _ hok)
  have K0 := Lib.hid (KT.of hc hr hk)
  have HB0 := Lib.hid B0
  clear hc hr hk hok hG hgb B0
  go_upto_region 2 with (fail)
  refine gen_wp _ (fun X => P1 w X w0.heap.size k o t kids A c) ?_ ?_
  · have h1 := heap_alloc_new w0 (.cells #[.int .i64 k, .string ⟨t.toArray⟩, .int .i64 o, .slice A kids.len c] 25 (0, 0))
    have f1 : Below w0.heap.size w0 (w0.alloc (.cells #[.int .i64 k, .string ⟨t.toArray⟩, .int .i64 o, .slice A kids.len c] 25 (0, 0))) := (Below.refl _ _).alloc (Nat.le_refl _) _
    exact ⟨h1, K0.out.below f1, HB0.out.trans (f1.mono HB0.out.size)⟩
  rintro W5 hP
  obtain ⟨g5, hg5⟩ : ∃ g5, w0.heap.size = g5 := ⟨_, rfl⟩
  rw [hg5] at hP ⊢
  clear hg5 K0 HB0
  obtain ⟨x, hx⟩ : ∃ x, validV k t o kids = x := ⟨_, rfl⟩
  have ht : t.length ≤ 1048576 := HLT.out.1
  have hlt : lenT kids := HLT.out.2.1
  have CV : Hid (∀ X, P1 w X g5 k o t kids A c → Calls Tryd.prog 24 #[.agg #[.int .i64 k, .string ⟨t.toArray⟩, .int .i64 o, .slice A kids.len c]] X fun e u => e = .returned (.int .i64 x) ∧ P1 w u g5 k o t kids A c) := Lib.hid (by
    intro X h
    refine (validate_any k o t kids A c X s0 h.k0 ht hlt).mono ?_
    rintro e u ⟨rfl, hb⟩
    exact ⟨congrArg (fun z : Int => Ending.returned (.int .i64 z)) hx, h.below hb⟩)
  have CR : Hid (∀ X, P1 w X g5 k o t kids A c → Calls Tryd.prog 25 #[.agg #[.int .i64 k, .string ⟨t.toArray⟩, .int .i64 o, .slice A kids.len c]] X fun e u => e = .returned (.int .i64 x) ∧ P1 w u g5 k o t kids A c) := Lib.hid (by
    intro X h
    refine (rValidate_any k o t kids A c X s0 h.k0 ht hlt).mono ?_
    rintro e u ⟨rfl, hb⟩
    exact ⟨congrArg (fun z : Int => Ending.returned (.int .i64 z)) hx, h.below hb⟩)
  clear hx hlt ht
  have HPn := Lib.hid (hP.below (below_drew W5))
  obtain ⟨p0, p1, p2, p3⟩ := hP.cells
  clear hP
  go_region_held3 (fun X => X.cell? ⟨g5, 0, none⟩ = some (.int .i64 k) ∧ X.cell? ⟨g5, 1, none⟩ = some (.string ⟨t.toArray⟩) ∧ X.cell? ⟨g5, 2, none⟩ = some (.int .i64 o) ∧ X.cell? ⟨g5, 3, none⟩ = some (.slice A kids.len c)) (go_keep)
    (first
      | (go_at_call 15; refine (check2_any _).mono ?_; rintro e u ⟨rfl, hb⟩; have HPn := Lib.hid (HPn.out.below hb); clear hb; obtain ⟨p0, p1, p2, p3⟩ := HPn.out.cells)
      | (go_at_call 24; (with_reducible refine (CV.out _ HPn.out).mono ?_); rintro e u ⟨rfl, hp⟩; have HPn := Lib.hid hp; clear hp; obtain ⟨p0, p1, p2, p3⟩ := HPn.out.cells)
      | (go_at_call 25; (with_reducible refine (CR.out _ HPn.out).mono ?_); rintro e u ⟨rfl, hp⟩; have HPn := Lib.hid hp; clear hp; obtain ⟨p0, p1, p2, p3⟩ := HPn.out.cells))
  all_goals
    go_wp2_with (fail)
    go_ret
    exact ⟨rfl, HPn.out.bel⟩
end Go.Proofs.YtnidngpenhblcaaDoor.TL
