/- cmp.Or at four integers; telref1.order. -/
import Derived.Test.YtpdigaankmgagaaShp
import Derived.Test.YtpdigaankmgagaaTCmp
import Derived.Test.YtpdigaankmgagaaTK
import Derived.Deep.RegionHeld3
import Derived.Deep.DeepCutAuto
set_option linter.unusedVariables false
set_option linter.unusedSimpArgs false
namespace Go.Proofs.Ytpdigaankmgagaa
open Go.RowKit Sx

set_option maxHeartbeats 1000000 in
theorem or_any (g : Nat) (a b c d : Int) (w : World) (h0 : w.cell? ⟨g, 0, none⟩ = some (.int .i64 a)) (h1 : w.cell? ⟨g, 1, none⟩ = some (.int .i64 b)) (h2 : w.cell? ⟨g, 2, none⟩ = some (.int .i64 c)) (h3 : w.cell? ⟨g, 3, none⟩ = some (.int .i64 d)) :
    Calls Try.prog 54 #[.slice (some ⟨g, 0, none⟩) 4 4] w fun e w' => e = .returned (.int .i64 (lx a (lx b (lx c d)))) ∧ w' = w := by
  obtain ⟨V, hV⟩ : ∃ V, lx a (lx b (lx c d)) = V := ⟨_, rfl⟩
  rw [hV]
  have HV := Lib.hid hV
  clear hV
  go_enter Try.func54, Try.ntmps54
  go_wp2_with (fail)
  go_loopw [2, 5, 8] (fun s2 _ iv wr => Hid (s2 = .int .i64 0) ∧ ∃ i : Nat, iv = .int .i64 (i : Int) ∧ i ≤ 4 ∧ Hid (wr = w) ∧ Hid (lx a (lx b (lx c d)) = (match i with | 0 => lx a (lx b (lx c d)) | 1 => lx b (lx c d) | 2 => lx c d | 3 => d | _ => 0))) (fun _ _ iv _ => 4 - (match iv with | .int _ n => n.toNat | _ => 0))
  case atStart => exact ⟨Lib.hid rfl, 0, rfl, by omega, Lib.hid rfl, Lib.hid rfl⟩
  case round =>
    obtain ⟨hs2, i, rfl, hi, hw, hE⟩ := hrel
    obtain rfl := hs2.out
    obtain rfl := hw.out
    clear hs2 hw
    match i, hi with
    | 0, _ =>
      by_cases ha : a = 0
      · subst ha
        go_wp2_with (fail)
        exact ⟨⟨Lib.hid rfl, 1, rfl, by omega, Lib.hid trivial, Lib.hid (by simp [lx])⟩, by simp⟩
      · go_wp2_with (fail)
        go_ret
        exact ⟨congrArg (fun z : Int => Ending.returned (.int .i64 z)) (by rw [← HV.out]; simp [lx, ha]), rfl⟩
    | 1, _ =>
      by_cases ha : b = 0
      · subst ha
        go_wp2_with (fail)
        exact ⟨⟨Lib.hid rfl, 2, rfl, by omega, Lib.hid trivial, Lib.hid (by rw [hE.out]; simp [lx])⟩, by simp⟩
      · go_wp2_with (fail)
        go_ret
        exact ⟨congrArg (fun z : Int => Ending.returned (.int .i64 z)) (by rw [← HV.out, hE.out]; simp [lx, ha]), rfl⟩
    | 2, _ =>
      by_cases ha : c = 0
      · subst ha
        go_wp2_with (fail)
        exact ⟨⟨Lib.hid rfl, 3, rfl, by omega, Lib.hid trivial, Lib.hid (by rw [hE.out]; simp [lx])⟩, by simp⟩
      · go_wp2_with (fail)
        go_ret
        exact ⟨congrArg (fun z : Int => Ending.returned (.int .i64 z)) (by rw [← HV.out, hE.out]; simp [lx, ha]), rfl⟩
    | 3, _ =>
      by_cases ha : d = 0
      · subst ha
        go_wp2_with (fail)
        exact ⟨⟨Lib.hid rfl, 4, rfl, by omega, Lib.hid trivial, Lib.hid (by exact hE.out)⟩, by simp⟩
      · go_wp2_with (fail)
        go_ret
        exact ⟨congrArg (fun z : Int => Ending.returned (.int .i64 z)) (by rw [← HV.out, hE.out]), rfl⟩
    | 4, _ =>
      go_wp2_with (fail)
      go_ret
      exact ⟨congrArg (fun z : Int => Ending.returned (.int .i64 z)) (by rw [← HV.out, hE.out]), rfl⟩

theorem or_new (a b c d : Int) (e : TypeId) (w : World) :
    Calls Try.prog 54 #[.slice (some ⟨w.heap.size, 0, none⟩) 4 4] (w.alloc (.cells #[.int .i64 a, .int .i64 b, .int .i64 c, .int .i64 d] e (0, 0))) fun e' w' => e' = .returned (.int .i64 (lx a (lx b (lx c d)))) ∧ w' = w.alloc (.cells #[.int .i64 a, .int .i64 b, .int .i64 c, .int .i64 d] e (0, 0)) := by
  obtain ⟨h0, h1, h2, h3⟩ := box4 w (.int .i64 a) (.int .i64 b) (.int .i64 c) (.int .i64 d) e
  exact or_any _ _ _ _ _ _ h0 h1 h2 h3
end Go.Proofs.Ytpdigaankmgagaa
