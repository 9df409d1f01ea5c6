/- sexpr.Count and telref1.NodeCount: how many nodes a list holds. -/
import Derived.Test.YtljfondbldmfcaaDoorFs
set_option linter.unusedVariables false
set_option linter.unusedSimpArgs false
namespace Go.Proofs.YtljfondbldmfcaaDoor
open Go.RowKit Sx

theorem fsize_nil : fsize .nil = 0 := rfl

set_option maxHeartbeats 2000000 in
set_option maxRecDepth 100000 in
theorem nodeCount_any (N : Nat) : ∀ (f : Fo), fsize f ≤ N → fsize f ≤ 140737488355328 → ∀ (w : World) (S : Nat → Prop) (va : Value), sliceOf w S f va →
    Calls Tryd.prog 25 #[va] w fun e w' => e = .returned (.int .i64 (fsize f : Int)) ∧ ∃ n, w' = w.drewN n := by
  induction N with
  | zero =>
    intro f hN _ w S va ha
    cases f with
    | cons k t kids o r => simp [fsize] at hN
    | nil =>
      obtain ⟨A, c, xs, rfl, hc, hra, hxa⟩ := ha
      simp only [Fo.len] at *
      go_enter Tryd.func25, Tryd.ntmps25
      go_wp2_with (fail)
      go_loopw [3, 4] (fun nv iv wr => nv = .int .i64 0 ∧ iv = .int .i64 0 ∧ wr = w) (fun _ _ _ => 0)
      case atStart => exact ⟨rfl, rfl, rfl⟩
      case round =>
        obtain ⟨rfl, rfl, rfl⟩ := hrel
        go_wp2_with (fail)
        go_ret
        exact ⟨rfl, 0, rfl⟩
  | succ N ih =>
    intro f hN hF w S va ha
    have IH := Lib.hid ih
    clear ih
    obtain ⟨A, c, xs0, rfl, hc, hra, hxa⟩ := ha
    have hlen := len_le_fsize f
    have hrow := rowAt_start hra hxa
    obtain ⟨L, hL⟩ : ∃ L, f.len = L := ⟨_, rfl⟩
    have hA : 0 < L → ∃ g off : Nat, A = some ⟨g, off, none⟩ := fun h => by rw [← hL] at h; obtain ⟨g, off, h, _⟩ := hra h; exact ⟨g, off, h⟩
    clear hra
    rw [hL] at hc hlen ⊢
    have HL := Lib.hid hL
    clear hL
    obtain ⟨T, hT⟩ : ∃ T, fsize f = T := ⟨_, rfl⟩
    rw [hT] at hlen hN hF ⊢
    have HT := Lib.hid hT
    clear hT
    go_enter Tryd.func25, Tryd.ntmps25
    go_wp2_with (fail)
    go_loopw [3, 4] (fun nv iv wr => ∃ (n i : Nat) (r : Fo) (xs : List Value) (m : Nat), nv = .int .i64 (n : Int) ∧ iv = .int .i64 (i : Int) ∧ i + r.len = L ∧ n + fsize r = T + r.len ∧ fsize r ≤ T ∧ rowOf w S r xs ∧ rowAt w A i xs ∧ wr = w.drewN m) (fun _ iv _ => L - (match iv with | .int _ n => n.toNat | _ => 0))
    case atStart => exact ⟨L, 0, f, xs0, 0, rfl, rfl, by rw [Nat.zero_add]; exact HL.out, by rw [HT.out, HL.out]; omega, by rw [HT.out]; exact Nat.le_refl _, hxa, hrow, rfl⟩
    case round =>
      obtain ⟨n, i, r, xs, m, rfl, rfl, hi, hn, hsz, hx, hcx, rfl⟩ := hrel
      cases r with
      | nil =>
        simp only [Fo.len, fsize] at hi hn
        have hge : decide (i < L) = false := by simp; omega
        have hnT : n = T := by omega
        subst hnT
        have Hi := Lib.hid hi
        clear hi
        go_wp2_with (fail)
        go_ret
        exact ⟨rfl, m, rfl⟩
      | cons k t kids o r =>
        obtain ⟨A1, c1, ys1, zs, rfl, hc1, hr1, hk1, hrest1⟩ := hx
        simp only [Fo.len, fsize] at hi hn hsz
        obtain ⟨g, off, rfl⟩ := hA (by omega)
        have hge : decide ((i : Int) < (L : Int)) = true := by simp; omega
        have a0 := hcx g off rfl 0 _ rfl
        have a1 := hcx g off rfl 1 _ rfl
        have a2 := hcx g off rfl 2 _ rfl
        have a3 := hcx g off rfl 3 _ rfl
        simp only [Nat.add_zero] at a0
        have hiL : (i : Int) < (L : Int) := by omega
        have hi0 : (0 : Int) ≤ (i : Int) := by omega
        have Hi := Lib.hid hi
        clear hi
        go_wp2_with (fail)
        refine (IH.out kids (by omega) (by omega) _ S _ (by exact sliceOf.drewN (f := kids) ⟨A1, c1, ys1, rfl, hc1, hr1, hk1⟩ _)).mono ?_
        rintro e1 w1 ⟨rfl, n1, rfl⟩
        go_wp2_with (fail)
        have hi := Hi.out
        refine ⟨⟨n + fsize kids, i + 1, r, zs, _, by rw [wrap64_in (by omega) (by omega)]; rfl, rfl, by omega, by omega, by omega, hrest1, rowAt_next hcx, rfl⟩, by simp; omega⟩
end Go.Proofs.YtljfondbldmfcaaDoor
