/- telref1.NodeDepth and telref1.NodeDepth: how many nodes a list holds. -/
import Derived.Test.YtljfondbldmfcaaDoorFs
set_option linter.unusedVariables false
set_option linter.unusedSimpArgs false
namespace Go.Proofs.YtljfondbldmfcaaDoor
open Go.RowKit Sx

theorem fsize_nil : fsize .nil = 0 := rfl

set_option maxHeartbeats 2000000 in
set_option maxRecDepth 100000 in
theorem nodeDepth_any (N : Nat) : ∀ (f : Fo), fsize f ≤ N → fsize f ≤ 140737488355328 → ∀ (w : World) (S : Nat → Prop) (va : Value), sliceOf w S f va →
    Calls Tryd.prog 27 #[va] w fun e w' => e = .returned (.int .i64 (dep f : Int)) ∧ ∃ n, w' = w.drewN n := by
  induction N with
  | zero =>
    intro f hN _ w S va ha
    cases f with
    | cons k t kids o r => simp [fsize] at hN
    | nil =>
      obtain ⟨A, c, xs, rfl, hc, hra, hxa⟩ := ha
      simp only [Fo.len] at *
      go_enter Tryd.func27, Tryd.ntmps27
      go_wp2_with (fail)
      go_loopw [3, 4] (fun nv iv wr => nv = .int .i64 0 ∧ iv = .int .i64 0 ∧ wr = w) (fun _ _ _ => 0)
      case atStart => exact ⟨rfl, rfl, rfl⟩
      case round =>
        obtain ⟨rfl, rfl, rfl⟩ := hrel
        go_wp2_with (fail)
        go_ret
        exact ⟨rfl, 0, rfl⟩
  | succ N ih =>
    intro f hN hF w S va ha
    have IH := Lib.hid ih
    clear ih
    obtain ⟨A, c, xs0, rfl, hc, hra, hxa⟩ := ha
    have hlen := len_le_fsize f
    have hrow := rowAt_start hra hxa
    obtain ⟨L, hL⟩ : ∃ L, f.len = L := ⟨_, rfl⟩
    have hA : 0 < L → ∃ g off : Nat, A = some ⟨g, off, none⟩ := fun h => by rw [← hL] at h; obtain ⟨g, off, h, _⟩ := hra h; exact ⟨g, off, h⟩
    clear hra
    rw [hL] at hc hlen ⊢
    have HL := Lib.hid hL
    clear hL
    obtain ⟨T, hT⟩ : ∃ T, fsize f = T := ⟨_, rfl⟩
    rw [hT] at hlen hN hF
    have HT := Lib.hid hT
    clear hT
    obtain ⟨D, hD⟩ : ∃ D, dep f = D := ⟨_, rfl⟩
    have hDT := dep_le f
    rw [hD, HT.out] at hDT
    rw [hD]
    have HD := Lib.hid hD
    clear hD
    go_enter Tryd.func27, Tryd.ntmps27
    go_wp2_with (fail)
    go_loopw [3, 4] (fun nv iv wr => ∃ (n i : Nat) (r : Fo) (xs : List Value) (m : Nat), nv = .int .i64 (n : Int) ∧ iv = .int .i64 (i : Int) ∧ i + r.len = L ∧ max n (dep r) = D ∧ fsize r ≤ T ∧ rowOf w S r xs ∧ rowAt w A i xs ∧ wr = w.drewN m) (fun _ iv _ => L - (match iv with | .int _ n => n.toNat | _ => 0))
    case atStart => exact ⟨0, 0, f, xs0, 0, rfl, rfl, by rw [Nat.zero_add]; exact HL.out, by rw [HD.out]; omega, by rw [HT.out]; exact Nat.le_refl _, hxa, hrow, rfl⟩
    case round =>
      obtain ⟨n, i, r, xs, m, rfl, rfl, hi, hn, hsz, hx, hcx, rfl⟩ := hrel
      cases r with
      | nil =>
        simp only [Fo.len, dep] at hi hn
        have hge : decide (i < L) = false := by simp; omega
        have hnT : n = D := by omega
        subst hnT
        have Hi := Lib.hid hi
        clear hi
        go_wp2_with (fail)
        go_ret
        exact ⟨rfl, m, rfl⟩
      | cons k t kids o r =>
        obtain ⟨A1, c1, ys1, zs, rfl, hc1, hr1, hk1, hrest1⟩ := hx
        simp only [Fo.len, fsize, dep] at hi hn hsz
        obtain ⟨g, off, rfl⟩ := hA (by omega)
        have hge : decide ((i : Int) < (L : Int)) = true := by simp; omega
        have a0 := hcx g off rfl 0 _ rfl
        have a1 := hcx g off rfl 1 _ rfl
        have a2 := hcx g off rfl 2 _ rfl
        have a3 := hcx g off rfl 3 _ rfl
        simp only [Nat.add_zero] at a0
        have hiL : (i : Int) < (L : Int) := by omega
        have hi0 : (0 : Int) ≤ (i : Int) := by omega
        have Hi := Lib.hid hi
        clear hi
        have hkd := dep_le kids
        by_cases hk' : k = 3
        · have hkb : (k == 3) = true := by simp [hk']
          rw [if_pos hk'] at hn
          go_wp2_with (fail)
          refine (IH.out kids (by omega) (by omega) _ S _ (by exact sliceOf.drewN (f := kids) ⟨A1, c1, ys1, rfl, hc1, hr1, hk1⟩ _)).mono ?_
          rintro e1 w1 ⟨rfl, n1, rfl⟩
          go_wp2_with (fail)
          have hi := Hi.out
          refine ⟨⟨max n (dep kids + 1), i + 1, r, zs, _, ?_, rfl, by omega, by omega, by omega, hrest1, rowAt_next hcx, rfl⟩, by simp; omega⟩
          congr 1
          omega
        · have hkb : (k == 3) = false := by simp [hk']
          rw [if_neg hk'] at hn
          go_wp2_with (fail)
          refine (IH.out kids (by omega) (by omega) _ S _ (by exact sliceOf.drewN (f := kids) ⟨A1, c1, ys1, rfl, hc1, hr1, hk1⟩ _)).mono ?_
          rintro e1 w1 ⟨rfl, n1, rfl⟩
          go_wp2_with (fail)
          have hi := Hi.out
          refine ⟨⟨max n (dep kids), i + 1, r, zs, _, ?_, rfl, by omega, by omega, by omega, hrest1, rowAt_next hcx, rfl⟩, by simp; omega⟩
          congr 1
          omega
end Go.Proofs.YtljfondbldmfcaaDoor
