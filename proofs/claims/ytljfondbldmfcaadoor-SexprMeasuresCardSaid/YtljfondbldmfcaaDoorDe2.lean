/- sexpr.Depth: how many nodes a list holds. -/
import Derived.Test.YtljfondbldmfcaaDoorFs
set_option linter.unusedVariables false
set_option linter.unusedSimpArgs false
namespace Go.Proofs.YtljfondbldmfcaaDoor
open Go.RowKit Sx

set_option maxHeartbeats 2000000 in
set_option maxRecDepth 100000 in
theorem depth_any (N : Nat) : ∀ (f : Fo), fsize f ≤ N → fsize f ≤ 140737488355328 → ∀ (w : World) (S : Nat → Prop) (va : Value), sliceOf w S f va →
    Calls Tryd.prog 26 #[va] w fun e w' => e = .returned (.int .i64 (dep f : Int)) ∧ Below w.heap.size w w' := by
  induction N with
  | zero =>
    intro f hN _ w S va ha
    cases f with
    | cons k t kids o r => simp [fsize] at hN
    | nil =>
      obtain ⟨A, c, xs, rfl, hc, hra, hxa⟩ := ha
      simp only [Fo.len] at *
      go_enter Tryd.func26, Tryd.ntmps26
      go_wp2_with (fail)
      go_loopw [3, 9] (fun nv iv wr => nv = .int .i64 0 ∧ iv = .int .i64 0 ∧ wr = w) (fun _ _ _ => 0)
      case atStart => exact ⟨rfl, rfl, rfl⟩
      case round =>
        obtain ⟨rfl, rfl, rfl⟩ := hrel
        go_wp2_with (fail)
        go_ret
        exact ⟨rfl, Below.refl _ _⟩
  | succ N ih =>
    intro f hN hF w S va ha
    have IH := Lib.hid ih
    clear ih
    obtain ⟨A, c, xs0, rfl, hc, hra, hxa⟩ := ha
    have hlen := len_le_fsize f
    have hrow := rowAt_start hra hxa
    obtain ⟨L, hL⟩ : ∃ L, f.len = L := ⟨_, rfl⟩
    have hA : 0 < L → ∃ g off : Nat, A = some ⟨g, off, none⟩ ∧ g < w.heap.size := fun h => by rw [← hL] at h; obtain ⟨g, off, h, _, hl, _⟩ := hra h; exact ⟨g, off, h, hl⟩
    clear hra
    rw [hL] at hc hlen ⊢
    have HL := Lib.hid hL
    clear hL
    obtain ⟨T, hT⟩ : ∃ T, fsize f = T := ⟨_, rfl⟩
    rw [hT] at hlen hN hF
    have HT := Lib.hid hT
    clear hT
    obtain ⟨D, hD⟩ : ∃ D, dep f = D := ⟨_, rfl⟩
    have hDT := dep_le f
    rw [hD, HT.out] at hDT
    rw [hD]
    have HD := Lib.hid hD
    clear hD
    go_enter Tryd.func26, Tryd.ntmps26
    go_wp2_with (fail)
    go_loopw [3, 9] (fun nv iv wr => ∃ (n i : Nat) (r : Fo) (xs : List Value), nv = .int .i64 (n : Int) ∧ iv = .int .i64 (i : Int) ∧ i + r.len = L ∧ max n (dep r) = D ∧ fsize r ≤ T ∧ rowOf w S r xs ∧ rowAt w A i xs ∧ Below w.heap.size w wr) (fun _ iv _ => L - (match iv with | .int _ n => n.toNat | _ => 0))
    case atStart => exact ⟨0, 0, f, xs0, rfl, rfl, by rw [Nat.zero_add]; exact HL.out, by rw [HD.out]; omega, by rw [HT.out]; exact Nat.le_refl _, hxa, hrow, Below.refl _ _⟩
    case round =>
      obtain ⟨n, i, r, xs, rfl, rfl, hi, hn, hsz, hx, hcx, hbel⟩ := hrel
      cases r with
      | nil =>
        simp only [Fo.len, dep] at hi hn
        have hge : decide (i < L) = false := by simp; omega
        have hnT : n = D := by omega
        subst hnT
        have Hi := Lib.hid hi
        clear hi
        go_wp2_with (fail)
        go_ret
        exact ⟨rfl, hbel⟩
      | cons k t kids o r =>
        obtain ⟨A1, c1, ys1, zs, rfl, hc1, hr1, hk1, hrest1⟩ := hx
        simp only [Fo.len, fsize, dep] at hi hn hsz
        obtain ⟨g, off, rfl, hgl⟩ := hA (by omega)
        have hge : decide ((i : Int) < (L : Int)) = true := by simp; omega
        have a0 := (hbel.cell (by exact hgl)).trans (hcx g off rfl 0 _ rfl)
        have a1 := (hbel.cell (by exact hgl)).trans (hcx g off rfl 1 _ rfl)
        have a2 := (hbel.cell (by exact hgl)).trans (hcx g off rfl 2 _ rfl)
        have a3 := (hbel.cell (by exact hgl)).trans (hcx g off rfl 3 _ rfl)
        simp only [Nat.add_zero] at a0
        have hiL : (i : Int) < (L : Int) := by omega
        have hi0 : (0 : Int) ≤ (i : Int) := by omega
        have hbs := hbel.size
        have hne : ¬ g = wr.heap.size := by omega
        have Hi := Lib.hid hi
        clear hi
        have hkd := dep_le kids
        by_cases hk' : k = 3
        · subst hk'
          rw [if_pos rfl] at hn
          go_wp2_with (fail)
          have hB1 : Below w.heap.size w (wr.alloc (.cells #[.int .i64 3, .string ⟨t.toArray⟩, .slice A1 kids.len c1, .int .i64 o] 31)) := hbel.alloc hbs _
          refine (IH.out kids (by omega) (by omega) _ S _ (sliceOf.below (f := kids) ⟨A1, c1, ys1, rfl, hc1, hr1, hk1⟩ (by exact hB1))).mono ?_
          rintro e1 w1 ⟨rfl, hb1⟩
          obtain ⟨n0, n1, n2, n3, _⟩ := row4 ((hb1.block wr.heap.size (by simp)).trans (heap_alloc_new _ _))
          go_wp2_with (fail)
          have hi := Hi.out
          refine ⟨⟨max n (dep kids + 1), i + 1, r, zs, ?_, rfl, by omega, by omega, by omega, hrest1, rowAt_next hcx, hB1.trans (hb1.mono hB1.size)⟩, by simp; omega⟩
          congr 1
          omega
        · have hkb : (k == 3) = false := by simp [hk']
          rw [if_neg hk', Nat.add_zero] at hn
          go_wp2_with (fail)
          have hB1 : Below w.heap.size w (wr.alloc (.cells #[.int .i64 k, .string ⟨t.toArray⟩, .slice A1 kids.len c1, .int .i64 o] 31)) := hbel.alloc hbs _
          refine (IH.out kids (by omega) (by omega) _ S _ (sliceOf.below (f := kids) ⟨A1, c1, ys1, rfl, hc1, hr1, hk1⟩ (by exact hB1))).mono ?_
          rintro e1 w1 ⟨rfl, hb1⟩
          obtain ⟨n0, n1, n2, n3, _⟩ := row4 ((hb1.block wr.heap.size (by simp)).trans (heap_alloc_new _ _))
          go_wp2_with (fail)
          have hi := Hi.out
          refine ⟨⟨max n (dep kids), i + 1, r, zs, ?_, rfl, by omega, (Nat.max_assoc _ _ _).trans hn, by omega, hrest1, rowAt_next hcx, hB1.trans (hb1.mono hB1.size)⟩, by simp; omega⟩
          congr 1
          omega
end Go.Proofs.YtljfondbldmfcaaDoor
