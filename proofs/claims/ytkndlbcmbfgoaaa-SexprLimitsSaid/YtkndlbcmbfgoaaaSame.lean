/- telmake.Fault and telmake.SameNodes: equal faults, equal lists of nodes are found equal. -/
import Derived.Test.YtkndlbcmbfgoaaaMem
import Derived.Test.YtkndlbcmbfgoaaaUtil2
set_option linter.unusedVariables false
set_option linter.unusedSimpArgs false
namespace Go.Proofs.Ytkndlbcmbfgoaaa
open Go.RowKit Sx

def faultB (a b c d : Int) : Bool := a == c && b == d
set_option maxHeartbeats 400000 in
theorem fault_any (a b c d : Int) (w : World) :
    Calls Try.prog 9 #[.agg #[.int .i64 a, .int .i64 b], .agg #[.int .i64 c, .int .i64 d]] w fun e w' => e = .returned (.bool (faultB a b c d)) ∧ Below w.heap.size w w' := by
  go_enter Try.func9, Try.ntmps9
  go_wp2
  all_goals go_ret
  all_goals exact ⟨ret_bool (by rw [Bool.eq_iff_iff]; simp_all [faultB]), ((Below.refl _ _).alloc (Nat.le_refl _) _).alloc (by simp) _⟩

def fsize : Fo → Nat
  | .nil => 0
  | .cons _ _ kids _ rest => fsize kids + fsize rest + 1
theorem len_le_fsize (f : Fo) : f.len ≤ fsize f := by
  induction f with
  | nil => simp [Fo.len]
  | cons k t kids o r _ ih => simp only [Fo.len, fsize]; omega

def cellsAt (w : World) (g off : Nat) (xs : List Value) : Prop := ∀ j u, xs[j]? = some u → w.cell? ⟨g, off + j, none⟩ = some u

set_option maxHeartbeats 2000000 in
set_option maxRecDepth 100000 in
theorem same_any (N : Nat) : ∀ (f : Fo), fsize f ≤ N → fsize f ≤ 140737488355328 → ∀ (w : World) (S S' : Nat → Prop) (va vb : Value), sliceOf w S f va → sliceOf w S' f vb →
    Calls Try.prog 10 #[va, vb] w fun e w' => e = .returned (.bool true) ∧ ∃ n, w' = w.drewN n := by
  induction N with
  | zero =>
    intro f hN _ w S S' va vb ha hb
    cases f with
    | cons k t kids o r => simp [fsize] at hN
    | nil =>
      obtain ⟨A, c, xs, rfl, hc, hra, hxa⟩ := ha
      obtain ⟨A', c', ys, rfl, hc', hrb, hxb⟩ := hb
      simp only [Fo.len] at *
      go_enter Try.func10, Try.ntmps10
      go_wp2_with (fail)
      go_loopw [5] (fun iv wr => iv = .int .i64 0 ∧ wr = w) (fun _ _ => 0)
      case atStart => exact ⟨rfl, rfl⟩
      case round =>
        obtain ⟨rfl, rfl⟩ := hrel
        go_wp2_with (fail)
        go_ret
        exact ⟨rfl, 0, rfl⟩
  | succ N ih =>
    intro f hN hF w S S' va vb ha hb
    have IH := Lib.hid ih
    clear ih
    cases f with
    | nil => exact IH.out .nil (Nat.zero_le _) (by simp [fsize]) w S S' va vb ha hb
    | cons k0 t0 kids0 o0 r0 =>
      obtain ⟨A, c, xs0, rfl, hc, hra, hxa⟩ := ha
      obtain ⟨A', c', ys0, rfl, hc', hrb, hxb⟩ := hb
      obtain ⟨g, off, rfl, _, hlt, hca⟩ := hra (by simp [Fo.len])
      obtain ⟨g', off', rfl, _, hlt', hcb⟩ := hrb (by simp [Fo.len])
      have hlen := len_le_fsize (.cons k0 t0 kids0 o0 r0)
      obtain ⟨L, hL⟩ : ∃ L, (Fo.cons k0 t0 kids0 o0 r0).len = L := ⟨_, rfl⟩
      rw [hL] at hc hc' hlen ⊢
      have HL := Lib.hid hL
      clear hL
      have hL1 : (L : Int) ≤ 140737488355328 := by omega
      go_enter Try.func10, Try.ntmps10
      go_wp2_with (fail)
      go_loopw [5] (fun iv wr => ∃ (i : Nat) (r : Fo) (xs ys : List Value) (m : Nat), iv = .int .i64 (i : Int) ∧ i + r.len = L ∧ fsize r ≤ fsize (.cons k0 t0 kids0 o0 r0) ∧ rowOf w S r xs ∧ rowOf w S' r ys ∧ cellsAt w g (off + i * 4) xs ∧ cellsAt w g' (off' + i * 4) ys ∧ wr = w.drewN m) (fun iv _ => L - (intOf iv).toNat)
      case atStart =>
        exact ⟨0, _, xs0, ys0, 0, rfl, by rw [Nat.zero_add]; exact HL.out, Nat.le_refl _, hxa, hxb, by simpa [cellsAt] using hca, by simpa [cellsAt] using hcb, rfl⟩
      case round =>
        obtain ⟨i, r, xs, ys, m, rfl, hi, hsz, hx, hy, hcx, hcy, rfl⟩ := hrel
        cases r with
        | nil =>
          simp only [Fo.len] at hi
          have hge : decide (i < L) = false := by simp; omega
          have Hi := Lib.hid hi
          clear hi
          go_wp2_with (fail)
          go_ret
          exact ⟨rfl, m, rfl⟩
        | cons k t kids o r =>
          obtain ⟨A1, c1, ys1, zs, rfl, hc1, hr1, hk1, hrest1⟩ := hx
          obtain ⟨A2, c2, ys2, zs2, rfl, hc2, hr2, hk2, hrest2⟩ := hy
          simp only [Fo.len, fsize] at hi hsz hN hF
          have hge : decide ((i : Int) < (L : Int)) = true := by simp; omega
          have a0 := hcx 0 _ rfl
          have a1 := hcx 1 _ rfl
          have a2 := hcx 2 _ rfl
          have a3 := hcx 3 _ rfl
          have b0 := hcy 0 _ rfl
          have b1 := hcy 1 _ rfl
          have b2 := hcy 2 _ rfl
          have b3 := hcy 3 _ rfl
          simp only [Nat.add_zero] at a0 b0
          have hiL : (i : Int) < (L : Int) := by omega
          have hi0 : (0 : Int) ≤ (i : Int) := by omega
          have Hi := Lib.hid hi
          clear hi
          go_wp2_with (fail)
          go_quiet ((go_at_call 10; first | exact Calls.quiet_of (IH.out kids (by omega) (by omega) _ S S' _ _ (by exact sliceOf.drewN (f := kids) ⟨A1, c1, ys1, rfl, hc1, hr1, hk1⟩ _) (by exact sliceOf.drewN (f := kids) ⟨A2, c2, ys2, rfl, hc2, hr2, hk2⟩ _)) | exact quiet_add (IH.out kids (by omega) (by omega) _ S S' _ _ (by exact sliceOf.drewN (f := kids) ⟨A1, c1, ys1, rfl, hc1, hr1, hk1⟩ _) (by exact sliceOf.drewN (f := kids) ⟨A2, c2, ys2, rfl, hc2, hr2, hk2⟩ _))))
          go_wp2_with (fail)
          have hi := Hi.out
          refine ⟨⟨i + 1, r, zs, zs2, _, rfl, by omega, by simp only [fsize]; omega, hrest1, hrest2, ?_, ?_, rfl⟩, by simp [intOf]; omega⟩
          · intro j u hu
            have := hcx (4 + j) u (by rw [show 4 + j = j + 4 from by omega]; exact hu)
            rw [show off + (i + 1) * 4 + j = off + i * 4 + (4 + j) from by omega]
            exact this
          · intro j u hu
            have := hcy (4 + j) u (by rw [show 4 + j = j + 4 from by omega]; exact hu)
            rw [show off' + (i + 1) * 4 + j = off' + i * 4 + (4 + j) from by omega]
            exact this
end Go.Proofs.Ytkndlbcmbfgoaaa
