/- typeterm.Depth. No condition but a bounded size. -/
import Derived.Test.YtddfpbcdopcdhaaTb
set_option linter.unusedVariables false
set_option linter.unusedSimpArgs false
namespace Go.Proofs.Ytddfpbcdopcdhaa
open Go.RowKit Sx

set_option maxHeartbeats 1000000 in
theorem depth_anyT (N : Nat) : ∀ (k o : Int) (t : List UInt8) (kids : Fo) (A : Option Addr) (c : Nat) (w : World), fsize kids ≤ N → fsize kids ≤ 1073741824 → KT w kids A c →
    Calls Try.prog 21 #[.agg #[.int .i64 k, .string ⟨t.toArray⟩, .int .i64 o, .slice A kids.len c]] w fun e w' => e = .returned (.int .i64 ((depT kids : Int) + 1)) ∧ Below w.heap.size w w' := by
  induction N using Nat.strongRecOn with
  | ind N ih =>
  intro k o t kids A c w hN hN2 hK
  have IH := Lib.hid ih
  have HK := Lib.hid hK
  clear ih hK
  have hlen := len_le_fsize kids
  obtain ⟨L, hL⟩ : ∃ L, kids.len = L := ⟨_, rfl⟩
  rw [hL] at hlen ⊢
  have HL := Lib.hid hL
  clear hL
  obtain ⟨b0, b1, b2, b3⟩ := box4 w (.int .i64 k) (.string ⟨t.toArray⟩) (.int .i64 o) (.slice A L c) 24
  go_enter Try.func21, Try.ntmps21
  go_wp2_with (fail)
  go_loopw [3, 5, 9] (fun nv _ iv wr => ∃ (n i : Nat) (r : Fo), nv = .int .i64 (n : Int) ∧ iv = .int .i64 (i : Int) ∧ Suf i r kids ∧ max n (depT r) = depT kids ∧ Below w.heap.size w wr) (fun _ _ iv _ => L - (match iv with | .int _ n => n.toNat | _ => 0))
  case atStart => exact ⟨0, 0, kids, rfl, rfl, Suf.zero _, by omega, (Below.refl _ _).alloc (Nat.le_refl _) _⟩
  case round =>
    obtain ⟨n, i, r, rfl, rfl, hsuf, hn, hbel⟩ := hrel
    have hlen' := hsuf.len
    rw [HL.out] at hlen'
    have hbs := hbel.size
    cases r with
    | nil =>
      simp only [Fo.len, depT] at hlen' hn
      have hge : decide (i < L) = false := by rw [decide_eq_false_iff_not]; omega
      have hn2 : (n : Int) + 1 = (depT kids : Int) + 1 := by omega
      have hnd := depT_le kids
      have hn3 : n ≤ 1073741824 := by omega
      have HN := Lib.hid hn2
      have HB := Lib.hid hbel
      clear hn hn2 hnd hlen' hbel hsuf b0 b1 b2 b3
      go_wp2_with (fail)
      go_ret
      exact ⟨congrArg (fun z : Int => Ending.returned (.int .i64 z)) HN.out, HB.out⟩
    | cons k1 t1 kids1 o1 r1 =>
      obtain ⟨g, off, A1, c1, rfl, hgl, q0, q1, q2, q3, hk1⟩ := HK.out.get hsuf hbel
      obtain ⟨hkid, hil⟩ := hsuf.kid
      rw [HL.out] at hil
      simp only [depT] at hn
      have hkd := depT_le kids1
      have hge : decide ((i : Int) < (L : Int)) = true := by rw [decide_eq_true_eq]; omega
      have hiL : (i : Int) < (L : Int) := by omega
      have hi0 : (0 : Int) ≤ (i : Int) := by omega
      have hne : ¬ g = wr.heap.size := by omega
      have B1 : Below w.heap.size w (wr.alloc (.cells #[.int .i64 k1, .string ⟨t1.toArray⟩, .int .i64 o1, .slice A1 kids1.len c1] 24 (0, 0))) := hbel.alloc hbs _
      have HB1 := Lib.hid B1
      have HK1 := Lib.hid (hk1.below B1)
      have HS := Lib.hid hsuf
      obtain ⟨p0, p1, p2, p3⟩ := box4 wr (.int .i64 k1) (.string ⟨t1.toArray⟩) (.int .i64 o1) (.slice A1 kids1.len c1) 24
      have hkd3 : (depT kids1 : Int) ≤ 1073741824 := by omega
      have Hn := Lib.hid hn
      clear hk1 B1 hsuf hbel b0 b1 b2 b3 hn hlen' hkd
      go_wp2_with (fail)
      refine (IH.out (fsize kids1) (by omega) k1 o1 t1 kids1 A1 c1 _ (Nat.le_refl _) (by omega) HK1.out).mono ?_
      rintro e1 w1 ⟨rfl, hb1⟩
      have HB2 := Lib.hid hb1
      clear hb1
      go_wp2_with (fail)
      have hn := Hn.out
      exact ⟨⟨max n (depT kids1 + 1), i + 1, r1, by congr 1; omega, rfl, HS.out.next, by rw [Nat.max_assoc]; exact hn, HB1.out.trans (HB2.out.mono HB1.out.size)⟩, by simp; omega⟩

end Go.Proofs.Ytddfpbcdopcdhaa
