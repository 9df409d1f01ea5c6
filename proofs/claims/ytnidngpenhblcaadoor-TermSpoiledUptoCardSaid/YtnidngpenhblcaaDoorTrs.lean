/- telref1.TermSize, telref1.TermDepth. No condition but a bounded size. -/
import Derived.Test.YtnidngpenhblcaaDoorTd
set_option linter.unusedVariables false
set_option linter.unusedSimpArgs false
namespace Go.Proofs.YtnidngpenhblcaaDoor
open Go.RowKit Sx

set_option maxHeartbeats 1000000 in
theorem rsize_any (N : Nat) : ∀ (k o : Int) (t : List UInt8) (kids : Fo) (A : Option Addr) (c : Nat) (w : World), fsize kids ≤ N → fsize kids ≤ 1073741824 → KT w kids A c →
    Calls Tryd.prog 17 #[.agg #[.int .i64 k, .string ⟨t.toArray⟩, .int .i64 o, .slice A kids.len c]] w fun e w' => e = .returned (.int .i64 ((fsize kids : Int) + 1)) ∧ Below w.heap.size w w' := by
  induction N using Nat.strongRecOn with
  | ind N ih =>
  intro k o t kids A c w hN hN2 hK
  have IH := Lib.hid ih
  have HK := Lib.hid hK
  clear ih hK
  have hlen := len_le_fsize kids
  obtain ⟨L, hL⟩ : ∃ L, kids.len = L := ⟨_, rfl⟩
  rw [hL] at hlen ⊢
  have HL := Lib.hid hL
  clear hL
  have hbB := heap_alloc_new w (.cells #[.int .i64 k, .string ⟨t.toArray⟩, .int .i64 o, .slice A L c] 25 (0, 0))
  have hB1 : Below w.heap.size w (w.alloc (.cells #[.int .i64 k, .string ⟨t.toArray⟩, .int .i64 o, .slice A L c] 25 (0, 0))) := (Below.refl _ _).alloc (Nat.le_refl _) _
  have hz1 : (w.alloc (.cells #[.int .i64 k, .string ⟨t.toArray⟩, .int .i64 o, .slice A L c] 25 (0, 0))).heap.size = w.heap.size + 1 := by simp
  obtain ⟨w2, hw2⟩ : ∃ w2, w.alloc (.cells #[.int .i64 k, .string ⟨t.toArray⟩, .int .i64 o, .slice A L c] 25 (0, 0)) = w2 := ⟨_, rfl⟩
  rw [hw2] at hbB hB1 hz1
  have HW := Lib.hid hw2
  have HBB := Lib.hid hbB
  have HB1 := Lib.hid hB1
  clear hw2 hbB hB1
  go_enter Tryd.func17, Tryd.ntmps17
  go_wp2_with (fail)
  go_loopw [3, 4] (fun nv iv wr => ∃ (n i : Nat) (r : Fo), nv = .int .i64 (n : Int) ∧ iv = .int .i64 (i : Int) ∧ Suf i r kids ∧ n + fsize r = fsize kids + 1 ∧ Below (w.heap.size + 1) w2 wr) (fun _ iv _ => L - (match iv with | .int _ n => n.toNat | _ => 0))
  case atStart => exact ⟨1, 0, kids, rfl, rfl, Suf.zero _, by omega, by rw [HW.out]; exact Below.refl _ _⟩
  case round =>
    obtain ⟨n, i, r, rfl, rfl, hsuf, hn, hbel⟩ := hrel
    have hlen' := hsuf.len
    rw [HL.out] at hlen'
    have hbs := hbel.size
    obtain ⟨b0, b1, b2, b3, y0, y1, y2, y3⟩ := row4 ((hbel.block _ (by omega)).trans HBB.out)
    have hB : Below w.heap.size w wr := HB1.out.trans (hbel.mono (by omega))
    cases r with
    | nil =>
      simp only [Fo.len, fsize] at hlen' hn
      have hge : decide (i < L) = false := by rw [decide_eq_false_iff_not]; omega
      have hn2 : (n : Int) = (fsize kids : Int) + 1 := by omega
      have HN := Lib.hid hn2
      have HB := Lib.hid hB
      clear hn hn2 hlen' hbel hsuf hB
      go_wp2_with (fail)
      go_ret
      exact ⟨congrArg (fun z : Int => Ending.returned (.int .i64 z)) HN.out, HB.out⟩
    | cons k1 t1 kids1 o1 r1 =>
      obtain ⟨g, off, A1, c1, rfl, hgl, q0, q1, q2, q3, hk1⟩ := HK.out.get hsuf hB
      obtain ⟨hkid, hil⟩ := hsuf.kid
      rw [HL.out] at hil
      simp only [fsize] at hn
      have hge : decide ((i : Int) < (L : Int)) = true := by rw [decide_eq_true_eq]; omega
      have hiL : (i : Int) < (L : Int) := by omega
      have hi0 : (0 : Int) ≤ (i : Int) := by omega
      have HBw := Lib.hid hB
      have HK1 := Lib.hid (hk1.below hB)
      have HS := Lib.hid hsuf
      have Hbel := Lib.hid hbel
      obtain ⟨hw, hw2⟩ := sum_in n (fsize kids1) (by omega)
      have Hn := Lib.hid hn
      clear hk1 hsuf hbel hn hlen' hB
      go_wp2_with (fail)
      refine (IH.out (fsize kids1) (by omega) k1 o1 t1 kids1 A1 c1 _ (Nat.le_refl _) (by omega) HK1.out).mono ?_
      rintro e1 w1 ⟨rfl, hb1⟩
      have HB2 := Lib.hid hb1
      clear hb1
      go_wp2_with (fail)
      have hn := Hn.out
      exact ⟨⟨n + (fsize kids1 + 1), i + 1, r1, rfl, rfl, HS.out.next, by omega, Hbel.out.trans (HB2.out.mono (by omega))⟩, by simp; omega⟩

set_option maxHeartbeats 1000000 in
theorem rdepth_any (N : Nat) : ∀ (k o : Int) (t : List UInt8) (kids : Fo) (A : Option Addr) (c : Nat) (w : World), fsize kids ≤ N → fsize kids ≤ 1073741824 → KT w kids A c →
    Calls Tryd.prog 19 #[.agg #[.int .i64 k, .string ⟨t.toArray⟩, .int .i64 o, .slice A kids.len c]] w fun e w' => e = .returned (.int .i64 ((depT kids : Int) + 1)) ∧ Below w.heap.size w w' := by
  induction N using Nat.strongRecOn with
  | ind N ih =>
  intro k o t kids A c w hN hN2 hK
  have IH := Lib.hid ih
  have HK := Lib.hid hK
  clear ih hK
  have hlen := len_le_fsize kids
  obtain ⟨L, hL⟩ : ∃ L, kids.len = L := ⟨_, rfl⟩
  rw [hL] at hlen ⊢
  have HL := Lib.hid hL
  clear hL
  have hbB := heap_alloc_new w (.cells #[.int .i64 k, .string ⟨t.toArray⟩, .int .i64 o, .slice A L c] 25 (0, 0))
  have hB1 : Below w.heap.size w (w.alloc (.cells #[.int .i64 k, .string ⟨t.toArray⟩, .int .i64 o, .slice A L c] 25 (0, 0))) := (Below.refl _ _).alloc (Nat.le_refl _) _
  have hz1 : (w.alloc (.cells #[.int .i64 k, .string ⟨t.toArray⟩, .int .i64 o, .slice A L c] 25 (0, 0))).heap.size = w.heap.size + 1 := by simp
  obtain ⟨w2, hw2⟩ : ∃ w2, w.alloc (.cells #[.int .i64 k, .string ⟨t.toArray⟩, .int .i64 o, .slice A L c] 25 (0, 0)) = w2 := ⟨_, rfl⟩
  rw [hw2] at hbB hB1 hz1
  have HW := Lib.hid hw2
  have HBB := Lib.hid hbB
  have HB1 := Lib.hid hB1
  clear hw2 hbB hB1
  go_enter Tryd.func19, Tryd.ntmps19
  go_wp2_with (fail)
  go_loopw [3, 4] (fun nv iv wr => ∃ (n i : Nat) (r : Fo), nv = .int .i64 (n : Int) ∧ iv = .int .i64 (i : Int) ∧ Suf i r kids ∧ max n (depT r) = depT kids ∧ Below (w.heap.size + 1) w2 wr) (fun _ iv _ => L - (match iv with | .int _ n => n.toNat | _ => 0))
  case atStart => exact ⟨0, 0, kids, rfl, rfl, Suf.zero _, by omega, by rw [HW.out]; exact Below.refl _ _⟩
  case round =>
    obtain ⟨n, i, r, rfl, rfl, hsuf, hn, hbel⟩ := hrel
    have hlen' := hsuf.len
    rw [HL.out] at hlen'
    have hbs := hbel.size
    obtain ⟨b0, b1, b2, b3, y0, y1, y2, y3⟩ := row4 ((hbel.block _ (by omega)).trans HBB.out)
    have hB : Below w.heap.size w wr := HB1.out.trans (hbel.mono (by omega))
    cases r with
    | nil =>
      simp only [Fo.len, depT] at hlen' hn
      have hge : decide (i < L) = false := by rw [decide_eq_false_iff_not]; omega
      have hn2 : (n : Int) + 1 = (depT kids : Int) + 1 := by omega
      have hnd := depT_le kids
      have hn3 : n ≤ 1073741824 := by omega
      clear hnd
      have HN := Lib.hid hn2
      have HB := Lib.hid hB
      clear hn hn2 hlen' hbel hsuf hB
      go_wp2_with (fail)
      go_ret
      exact ⟨congrArg (fun z : Int => Ending.returned (.int .i64 z)) HN.out, HB.out⟩
    | cons k1 t1 kids1 o1 r1 =>
      obtain ⟨g, off, A1, c1, rfl, hgl, q0, q1, q2, q3, hk1⟩ := HK.out.get hsuf hB
      obtain ⟨hkid, hil⟩ := hsuf.kid
      rw [HL.out] at hil
      simp only [depT] at hn
      have hge : decide ((i : Int) < (L : Int)) = true := by rw [decide_eq_true_eq]; omega
      have hiL : (i : Int) < (L : Int) := by omega
      have hi0 : (0 : Int) ≤ (i : Int) := by omega
      have HBw := Lib.hid hB
      have HK1 := Lib.hid (hk1.below hB)
      have HS := Lib.hid hsuf
      have Hbel := Lib.hid hbel
      have hkd := depT_le kids1
      have hkd3 : (depT kids1 : Int) ≤ 1073741824 := by omega
      clear hkd
      have Hn := Lib.hid hn
      clear hk1 hsuf hbel hn hlen' hB
      go_wp2_with (fail)
      refine (IH.out (fsize kids1) (by omega) k1 o1 t1 kids1 A1 c1 _ (Nat.le_refl _) (by omega) HK1.out).mono ?_
      rintro e1 w1 ⟨rfl, hb1⟩
      have HB2 := Lib.hid hb1
      clear hb1
      go_wp2_with (fail)
      have hn := Hn.out
      exact ⟨⟨max n (depT kids1 + 1), i + 1, r1, by congr 1; omega, rfl, HS.out.next, by rw [Nat.max_assoc]; exact hn, Hbel.out.trans (HB2.out.mono (by omega))⟩, by simp; omega⟩

end Go.Proofs.YtnidngpenhblcaaDoor
