/- typeterm.spend, arePlain, IsPlain. No condition but a bounded size. -/
import Derived.Test.YtpdigaankmgagaaTcl
set_option linter.unusedVariables false
set_option linter.unusedSimpArgs false
namespace Go.Proofs.Ytpdigaankmgagaa.Sx
/-- what the nodes of a term leave of so many, or -1 -/
def spendV (nodes levels : Int) (kids : Fo) : Int := if (fsize kids : Int) + 1 ≤ nodes ∧ (depT kids : Int) + 1 ≤ levels then nodes - 1 - fsize kids else -1
theorem depT_app (f g : Fo) : depT (f.app g) = max (depT f) (depT g) := by
  induction f with
  | nil => simp [Fo.app, depT]
  | cons k t kids o r _ ih => simp only [Fo.app, depT, ih]; omega
/-- may the terms be arguments of a nominal type -/
def plainL : Fo → Bool
  | .nil => true
  | .cons k _ kids o rest => (if k = 5 then true else if k = 2 then plainL kids else closed1 k o kids 0) && plainL rest
def plain1 (k o : Int) (kids : Fo) : Bool := if k = 5 then true else if k = 2 then plainL kids else closed1 k o kids 0
theorem plainL_cons (k : Int) (t : List UInt8) (kids : Fo) (o : Int) (rest : Fo) : plainL (.cons k t kids o rest) = (plain1 k o kids && plainL rest) := rfl
end Go.Proofs.Ytpdigaankmgagaa.Sx
namespace Go.Proofs.Ytpdigaankmgagaa
open Go.RowKit Sx

theorem Suf.dep {i : Nat} {r f : Fo} (h : Suf i r f) : depT r ≤ depT f := by
  obtain ⟨pre, rfl, rfl⟩ := h
  rw [depT_app]; omega

set_option maxHeartbeats 2000000 in
theorem spend_any (N : Nat) : ∀ (k o nodes levels : Int) (t : List UInt8) (kids : Fo) (A : Option Addr) (c : Nat) (w : World), fsize kids ≤ N → fsize kids ≤ 1073741824 → KT w kids A c → 0 ≤ nodes → nodes ≤ 1048576 → 0 ≤ levels → levels ≤ 1048576 →
    Calls Try.prog 48 #[.agg #[.int .i64 k, .string ⟨t.toArray⟩, .int .i64 o, .slice A kids.len c], .int .i64 nodes, .int .i64 levels] w fun e w' => e = .returned (.int .i64 (spendV nodes levels kids)) ∧ BH w w' := by
  induction N using Nat.strongRecOn with
  | ind N ih =>
  intro k o nodes levels t kids A c w hN hN2 hK hn0 hn1 hv0 hv1
  have IH := Lib.hid ih
  have HK := Lib.hid hK
  clear ih hK
  have hlen := len_le_fsize kids
  obtain ⟨L, hL⟩ : ∃ L, kids.len = L := ⟨_, rfl⟩
  rw [hL] at hlen ⊢
  have HL := Lib.hid hL
  clear hL
  obtain ⟨b0, b1, b2, b3⟩ := box4 w (.int .i64 k) (.string ⟨t.toArray⟩) (.int .i64 o) (.slice A L c) 31
  have B1 : BH w (w.alloc (.cells #[.int .i64 k, .string ⟨t.toArray⟩, .int .i64 o, .slice A L c] 31 (0, 0))) := (Below.refl _ _).alloc (Nat.le_refl _) _
  have HB := Lib.hid B1
  clear B1
  by_cases hz : nodes = 0
  · rw [show spendV nodes levels kids = -1 from by unfold spendV; rw [if_neg (by omega)]]
    subst hz
    go_enter Try.func48, Try.ntmps48
    go_wp2_with (fail)
    go_ret
    exact ⟨rfl, HB.out⟩
  have t1 : (nodes == 0) = false := by rw [beq_eq_false_iff_ne]; exact hz
  by_cases hz2 : levels = 0
  · rw [show spendV nodes levels kids = -1 from by unfold spendV; rw [if_neg (by omega)]]
    subst hz2
    go_enter Try.func48, Try.ntmps48
    go_wp2_with (fail)
    go_ret
    exact ⟨rfl, HB.out⟩
  have t2 : (levels == 0) = false := by rw [beq_eq_false_iff_ne]; exact hz2
  have hn2 : 1 ≤ nodes := by omega
  have hv2 : 1 ≤ levels := by omega
  have Hz := Lib.hid hz
  have Hz2 := Lib.hid hz2
  clear hz hz2
  obtain ⟨V, hV⟩ : ∃ V, spendV nodes levels kids = V := ⟨_, rfl⟩
  rw [hV]
  have HV := Lib.hid hV
  clear hV
  go_enter Try.func48, Try.ntmps48
  go_wp2_with (fail)
  go_loopw [1, 6, 8, 20] (fun mv _ _ iv wr => ∃ (m : Int) (i : Nat) (r : Fo), mv = .int .i64 m ∧ iv = .int .i64 (i : Int) ∧ Suf i r kids ∧ 0 ≤ m ∧ m ≤ 1048576 ∧ m + fsize kids = nodes - 1 + fsize r ∧ ((depT r : Int) + 1 ≤ levels → (depT kids : Int) + 1 ≤ levels) ∧ BH w wr) (fun _ _ _ iv _ => L - (match iv with | .int _ n => n.toNat | _ => 0))
  case atStart => exact ⟨nodes - 1, 0, kids, rfl, rfl, Suf.zero _, by omega, by omega, by omega, id, HB.out⟩
  case round =>
    obtain ⟨m, i, r, rfl, rfl, hsuf, hm0, hm1, hm, hd, hbel⟩ := hrel
    have hlen' := hsuf.len
    rw [HL.out] at hlen'
    have hbs := Below.size hbel
    cases r with
    | nil =>
      simp only [Fo.len, fsize, depT] at hlen' hm hd
      have hge : decide (i < L) = false := by rw [decide_eq_false_iff_not]; omega
      have hres : V = m := by
        rw [← HV.out]
        unfold spendV
        rw [if_pos ⟨by omega, hd (by omega)⟩]
        omega
      have HR := Lib.hid hres
      have HB' := Lib.hid hbel
      clear hm hd hlen' hbel hsuf hres b0 b1 b2 b3
      go_wp2_with (fail)
      go_ret
      exact ⟨congrArg (fun z : Int => Ending.returned (.int .i64 z)) HR.out.symm, HB'.out⟩
    | cons k1 t1' kids1 o1 r1 =>
      obtain ⟨g, off, A1, c1, rfl, hgl, q0, q1, q2, q3, hk1⟩ := HK.out.get hsuf hbel
      obtain ⟨hkid, hil⟩ := hsuf.kid
      have hdep := hsuf.dep
      rw [HL.out] at hil
      simp only [fsize, depT] at hm hd hdep
      have hge : decide ((i : Int) < (L : Int)) = true := by rw [decide_eq_true_eq]; omega
      have hiL : (i : Int) < (L : Int) := by omega
      have hi0 : (0 : Int) ≤ (i : Int) := by omega
      have hne : ¬ g = wr.heap.size := by omega
      have B1 : BH w (wr.alloc (.cells #[.int .i64 k1, .string ⟨t1'.toArray⟩, .int .i64 o1, .slice A1 kids1.len c1] 31 (0, 0))) := Below.alloc hbel hbs _
      have HB1 := Lib.hid B1
      have HK1 := Lib.hid (hk1.below (BH.trans hbel ((Below.refl _ _).alloc (Nat.le_refl _) _) : BH w (wr.alloc (.cells #[.int .i64 k1, .string ⟨t1'.toArray⟩, .int .i64 o1, .slice A1 kids1.len c1] 31 (0, 0)))))
      have HS := Lib.hid hsuf
      obtain ⟨p0, p1, p2, p3⟩ := box4 wr (.int .i64 k1) (.string ⟨t1'.toArray⟩) (.int .i64 o1) (.slice A1 kids1.len c1) 31
      have Hm := Lib.hid hm
      have Hd := Lib.hid hd
      have Hdep := Lib.hid hdep
      clear hk1 B1 hsuf hbel b0 b1 b2 b3 hm hd hdep hlen'
      go_wp2_with (fail)
      refine (IH.out (fsize kids1) (by omega) k1 o1 m (levels - 1) t1' kids1 A1 c1 _ (Nat.le_refl _) (by omega) HK1.out (by omega) (by omega) (by omega) (by omega)).mono ?_
      rintro e1 w1 ⟨rfl, hb1⟩
      have HB2 := Lib.hid hb1
      clear hb1
      by_cases hok : (fsize kids1 : Int) + 1 ≤ m ∧ (depT kids1 : Int) + 1 ≤ levels - 1
      · rw [show spendV m (levels - 1) kids1 = m - 1 - fsize kids1 from if_pos hok]
        have hx0 : 0 ≤ m - 1 - (fsize kids1 : Int) := by omega
        have t3 : decide (m - 1 - (fsize kids1 : Int) < 0) = false := by rw [decide_eq_false_iff_not]; omega
        obtain ⟨x, hx⟩ : ∃ x : Int, m - 1 - (fsize kids1 : Int) = x := ⟨_, rfl⟩
        rw [hx] at t3 hx0 ⊢
        have Hx := Lib.hid hx
        have Hok := Lib.hid hok
        clear hx hok
        go_wp2_with (fail)
        have hx := Hx.out
        have hok := Hok.out
        have hm := Hm.out
        have hd := Hd.out
        exact ⟨⟨x, i + 1, r1, rfl, rfl, HS.out.next, by omega, by omega, by omega, fun h => hd (by omega), BH.trans HB1.out HB2.out⟩, by simp; omega⟩
      · rw [show spendV m (levels - 1) kids1 = -1 from if_neg hok]
        have hres : V = -1 := by
          rw [← HV.out]
          unfold spendV
          have hm := Hm.out
          have hdep := Hdep.out
          rw [if_neg (by omega)]
        have HR := Lib.hid hres
        clear hok hres
        go_wp2_with (fail)
        go_ret
        exact ⟨congrArg (fun z : Int => Ending.returned (.int .i64 z)) HR.out.symm, BH.trans HB1.out HB2.out⟩

/-- IsPlain, once arePlain is known of the arguments -/
theorem isPlain_of (k o : Int) (t : List UInt8) (kids : Fo) (A : Option Addr) (c : Nat) (w : World) (hN2 : fsize kids ≤ 1073741824) (hK : KT w kids A c)
    (hAP : ∀ W, KT W kids A c → Calls Try.prog 59 #[.slice A kids.len c] W fun e w' => e = .returned (.bool (plainL kids)) ∧ BH W w') :
    Calls Try.prog 50 #[.agg #[.int .i64 k, .string ⟨t.toArray⟩, .int .i64 o, .slice A kids.len c]] w fun e w' => e = .returned (.bool (plain1 k o kids)) ∧ BH w w' := by
  obtain ⟨b0, b1, b2, b3⟩ := box4 w (.int .i64 k) (.string ⟨t.toArray⟩) (.int .i64 o) (.slice A kids.len c) 31
  have B1 : BH w (w.alloc (.cells #[.int .i64 k, .string ⟨t.toArray⟩, .int .i64 o, .slice A kids.len c] 31 (0, 0))) := (Below.refl _ _).alloc (Nat.le_refl _) _
  have HB := Lib.hid B1
  have HK := Lib.hid (hK.below B1)
  have HA := Lib.hid hAP
  clear B1 hK hAP
  by_cases h5 : k = 5
  · subst h5
    rw [show plain1 5 o kids = true from rfl]
    go_enter Try.func50, Try.ntmps50
    go_wp2_with (fail)
    go_ret
    exact ⟨rfl, HB.out⟩
  have t5 : (k == 5) = false := by simp [h5]
  by_cases h2 : k = 2
  · subst h2
    rw [show plain1 2 o kids = plainL kids from rfl]
    go_enter Try.func50, Try.ntmps50
    go_wp2_with (fail)
    refine (HA.out _ HK.out).mono ?_
    rintro e w1 ⟨rfl, hb⟩
    have HB2 := Lib.hid hb
    clear hb
    go_wp2_with (fail)
    go_ret
    exact ⟨rfl, BH.trans HB.out HB2.out⟩
  · have t2 : (k == 2) = false := by simp [h2]
    rw [show plain1 k o kids = closed1 k o kids 0 from by simp [plain1, h5, h2]]
    go_enter Try.func50, Try.ntmps50
    go_wp2_with (fail)
    refine (isClosed_any _ k o 0 t kids A c _ (Nat.le_refl _) hN2 HK.out (by decide) (by omega)).mono ?_
    rintro e w1 ⟨rfl, hb⟩
    have HB2 := Lib.hid hb
    clear hb
    go_wp2_with (fail)
    go_ret
    exact ⟨rfl, BH.trans HB.out HB2.out⟩

set_option maxHeartbeats 2000000 in
theorem arePlain_any (N : Nat) : ∀ (kids : Fo) (A : Option Addr) (c : Nat) (w : World), fsize kids ≤ N → fsize kids ≤ 1073741824 → KT w kids A c →
    Calls Try.prog 59 #[.slice A kids.len c] w fun e w' => e = .returned (.bool (plainL kids)) ∧ BH w w' := by
  induction N using Nat.strongRecOn with
  | ind N ih =>
  intro kids A c w hN hN2 hK
  have IH := Lib.hid ih
  have HK := Lib.hid hK
  clear ih hK
  have hlen := len_le_fsize kids
  obtain ⟨L, hL⟩ : ∃ L, kids.len = L := ⟨_, rfl⟩
  rw [hL] at hlen ⊢
  have HL := Lib.hid hL
  clear hL
  obtain ⟨V, hV⟩ : ∃ V, plainL kids = V := ⟨_, rfl⟩
  rw [hV]
  have HV := Lib.hid hV
  clear hV
  go_enter Try.func59, Try.ntmps59
  go_wp2_with (fail)
  go_loopw [2, 4, 7] (fun _ _ iv wr => ∃ (i : Nat) (r : Fo), iv = .int .i64 (i : Int) ∧ Suf i r kids ∧ plainL r = V ∧ BH w wr) (fun _ _ iv _ => L - (match iv with | .int _ n => n.toNat | _ => 0))
  case atStart => exact ⟨0, kids, rfl, Suf.zero _, HV.out, BH.refl _⟩
  case round =>
    obtain ⟨i, r, rfl, hsuf, hcl, hbel⟩ := hrel
    have hlen' := hsuf.len
    rw [HL.out] at hlen'
    have hbs := Below.size hbel
    cases r with
    | nil =>
      simp only [Fo.len] at hlen'
      have hge : decide (i < L) = false := by rw [decide_eq_false_iff_not]; omega
      have HN := Lib.hid hcl
      have HB := Lib.hid hbel
      clear hcl hlen' hbel hsuf
      go_wp2_with (fail)
      go_ret
      exact ⟨congrArg (fun z : Bool => Ending.returned (.bool z)) HN.out, HB.out⟩
    | cons k1 t1 kids1 o1 r1 =>
      obtain ⟨g, off, A1, c1, rfl, hgl, q0, q1, q2, q3, hk1⟩ := HK.out.get hsuf hbel
      obtain ⟨hkid, hil⟩ := hsuf.kid
      rw [HL.out] at hil
      have hge : decide ((i : Int) < (L : Int)) = true := by rw [decide_eq_true_eq]; omega
      have hiL : (i : Int) < (L : Int) := by omega
      have hi0 : (0 : Int) ≤ (i : Int) := by omega
      have hne : ¬ g = wr.heap.size := by omega
      rw [plainL_cons] at hcl
      have HC := Lib.hid hcl
      have HS := Lib.hid hsuf
      have B1 : BH w (wr.alloc (.cells #[.int .i64 k1, .string ⟨t1.toArray⟩, .int .i64 o1, .slice A1 kids1.len c1] 31 (0, 0))) := Below.alloc hbel hbs _
      have HB1 := Lib.hid B1
      have HK1 := Lib.hid (hk1.below (show Below w.heap.size w _ from B1))
      obtain ⟨p0, p1, p2, p3⟩ := box4 wr (.int .i64 k1) (.string ⟨t1.toArray⟩) (.int .i64 o1) (.slice A1 kids1.len c1) 31
      obtain ⟨V1, hV1⟩ : ∃ V1, plain1 k1 o1 kids1 = V1 := ⟨_, rfl⟩
      have hIP : ∀ X, KT X kids1 A1 c1 → Calls Try.prog 50 #[.agg #[.int .i64 k1, .string ⟨t1.toArray⟩, .int .i64 o1, .slice A1 kids1.len c1]] X fun e u => e = .returned (.bool V1) ∧ BH X u := fun X hX => by
        rw [← hV1]
        exact isPlain_of k1 o1 t1 kids1 A1 c1 X (by omega) hX fun W hW => IH.out (fsize kids1) (by omega) kids1 A1 c1 W (Nat.le_refl _) (by omega) hW
      have HIP := Lib.hid hIP
      have HV1 := Lib.hid hV1
      clear hk1 hcl hsuf B1 hbel hlen' hIP hV1
      go_wp2_with (fail)
      refine (HIP.out _ HK1.out).mono ?_
      rintro e1 w1 ⟨rfl, hb1⟩
      have HB2 := Lib.hid hb1
      clear hb1
      cases V1 with
      | true =>
        go_wp2_with (fail)
        exact ⟨⟨i + 1, r1, rfl, HS.out.next, by have h := HC.out; rw [HV1.out, Bool.true_and] at h; exact h, BH.trans HB1.out HB2.out⟩, by simp; omega⟩
      | false =>
        go_wp2_with (fail)
        go_ret
        exact ⟨congrArg (fun z : Bool => Ending.returned (.bool z)) (by have h := HC.out; rw [HV1.out, Bool.false_and] at h; exact h), BH.trans HB1.out HB2.out⟩
theorem isPlain_any (k o : Int) (t : List UInt8) (kids : Fo) (A : Option Addr) (c : Nat) (w : World) (hN2 : fsize kids ≤ 1073741824) (hK : KT w kids A c) :
    Calls Try.prog 50 #[.agg #[.int .i64 k, .string ⟨t.toArray⟩, .int .i64 o, .slice A kids.len c]] w fun e w' => e = .returned (.bool (plain1 k o kids)) ∧ BH w w' :=
  isPlain_of k o t kids A c w hN2 hK fun W hW => arePlain_any _ kids A c W (Nat.le_refl _) hN2 hW
end Go.Proofs.Ytpdigaankmgagaa
