/- telref1.TermPlain. No condition but a bounded size. -/
import Derived.Test.YtnidngpenhblcaaDoorTrf
set_option linter.unusedVariables false
set_option linter.unusedSimpArgs false
namespace Go.Proofs.YtnidngpenhblcaaDoor
open Go.RowKit Sx

set_option maxHeartbeats 4000000 in
theorem rPlain_any (N : Nat) : ∀ (k o : Int) (t : List UInt8) (kids : Fo) (A : Option Addr) (c : Nat) (w : World), fsize kids ≤ N → fsize kids ≤ 1073741824 → KT w kids A c →
    Calls Tryd.prog 23 #[.agg #[.int .i64 k, .string ⟨t.toArray⟩, .int .i64 o, .slice A kids.len c]] w fun e w' => e = .returned (.bool (plain1 k o kids)) ∧ BH w w' := by
  induction N using Nat.strongRecOn with
  | ind N ih =>
  intro k o t kids A c w hN hN2 hK
  have IH := Lib.hid ih
  have HK := Lib.hid hK
  clear ih hK
  have hlen := len_le_fsize kids
  have hB0 : BH w (w.alloc (.cells #[.int .i64 k, .string ⟨t.toArray⟩, .int .i64 o, .slice A kids.len c] 25 (0, 0))) := bh_alloc (BH.refl _) _
  have HTC := Lib.hid (fun (V : Bool) (hV : closed1 k o kids 0 = V) => rTermClosed_any k o t kids A c _ hN2 (HK.out.below hB0) hV)
  obtain ⟨L, hL⟩ : ∃ L, kids.len = L := ⟨_, rfl⟩
  rw [hL] at hlen hB0 HTC ⊢
  have HL := Lib.hid hL
  clear hL
  have HB0 := Lib.hid hB0
  have HX := Lib.hid (heap_alloc_new w (.cells #[.int .i64 k, .string ⟨t.toArray⟩, .int .i64 o, .slice A L c] 25 (0, 0)))
  clear hB0
  obtain ⟨b0, b1, b2, b3⟩ := box4 w (.int .i64 k) (.string ⟨t.toArray⟩) (.int .i64 o) (.slice A L c) 25
  by_cases h5 : k = 5
  · subst h5
    rw [show plain1 5 o kids = true from rfl]
    go_enter Tryd.func23, Tryd.ntmps23
    go_wp2_with (fail)
    go_ret
    exact ⟨rfl, HB0.out⟩
  have t5 : (k == 5) = false := by simp [h5]
  cases hcl : closed1 k o kids 0 with
  | true =>
    rw [closed_plain1 hcl]
    have HT := Lib.hid (HTC.out true hcl)
    clear hcl h5
    go_enter Tryd.func23, Tryd.ntmps23
    go_wp2_with (fail)
    refine HT.out.mono ?_
    rintro e w1 ⟨rfl, hb⟩
    have HB := Lib.hid (BH.trans HB0.out hb)
    clear hb
    go_wp2_with (fail)
    go_ret
    exact ⟨rfl, HB.out⟩
  | false =>
    have HT := Lib.hid (HTC.out false hcl)
    obtain ⟨P, hP⟩ : ∃ P, plain1 k o kids = P := ⟨_, rfl⟩
    have hP2 : P = (plainL kids && decide (k = 2)) := by
      rw [← hP, plain1, if_neg h5]
      by_cases h2 : k = 2
      · simp [h2]
      · rw [if_neg h2, hcl]; simp [h2]
    rw [hP]
    obtain ⟨V, hV⟩ : ∃ V, plainL kids = V := ⟨_, rfl⟩
    rw [hV] at hP2
    have HV := Lib.hid hV
    have HP := Lib.hid hP2
    clear hcl hP hP2 hV h5
    go_enter Tryd.func23, Tryd.ntmps23
    go_wp2_with (fail)
    refine HT.out.mono ?_
    rintro e w1 ⟨rfl, hb⟩
    have HBW := Lib.hid (BH.trans HB0.out hb)
    have HX1 := Lib.hid ((Below.block hb w.heap.size (by simp)).trans HX.out)
    clear hb b0 b1 b2 b3
    obtain ⟨b0, b1, b2, b3, _⟩ := row4 HX1.out
    go_wp2_with (fail)
    go_loopw [3] (fun iv wr => ∃ (i : Nat) (r : Fo), iv = .int .i64 (i : Int) ∧ Suf i r kids ∧ plainL r = V ∧ BH w1 wr) (fun iv _ => L - (match iv with | .int _ n => n.toNat | _ => 0))
    case atStart => exact ⟨0, kids, rfl, Suf.zero _, HV.out, BH.refl _⟩
    case round =>
      obtain ⟨i, r, rfl, hsuf, hcl, hbh⟩ := hrel
      have hlen' := hsuf.len
      rw [HL.out] at hlen'
      have hbel : BH w wr := BH.trans HBW.out hbh
      have hw1s := heap_lt HX1.out
      have HX2 := Lib.hid ((Below.block hbh w.heap.size hw1s).trans HX1.out)
      clear b0 b1 b2 b3
      obtain ⟨b0, b1, b2, b3, _⟩ := row4 HX2.out
      cases r with
      | nil =>
        simp only [Fo.len] at hlen'
        have hge : decide (i < L) = false := by rw [decide_eq_false_iff_not]; omega
        have HN : Hid (V = true) := Lib.hid (by rw [← hcl]; rfl)
        have HB := Lib.hid hbel
        clear hcl hlen' hbel hsuf hbh
        by_cases h2 : k = 2
        · subst h2
          go_wp2_with (fail)
          go_ret
          exact ⟨congrArg (fun z : Bool => Ending.returned (.bool z)) (by rw [HP.out, HN.out]; rfl), HB.out⟩
        · have t2 : (k == 2) = false := by simp [h2]
          have HQ : Hid (P = false) := Lib.hid (by rw [HP.out]; simp [h2])
          clear h2
          go_wp2_with (fail)
          go_ret
          exact ⟨congrArg (fun z : Bool => Ending.returned (.bool z)) (by rw [HQ.out]), HB.out⟩
      | cons k1 t1 kids1 o1 r1 =>
        obtain ⟨g, off, A1, c1, rfl, hgl, q0, q1, q2, q3, hk1⟩ := HK.out.get hsuf hbel
        obtain ⟨hkid, hil⟩ := hsuf.kid
        rw [HL.out] at hil
        have hge : decide ((i : Int) < (L : Int)) = true := by rw [decide_eq_true_eq]; omega
        have hiL : (i : Int) < (L : Int) := by omega
        have hi0 : (0 : Int) ≤ (i : Int) := by omega
        rw [plainL_cons] at hcl
        have HC := Lib.hid hcl
        have HS := Lib.hid hsuf
        have HK1 := Lib.hid (hk1.below hbel)
        have HBh := Lib.hid hbh
        have HBel := Lib.hid hbel
        obtain ⟨V1, hV1⟩ : ∃ V1, plain1 k1 o1 kids1 = V1 := ⟨_, rfl⟩
        have HV1 := Lib.hid hV1
        have HIP := Lib.hid (IH.out (fsize kids1) (by omega) k1 o1 t1 kids1 A1 c1 wr (Nat.le_refl _) (by omega) HK1.out)
        rw [hV1] at HIP
        clear hk1 hcl hsuf hbel hlen' hV1 hbh
        go_wp2_with (fail)
        refine HIP.out.mono ?_
        rintro e1 w2 ⟨rfl, hb1⟩
        have HB2 := Lib.hid hb1
        clear hb1
        cases V1 with
        | true =>
          go_wp2_with (fail)
          exact ⟨⟨i + 1, r1, rfl, HS.out.next, by have h := HC.out; rw [HV1.out, Bool.true_and] at h; exact h, BH.trans HBh.out HB2.out⟩, by simp; omega⟩
        | false =>
          go_wp2_with (fail)
          go_ret
          exact ⟨congrArg (fun z : Bool => Ending.returned (.bool z)) (by have h := HC.out; rw [HV1.out, Bool.false_and] at h; rw [HP.out, ← h]; rfl), BH.trans HBel.out HB2.out⟩
end Go.Proofs.YtnidngpenhblcaaDoor
