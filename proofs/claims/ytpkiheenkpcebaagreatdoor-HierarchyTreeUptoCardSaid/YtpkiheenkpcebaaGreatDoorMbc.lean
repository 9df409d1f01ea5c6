/- telref1.wellFormed, TermValidate. No condition but bounded sizes. -/
import Derived.Test.YtpkiheenkpcebaaGreatDoorMba
import Derived.Test.YtpkiheenkpcebaaGreatDoorMbb
set_option linter.unusedVariables false
set_option linter.unusedSimpArgs false
namespace Go.Proofs.YtpkiheenkpcebaaGreatDoor
open Go.RowKit Sx

set_option maxHeartbeats 16000000 in
set_option maxRecDepth 100000 in
theorem rWell_any (N : Nat) : ∀ (k o : Int) (t : List UInt8) (kids : Fo) (A : Option Addr) (c : Nat) (w : World), fsize kids ≤ N → fsize kids ≤ 1073741824 → KT w kids A c → t.length ≤ 1048576 → lenT kids →
    Calls Tryz.prog 183 #[.agg #[.int .i64 k, .string ⟨t.toArray⟩, .int .i64 o, .slice A kids.len c]] w fun e w' => e = .returned (.bool (validT k t o kids)) ∧ BH w w' := by
  induction N using Nat.strongRecOn with
  | ind N ih =>
  intro k o t kids A c w hN hN2 hK ht hlt
  have IH := Lib.hid ih
  have HLT := Lib.hid hlt
  clear ih hlt
  have hlen := len_le_fsize kids
  obtain ⟨s, hss, hsl, hsz⟩ : ∃ s : ByteArray, (⟨t.toArray⟩ : ByteArray) = s ∧ s.data.toList = t ∧ s.size = t.length := ⟨_, rfl, by simp, by show t.toArray.size = _; simp⟩
  have HK := Lib.hid hK
  clear hK
  obtain ⟨L, hL⟩ : ∃ L, kids.len = L := ⟨_, rfl⟩
  rw [hL] at hlen ⊢
  have HL := Lib.hid hL
  clear hL
  have HB := Lib.hid (show BH w (w.alloc (.cells #[.int .i64 k, .string s, .int .i64 o, .slice A L c] 34 (0, 0))) from bh_alloc (BH.refl _) _)
  have HX := Lib.hid (heap_alloc_new w (.cells #[.int .i64 k, .string s, .int .i64 o, .slice A L c] 34 (0, 0)))
  obtain ⟨b0, b1, b2, b3⟩ := box4 w (.int .i64 k) (.string s) (.int .i64 o) (.slice A L c) 34
  obtain ⟨V, hV⟩ : ∃ V, validT k t o kids = V := ⟨_, rfl⟩
  rw [hV]
  have HV := Lib.hid hV
  clear hV
  by_cases hne : t ≠ [] ∧ k ≠ 2
  · obtain ⟨hne, hk2⟩ := hne
    obtain rfl : V = false := by rw [← HV.out, validT, vNode_name hne hk2, Bool.false_and]
    rw [hss]
    have q1 : ¬ s.toList = [] := by rw [ByteArray.toList_eq, hsl]; exact hne
    have q2 : s.toList.isEmpty = false := by cases e : s.toList with
      | nil => exact absurd e q1
      | cons a b => rfl
    have u2 : (k == 2) = false := by simp [hk2]
    have u2' : (k != 2) = true := by simp [hk2]
    clear HV hss hsl hne
    go_enter Tryz.func183, Tryz.ntmps183
    go_wp2_with (fail)
    all_goals
      go_ret
      exact ⟨rfl, HB.out⟩
  by_cases hox : o ≠ 0 ∧ k ≠ 5
  · obtain ⟨hox, hk5⟩ := hox
    obtain rfl : V = false := by rw [← HV.out, validT, vNode_index hox hk5, Bool.false_and]
    rw [hss]
    have u5 : (k == 5) = false := by simp [hk5]
    have u5' : (k != 5) = true := by simp [hk5]
    have uo : (o == 0) = false := by simp [hox]
    have uo' : (o != 0) = true := by simp [hox]
    by_cases hk2 : k = 2
    · subst hk2
      clear HV hss hsl hne
      go_enter Tryz.func183, Tryz.ntmps183
      go_wp2_with (fail)
      all_goals
        go_ret
        exact ⟨rfl, HB.out⟩
    · have u2 : (k == 2) = false := by simp [hk2]
      have u2' : (k != 2) = true := by simp [hk2]
      have hte : s.toList = [] := by
        rw [ByteArray.toList_eq, hsl]
        exact Decidable.not_not.1 fun h => hne ⟨h, hk2⟩
      have q2 : s.toList.isEmpty = true := by rw [hte]; rfl
      clear HV hss hsl hne
      go_enter Tryz.func183, Tryz.ntmps183
      go_wp2_with (fail)
      all_goals
        go_ret
        exact ⟨rfl, HB.out⟩
  have hEmpty : k ≠ 2 → t = [] := fun h => Decidable.not_not.1 fun hh => hne ⟨hh, h⟩
  have hZero : k ≠ 5 → o = 0 := fun h => Decidable.not_not.1 fun hh => hox ⟨hh, h⟩
  by_cases hk0 : k = 0
  · subst hk0
    obtain rfl := hEmpty (by decide)
    have hte : s.toList = [] := by rw [ByteArray.toList_eq, hsl]
    have q2 : s.toList.isEmpty = true := by rw [hte]; rfl
    obtain rfl := hZero (by decide)
    rw [hss]
    by_cases hc : L = 0
    · have u : ((L : Int) == 0) = true := by simp [hc]
      have hkn : kids = .nil := by
        have := HL.out
        cases kids with
        | nil => rfl
        | cons => simp only [Fo.len] at this; omega
      obtain rfl : V = true := by rw [← HV.out, hkn]; rfl
      clear HV hss hsl hne hox hEmpty hZero
      subst hc
      go_enter Tryz.func183, Tryz.ntmps183
      go_wp2_with (fail)
      all_goals
        go_ret
        exact ⟨rfl, HB.out⟩
    · have u : ((L : Int) == 0) = false := by rw [beq_eq_false_iff_ne]; omega
      obtain rfl : V = false := by rw [← HV.out, validT, vNode]; simp [HL.out, hc]
      clear HV hss hsl hne hox hEmpty hZero
      go_enter Tryz.func183, Tryz.ntmps183
      go_wp2_with (fail)
      all_goals
        go_ret
        exact ⟨rfl, HB.out⟩
  by_cases hk1 : k = 1
  · subst hk1
    obtain rfl := hEmpty (by decide)
    have hte : s.toList = [] := by rw [ByteArray.toList_eq, hsl]
    have q2 : s.toList.isEmpty = true := by rw [hte]; rfl
    obtain rfl := hZero (by decide)
    rw [hss]
    by_cases hc : L = 0
    · have u : ((L : Int) == 0) = true := by simp [hc]
      have hkn : kids = .nil := by
        have := HL.out
        cases kids with
        | nil => rfl
        | cons => simp only [Fo.len] at this; omega
      obtain rfl : V = true := by rw [← HV.out, hkn]; rfl
      clear HV hss hsl hne hox hEmpty hZero
      subst hc
      go_enter Tryz.func183, Tryz.ntmps183
      go_wp2_with (fail)
      all_goals
        go_ret
        exact ⟨rfl, HB.out⟩
    · have u : ((L : Int) == 0) = false := by rw [beq_eq_false_iff_ne]; omega
      obtain rfl : V = false := by rw [← HV.out, validT, vNode]; simp [HL.out, hc]
      clear HV hss hsl hne hox hEmpty hZero
      go_enter Tryz.func183, Tryz.ntmps183
      go_wp2_with (fail)
      all_goals
        go_ret
        exact ⟨rfl, HB.out⟩
  by_cases hk5 : k = 5
  · subst hk5
    obtain rfl := hEmpty (by decide)
    have hte : s.toList = [] := by rw [ByteArray.toList_eq, hsl]
    have q2 : s.toList.isEmpty = true := by rw [hte]; rfl
    rw [hss]
    by_cases hc : L = 0
    · have u : ((L : Int) == 0) = true := by simp [hc]
      have hkn : kids = .nil := by
        have := HL.out
        cases kids with
        | nil => rfl
        | cons => simp only [Fo.len] at this; omega
      by_cases ho0 : 0 ≤ o
      · have v0 : decide ((0 : Int) ≤ o) = true := decide_eq_true ho0
        by_cases ho2 : o ≤ 200
        · have v1 : decide (o ≤ (200 : Int)) = true := decide_eq_true ho2
          obtain rfl : V = true := by rw [← HV.out, validT, vNode, hkn]; simp [ho0, ho2, Fo.len, validTL]
          clear HV hss hsl hne hox hEmpty hZero
          subst hc
          go_enter Tryz.func183, Tryz.ntmps183
          go_wp2_with (fail)
          all_goals
            go_ret
            exact ⟨rfl, HB.out⟩
        · have v1 : decide (o ≤ (200 : Int)) = false := decide_eq_false ho2
          obtain rfl : V = false := by rw [← HV.out, validT, vNode, hkn]; simp [ho0, ho2]
          clear HV hss hsl hne hox hEmpty hZero
          subst hc
          go_enter Tryz.func183, Tryz.ntmps183
          go_wp2_with (fail)
          all_goals
            go_ret
            exact ⟨rfl, HB.out⟩
      · have v0 : decide ((0 : Int) ≤ o) = false := decide_eq_false ho0
        obtain rfl : V = false := by rw [← HV.out, validT, vNode, hkn]; simp [ho0]
        clear HV hss hsl hne hox hEmpty hZero
        subst hc
        go_enter Tryz.func183, Tryz.ntmps183
        go_wp2_with (fail)
        all_goals
          go_ret
          exact ⟨rfl, HB.out⟩
    · have u : ((L : Int) == 0) = false := by rw [beq_eq_false_iff_ne]; omega
      obtain rfl : V = false := by rw [← HV.out, validT, vNode]; simp [HL.out, hc]
      clear HV hss hsl hne hox hEmpty hZero
      go_enter Tryz.func183, Tryz.ntmps183
      go_wp2_with (fail)
      all_goals
        go_ret
        exact ⟨rfl, HB.out⟩
  by_cases hk3 : k = 3
  · subst hk3
    obtain rfl := hEmpty (by decide)
    have hte : s.toList = [] := by rw [ByteArray.toList_eq, hsl]
    have q2 : s.toList.isEmpty = true := by rw [hte]; rfl
    obtain rfl := hZero (by decide)
    rw [hss]
    by_cases hc : L ≤ 6
    · have u : ¬ (6 : Int) < (L : Int) := by omega
      have u' : decide ((6 : Int) < (L : Int)) = false := decide_eq_false u
      have HQ : Hid (validTL kids = V) := Lib.hid (by rw [← HV.out, validT, vNode]; simp [HL.out, hc])
      clear HV hss hsl hne hox hEmpty hZero
      go_enter Tryz.func183, Tryz.ntmps183
      go_wp2_with (fail)
      have HBW := HB
      have HX1 := HX
      obtain ⟨w1, hw1⟩ : ∃ w1, w.alloc (.cells #[.int .i64 3, .string s, .int .i64 0, .slice A L c] 34 (0, 0)) = w1 := ⟨_, rfl⟩
      rw [hw1] at HBW HX1 b0 b1 b2 b3 ⊢
      clear hw1
      go_loopw [5] (fun iv wr => ∃ (i : Nat) (r : Fo), iv = .int .i64 (i : Int) ∧ Suf i r kids ∧ lenT r ∧ validTL r = V ∧ BH w1 wr) (fun iv _ => L - (match iv with | .int _ n => n.toNat | _ => 0))
      case atStart => exact ⟨0, kids, rfl, Suf.zero _, HLT.out, HQ.out, BH.refl _⟩
      case round =>
        obtain ⟨i, r, rfl, hsuf, hlt, hcl, hbh⟩ := hrel
        have hlen' := hsuf.len
        rw [HL.out] at hlen'
        have hbel : BH w wr := BH.trans HBW.out hbh
        have hw1s := heap_lt HX1.out
        have HX2 := Lib.hid ((Below.block hbh w.heap.size hw1s).trans HX1.out)
        clear b0 b1 b2 b3
        obtain ⟨b0, b1, b2, b3, _⟩ := row4 HX2.out
        cases r with
        | nil =>
          simp only [Fo.len] at hlen'
          have hge : decide (i < L) = false := by rw [decide_eq_false_iff_not]; omega
          have hge2 : decide ((i : Int) < (L : Int)) = false := by rw [decide_eq_false_iff_not]; omega
          have HN : Hid (V = true) := Lib.hid (by rw [← hcl]; rfl)
          have HBe := Lib.hid hbel
          clear hcl hlen' hbel hsuf hbh hlt
          go_wp2_with (fail)
          go_ret
          exact ⟨congrArg (fun z : Bool => Ending.returned (.bool z)) HN.out.symm, HBe.out⟩
        | cons k1 t1 kids1 o1 r1 =>
          obtain ⟨g, off, A1, c1, rfl, hgl, q0, q1, q2, q3, hk1⟩ := HK.out.get hsuf hbel
          obtain ⟨hkid, hil⟩ := hsuf.kid
          rw [HL.out] at hil
          have hge : decide ((i : Int) < (L : Int)) = true := by rw [decide_eq_true_eq]; omega
          have hiL : (i : Int) < (L : Int) := by omega
          have hi0 : (0 : Int) ≤ (i : Int) := by omega
          rw [validTL_cons] at hcl
          have HC := Lib.hid hcl
          have HS := Lib.hid hsuf
          have HK1 := Lib.hid (hk1.below hbel)
          have HBh := Lib.hid hbh
          have HBel := Lib.hid hbel
          have HLr := Lib.hid hlt
          obtain ⟨V1, hV1⟩ : ∃ V1, validT k1 t1 o1 kids1 = V1 := ⟨_, rfl⟩
          have HV1 := Lib.hid hV1
          have HIP := Lib.hid (IH.out (fsize kids1) (by omega) k1 o1 t1 kids1 A1 c1 wr (Nat.le_refl _) (by omega) HK1.out HLr.out.1 HLr.out.2.1)
          rw [hV1] at HIP
          clear hk1 hcl hsuf hbel hlen' hV1 hbh hlt
          go_wp2_with (fail)
          refine HIP.out.mono ?_
          rintro e1 w2 ⟨rfl, hb1⟩
          have HB2 := Lib.hid hb1
          clear hb1
          cases V1 with
          | true =>
            go_wp2_with (fail)
            exact ⟨⟨i + 1, r1, rfl, HS.out.next, HLr.out.2.2, by have h := HC.out; rw [HV1.out, Bool.true_and] at h; exact h, BH.trans HBh.out HB2.out⟩, by simp; omega⟩
          | false =>
            go_wp2_with (fail)
            go_ret
            exact ⟨congrArg (fun z : Bool => Ending.returned (.bool z)) (by have h := HC.out; rw [HV1.out, Bool.false_and] at h; exact h), BH.trans HBel.out HB2.out⟩
    · have u : (6 : Int) < (L : Int) := by omega
      have u' : decide ((6 : Int) < (L : Int)) = true := decide_eq_true u
      obtain rfl : V = false := by rw [← HV.out, validT, vNode]; simp [HL.out, hc]
      clear HV hss hsl hne hox hEmpty hZero
      go_enter Tryz.func183, Tryz.ntmps183
      go_wp2_with (fail)
      all_goals
        go_ret
        exact ⟨rfl, HB.out⟩
  by_cases hk4 : k = 4
  · subst hk4
    obtain rfl := hEmpty (by decide)
    have hte : s.toList = [] := by rw [ByteArray.toList_eq, hsl]
    have q2 : s.toList.isEmpty = true := by rw [hte]; rfl
    obtain rfl := hZero (by decide)
    rw [hss]
    by_cases hc : 2 ≤ L
    · have u : ¬ (L : Int) < 2 := by omega
      have u' : decide ((L : Int) < 2) = false := decide_eq_false u
      have HQ : Hid (validTL kids = V) := Lib.hid (by rw [← HV.out, validT, vNode]; simp [HL.out, hc])
      clear HV hss hsl hne hox hEmpty hZero
      go_enter Tryz.func183, Tryz.ntmps183
      go_wp2_with (fail)
      have HBW := HB
      have HX1 := HX
      obtain ⟨w1, hw1⟩ : ∃ w1, w.alloc (.cells #[.int .i64 4, .string s, .int .i64 0, .slice A L c] 34 (0, 0)) = w1 := ⟨_, rfl⟩
      rw [hw1] at HBW HX1 b0 b1 b2 b3 ⊢
      clear hw1
      go_loopw [5] (fun iv wr => ∃ (i : Nat) (r : Fo), iv = .int .i64 (i : Int) ∧ Suf i r kids ∧ lenT r ∧ validTL r = V ∧ BH w1 wr) (fun iv _ => L - (match iv with | .int _ n => n.toNat | _ => 0))
      case atStart => exact ⟨0, kids, rfl, Suf.zero _, HLT.out, HQ.out, BH.refl _⟩
      case round =>
        obtain ⟨i, r, rfl, hsuf, hlt, hcl, hbh⟩ := hrel
        have hlen' := hsuf.len
        rw [HL.out] at hlen'
        have hbel : BH w wr := BH.trans HBW.out hbh
        have hw1s := heap_lt HX1.out
        have HX2 := Lib.hid ((Below.block hbh w.heap.size hw1s).trans HX1.out)
        clear b0 b1 b2 b3
        obtain ⟨b0, b1, b2, b3, _⟩ := row4 HX2.out
        cases r with
        | nil =>
          simp only [Fo.len] at hlen'
          have hge : decide (i < L) = false := by rw [decide_eq_false_iff_not]; omega
          have hge2 : decide ((i : Int) < (L : Int)) = false := by rw [decide_eq_false_iff_not]; omega
          have HN : Hid (V = true) := Lib.hid (by rw [← hcl]; rfl)
          have HBe := Lib.hid hbel
          clear hcl hlen' hbel hsuf hbh hlt
          go_wp2_with (fail)
          go_ret
          exact ⟨congrArg (fun z : Bool => Ending.returned (.bool z)) HN.out.symm, HBe.out⟩
        | cons k1 t1 kids1 o1 r1 =>
          obtain ⟨g, off, A1, c1, rfl, hgl, q0, q1, q2, q3, hk1⟩ := HK.out.get hsuf hbel
          obtain ⟨hkid, hil⟩ := hsuf.kid
          rw [HL.out] at hil
          have hge : decide ((i : Int) < (L : Int)) = true := by rw [decide_eq_true_eq]; omega
          have hiL : (i : Int) < (L : Int) := by omega
          have hi0 : (0 : Int) ≤ (i : Int) := by omega
          rw [validTL_cons] at hcl
          have HC := Lib.hid hcl
          have HS := Lib.hid hsuf
          have HK1 := Lib.hid (hk1.below hbel)
          have HBh := Lib.hid hbh
          have HBel := Lib.hid hbel
          have HLr := Lib.hid hlt
          obtain ⟨V1, hV1⟩ : ∃ V1, validT k1 t1 o1 kids1 = V1 := ⟨_, rfl⟩
          have HV1 := Lib.hid hV1
          have HIP := Lib.hid (IH.out (fsize kids1) (by omega) k1 o1 t1 kids1 A1 c1 wr (Nat.le_refl _) (by omega) HK1.out HLr.out.1 HLr.out.2.1)
          rw [hV1] at HIP
          clear hk1 hcl hsuf hbel hlen' hV1 hbh hlt
          go_wp2_with (fail)
          refine HIP.out.mono ?_
          rintro e1 w2 ⟨rfl, hb1⟩
          have HB2 := Lib.hid hb1
          clear hb1
          cases V1 with
          | true =>
            go_wp2_with (fail)
            exact ⟨⟨i + 1, r1, rfl, HS.out.next, HLr.out.2.2, by have h := HC.out; rw [HV1.out, Bool.true_and] at h; exact h, BH.trans HBh.out HB2.out⟩, by simp; omega⟩
          | false =>
            go_wp2_with (fail)
            go_ret
            exact ⟨congrArg (fun z : Bool => Ending.returned (.bool z)) (by have h := HC.out; rw [HV1.out, Bool.false_and] at h; exact h), BH.trans HBel.out HB2.out⟩
    · have u : (L : Int) < 2 := by omega
      have u' : decide ((L : Int) < 2) = true := decide_eq_true u
      obtain rfl : V = false := by rw [← HV.out, validT, vNode]; simp [HL.out, hc]
      clear HV hss hsl hne hox hEmpty hZero
      go_enter Tryz.func183, Tryz.ntmps183
      go_wp2_with (fail)
      all_goals
        go_ret
        exact ⟨rfl, HB.out⟩
  by_cases hk6 : k = 6
  · subst hk6
    obtain rfl := hEmpty (by decide)
    have hte : s.toList = [] := by rw [ByteArray.toList_eq, hsl]
    have q2 : s.toList.isEmpty = true := by rw [hte]; rfl
    obtain rfl := hZero (by decide)
    rw [hss]
    by_cases hc : L = 2
    · have hcn : kids.len = 2 := HL.out.trans hc
      have hhead : ∃ (k1 : Int) (t1 : List UInt8) (kids1 : Fo) (o1 : Int) (r1 : Fo), kids = .cons k1 t1 kids1 o1 r1 := by
        cases kids with
        | nil => simp [Fo.len] at hcn
        | cons k1 t1 kids1 o1 r1 => exact ⟨_, _, _, _, _, rfl⟩
      obtain ⟨k1, t1, kids1, o1, r1, hkk⟩ := hhead
      obtain ⟨g, off, A1, c1, rfl, hgl, y0, y1, y2, y3, hk1⟩ := HK.out.get (k := k1) (t := t1) (kids := kids1) (o := o1) (r := r1) (i := 0) (by rw [hkk]; exact Suf.zero _) (Below.refl _ _)
      have hsz1 : fsize kids1 ≤ 1073741824 := by rw [hkk] at hN2; simp only [fsize] at hN2; omega
      have HTC := Lib.hid (fun (U : Bool) (hU : closed1 k1 o1 kids1 0 = U) => rTermClosed_any k1 o1 t1 kids1 A1 c1 (w.alloc (.cells #[.int .i64 6, .string s, .int .i64 0, .slice (some ⟨g, off, none⟩) L c] 34 (0, 0))) hsz1 (hk1.below HB.out) hU)
      simp only [Nat.zero_mul, Nat.add_zero] at y0 y1 y2 y3
      have u : ((L : Int) == 2) = true := by rw [hc]; rfl
      have u' : ((L : Int) != 2) = false := by rw [hc]; rfl
      have hL1 : (0 : Int) < (L : Int) := by omega
      have hgne : ¬ g = w.heap.size := by omega
      have hH : headClosed kids = closed1 k1 o1 kids1 0 := by rw [hkk]; rfl
      have HKK := Lib.hid hkk
      cases hU : closed1 k1 o1 kids1 0 with
      | false =>
        have HT := Lib.hid (HTC.out false hU)
        obtain rfl : V = false := by rw [← HV.out, validT, vNode]; simp [hH, hU]
        clear HV hss hsl hne hox hEmpty hZero hk1 hU hkk hH hcn hc
        go_enter Tryz.func183, Tryz.ntmps183
        go_wp2_with (fail)
        refine HT.out.mono ?_
        rintro e2 w1 ⟨rfl, hb⟩
        have HBW := Lib.hid (BH.trans HB.out hb)
        clear hb
        go_wp2_with (fail)
        go_ret
        exact ⟨rfl, HBW.out⟩
      | true =>
        have HT := Lib.hid (HTC.out true hU)
        have HQ : Hid (validTL kids = V) := Lib.hid (by rw [← HV.out, validT, vNode]; simp [HL.out, hc, hH, hU])
        clear HV hss hsl hne hox hEmpty hZero hk1 hU hkk hH hcn hc
        go_enter Tryz.func183, Tryz.ntmps183
        go_wp2_with (fail)
        refine HT.out.mono ?_
        rintro e2 w1 ⟨rfl, hb⟩
        have HBW := Lib.hid (BH.trans HB.out hb)
        have HX1 := Lib.hid ((Below.block hb w.heap.size (by simp)).trans HX.out)
        clear hb b0 b1 b2 b3 y0 y1 y2 y3
        obtain ⟨b0, b1, b2, b3, _⟩ := row4 HX1.out
        go_wp2_with (fail)
        go_loopw [5] (fun iv wr => ∃ (i : Nat) (r : Fo), iv = .int .i64 (i : Int) ∧ Suf i r kids ∧ lenT r ∧ validTL r = V ∧ BH w1 wr) (fun iv _ => L - (match iv with | .int _ n => n.toNat | _ => 0))
        case atStart => exact ⟨0, kids, rfl, Suf.zero _, HLT.out, HQ.out, BH.refl _⟩
        case round =>
          obtain ⟨i, r, rfl, hsuf, hlt, hcl, hbh⟩ := hrel
          have hlen' := hsuf.len
          rw [HL.out] at hlen'
          have hbel : BH w wr := BH.trans HBW.out hbh
          have hw1s := heap_lt HX1.out
          have HX2 := Lib.hid ((Below.block hbh w.heap.size hw1s).trans HX1.out)
          clear b0 b1 b2 b3
          obtain ⟨b0, b1, b2, b3, _⟩ := row4 HX2.out
          cases r with
          | nil =>
            simp only [Fo.len] at hlen'
            have hge : decide (i < L) = false := by rw [decide_eq_false_iff_not]; omega
            have hge2 : decide ((i : Int) < (L : Int)) = false := by rw [decide_eq_false_iff_not]; omega
            have HN : Hid (V = true) := Lib.hid (by rw [← hcl]; rfl)
            have HBe := Lib.hid hbel
            clear hcl hlen' hbel hsuf hbh hlt
            go_wp2_with (fail)
            go_ret
            exact ⟨congrArg (fun z : Bool => Ending.returned (.bool z)) HN.out.symm, HBe.out⟩
          | cons k1 t1 kids1 o1 r1 =>
            obtain ⟨g', off', A1, c1, hAA, hgl, q0, q1, q2, q3, hk1⟩ := HK.out.get hsuf hbel
            obtain ⟨hkid, hil⟩ := hsuf.kid
            rw [HL.out] at hil
            cases hAA
            have hge : decide ((i : Int) < (L : Int)) = true := by rw [decide_eq_true_eq]; omega
            have hiL : (i : Int) < (L : Int) := by omega
            have hi0 : (0 : Int) ≤ (i : Int) := by omega
            rw [validTL_cons] at hcl
            have HC := Lib.hid hcl
            have HS := Lib.hid hsuf
            have HK1 := Lib.hid (hk1.below hbel)
            have HBh := Lib.hid hbh
            have HBel := Lib.hid hbel
            have HLr := Lib.hid hlt
            obtain ⟨V1, hV1⟩ : ∃ V1, validT k1 t1 o1 kids1 = V1 := ⟨_, rfl⟩
            have HV1 := Lib.hid hV1
            have HIP := Lib.hid (IH.out (fsize kids1) (by omega) k1 o1 t1 kids1 A1 c1 wr (Nat.le_refl _) (by omega) HK1.out HLr.out.1 HLr.out.2.1)
            rw [hV1] at HIP
            clear hk1 hcl hsuf hbel hlen' hV1 hbh hlt
            go_wp2_with (fail)
            refine HIP.out.mono ?_
            rintro e1 w2 ⟨rfl, hb1⟩
            have HB2 := Lib.hid hb1
            clear hb1
            cases V1 with
            | true =>
              go_wp2_with (fail)
              exact ⟨⟨i + 1, r1, rfl, HS.out.next, HLr.out.2.2, by have h := HC.out; rw [HV1.out, Bool.true_and] at h; exact h, BH.trans HBh.out HB2.out⟩, by simp; omega⟩
            | false =>
              go_wp2_with (fail)
              go_ret
              exact ⟨congrArg (fun z : Bool => Ending.returned (.bool z)) (by have h := HC.out; rw [HV1.out, Bool.false_and] at h; exact h), BH.trans HBel.out HB2.out⟩
    · have u : ((L : Int) == 2) = false := by rw [beq_eq_false_iff_ne]; omega
      have u' : ((L : Int) != 2) = true := by rw [bne, u]; rfl
      obtain rfl : V = false := by rw [← HV.out, validT, vNode]; simp [HL.out, hc]
      clear HV hss hsl hne hox hEmpty hZero
      go_enter Tryz.func183, Tryz.ntmps183
      go_wp2_with (fail)
      all_goals
        go_ret
        exact ⟨rfl, HB.out⟩
  by_cases hk2 : k = 2
  · subst hk2
    obtain rfl := hZero (by decide)
    have hv : V = ((tyB t && (decide (L ≤ 6) && plainL kids)) && validTL kids) := by rw [← HV.out, validT, vNode]; simp [HL.out]
    have HI := Lib.hid (fun (U : Bool) (hU : identC t = U) W => (show Calls Tryz.prog 119 #[.string s] W fun e w' => e = .returned (.bool U) ∧ W = w' from by rw [← hU, ← hsl]; exact rIdentC_any s W (by omega)))
    have HKw := Lib.hid (fun (U : Bool) (hU : kwL.contains t = U) W => (show Calls Tryz.prog 120 #[.string s] W fun e w' => e = .returned (.bool U) ∧ W = w' from isTypeKeyword_any s W (by rw [hsl]; exact hU)))
    rw [hss]
    cases hI : identC t with
    | false =>
      have HI0 := Lib.hid (HI.out false hI)
      obtain rfl : V = false := by rw [hv, tyB, hI]; simp
      clear hv hI
      clear HV hss hsl hne hox hEmpty hZero
      go_enter Tryz.func183, Tryz.ntmps183
      go_wp2_with (fail)
      refine (HI0.out _).mono ?_
      rintro e2 w1 ⟨rfl, rfl⟩
      go_wp2_with (fail)
      go_ret
      exact ⟨rfl, HB.out⟩
    | true =>
      have HI0 := Lib.hid (HI.out true hI)
      cases hW : kwL.contains t with
      | true =>
        have HW0 := Lib.hid (HKw.out true hW)
        obtain rfl : V = false := by rw [hv, tyB, hW]; simp
        clear hv hI hW
        clear HV hss hsl hne hox hEmpty hZero
        go_enter Tryz.func183, Tryz.ntmps183
        go_wp2_with (fail)
        refine (HI0.out _).mono ?_
        rintro e2 w1 ⟨rfl, rfl⟩
        go_wp2_with (fail)
        refine (HW0.out _).mono ?_
        rintro e2 w1 ⟨rfl, rfl⟩
        go_wp2_with (fail)
        go_ret
        exact ⟨rfl, HB.out⟩
      | false =>
        have HW0 := Lib.hid (HKw.out false hW)
        by_cases hc : L ≤ 6
        · have u : ¬ (6 : Int) < (L : Int) := by omega
          have u' : decide ((6 : Int) < (L : Int)) = false := decide_eq_false u
          obtain ⟨U, hU⟩ : ∃ U, plainL kids = U := ⟨_, rfl⟩
          have HU := Lib.hid hU
          have HVU : Hid (V = (U && validTL kids)) := Lib.hid (by rw [hv, tyB, hI, hW, hU]; simp [hc])
          clear hv hI hW hU
          clear HV hss hsl hne hox hEmpty hZero
          go_enter Tryz.func183, Tryz.ntmps183
          go_wp2_with (fail)
          refine (HI0.out _).mono ?_
          rintro e2 w1 ⟨rfl, rfl⟩
          go_wp2_with (fail)
          refine (HW0.out _).mono ?_
          rintro e2 w1 ⟨rfl, rfl⟩
          go_wp2_with (fail)
          have HBW := HB
          have HX1 := HX
          obtain ⟨w0, hw0⟩ : ∃ w0, w.alloc (.cells #[.int .i64 2, .string s, .int .i64 0, .slice A L c] 34 (0, 0)) = w0 := ⟨_, rfl⟩
          rw [hw0] at HBW HX1 b0 b1 b2 b3 ⊢
          clear hw0
          go_loopw [4] (fun iv wr => ∃ (i : Nat) (r : Fo), iv = .int .i64 (i : Int) ∧ Suf i r kids ∧ plainL r = U ∧ BH w0 wr) (fun iv _ => L - (match iv with | .int _ n => n.toNat | _ => 0))
          case atStart => exact ⟨0, kids, rfl, Suf.zero _, HU.out, BH.refl _⟩
          case round =>
            obtain ⟨i, r, rfl, hsuf, hcl, hbh⟩ := hrel
            have hlen' := hsuf.len
            rw [HL.out] at hlen'
            have hbel : BH w wr := BH.trans HBW.out hbh
            have hw1s := heap_lt HX1.out
            have HX2 := Lib.hid ((Below.block hbh w.heap.size hw1s).trans HX1.out)
            clear b0 b1 b2 b3
            obtain ⟨b0, b1, b2, b3, _⟩ := row4 HX2.out
            cases r with
            | nil =>
              simp only [Fo.len] at hlen'
              have hge : decide (i < L) = false := by rw [decide_eq_false_iff_not]; omega
              have hge2 : decide ((i : Int) < (L : Int)) = false := by rw [decide_eq_false_iff_not]; omega
              have HN : Hid (U = true) := Lib.hid (by rw [← hcl]; rfl)
              have HQ : Hid (validTL kids = V) := Lib.hid (by rw [HVU.out, HN.out, Bool.true_and])
              have HBWo := HBW
              clear HBW HX1
              have HBW := Lib.hid hbel
              have HX1 := HX2
              clear hcl hlen' hbel hsuf hbh HX2 HBWo
              obtain ⟨w1, hw1⟩ : ∃ w1, wr = w1 := ⟨_, rfl⟩
              rw [hw1] at HBW HX1 b0 b1 b2 b3 ⊢
              clear hw1
              go_wp2_with (fail)
              go_loopw [5] (fun iv wr => ∃ (i : Nat) (r : Fo), iv = .int .i64 (i : Int) ∧ Suf i r kids ∧ lenT r ∧ validTL r = V ∧ BH w1 wr) (fun iv _ => L - (match iv with | .int _ n => n.toNat | _ => 0))
              case atStart => exact ⟨0, kids, rfl, Suf.zero _, HLT.out, HQ.out, BH.refl _⟩
              case round =>
                obtain ⟨i, r, rfl, hsuf, hlt, hcl, hbh⟩ := hrel
                have hlen' := hsuf.len
                rw [HL.out] at hlen'
                have hbel : BH w wr := BH.trans HBW.out hbh
                have hw1s := heap_lt HX1.out
                have HX2 := Lib.hid ((Below.block hbh w.heap.size hw1s).trans HX1.out)
                clear b0 b1 b2 b3
                obtain ⟨b0, b1, b2, b3, _⟩ := row4 HX2.out
                cases r with
                | nil =>
                  simp only [Fo.len] at hlen'
                  have hge : decide (i < L) = false := by rw [decide_eq_false_iff_not]; omega
                  have hge2 : decide ((i : Int) < (L : Int)) = false := by rw [decide_eq_false_iff_not]; omega
                  have HN : Hid (V = true) := Lib.hid (by rw [← hcl]; rfl)
                  have HBe := Lib.hid hbel
                  clear hcl hlen' hbel hsuf hbh hlt
                  go_wp2_with (fail)
                  go_ret
                  exact ⟨congrArg (fun z : Bool => Ending.returned (.bool z)) HN.out.symm, HBe.out⟩
                | cons k1 t1 kids1 o1 r1 =>
                  obtain ⟨g, off, A1, c1, rfl, hgl, q0, q1, q2, q3, hk1⟩ := HK.out.get hsuf hbel
                  obtain ⟨hkid, hil⟩ := hsuf.kid
                  rw [HL.out] at hil
                  have hge : decide ((i : Int) < (L : Int)) = true := by rw [decide_eq_true_eq]; omega
                  have hiL : (i : Int) < (L : Int) := by omega
                  have hi0 : (0 : Int) ≤ (i : Int) := by omega
                  rw [validTL_cons] at hcl
                  have HC := Lib.hid hcl
                  have HS := Lib.hid hsuf
                  have HK1 := Lib.hid (hk1.below hbel)
                  have HBh := Lib.hid hbh
                  have HBel := Lib.hid hbel
                  have HLr := Lib.hid hlt
                  obtain ⟨V1, hV1⟩ : ∃ V1, validT k1 t1 o1 kids1 = V1 := ⟨_, rfl⟩
                  have HV1 := Lib.hid hV1
                  have HIP := Lib.hid (IH.out (fsize kids1) (by omega) k1 o1 t1 kids1 A1 c1 wr (Nat.le_refl _) (by omega) HK1.out HLr.out.1 HLr.out.2.1)
                  rw [hV1] at HIP
                  clear hk1 hcl hsuf hbel hlen' hV1 hbh hlt
                  go_wp2_with (fail)
                  refine HIP.out.mono ?_
                  rintro e1 w2 ⟨rfl, hb1⟩
                  have HB2 := Lib.hid hb1
                  clear hb1
                  cases V1 with
                  | true =>
                    go_wp2_with (fail)
                    exact ⟨⟨i + 1, r1, rfl, HS.out.next, HLr.out.2.2, by have h := HC.out; rw [HV1.out, Bool.true_and] at h; exact h, BH.trans HBh.out HB2.out⟩, by simp; omega⟩
                  | false =>
                    go_wp2_with (fail)
                    go_ret
                    exact ⟨congrArg (fun z : Bool => Ending.returned (.bool z)) (by have h := HC.out; rw [HV1.out, Bool.false_and] at h; exact h), BH.trans HBel.out HB2.out⟩
            | cons k1 t1 kids1 o1 r1 =>
              obtain ⟨g, off, A1, c1, rfl, hgl, q0, q1, q2, q3, hk1⟩ := HK.out.get hsuf hbel
              obtain ⟨hkid, hil⟩ := hsuf.kid
              rw [HL.out] at hil
              have hge : decide ((i : Int) < (L : Int)) = true := by rw [decide_eq_true_eq]; omega
              have hiL : (i : Int) < (L : Int) := by omega
              have hi0 : (0 : Int) ≤ (i : Int) := by omega
              rw [plainL_cons] at hcl
              have HC := Lib.hid hcl
              have HS := Lib.hid hsuf
              have HK1 := Lib.hid (hk1.below hbel)
              have HBh := Lib.hid hbh
              have HBel := Lib.hid hbel
              obtain ⟨V1, hV1⟩ : ∃ V1, plain1 k1 o1 kids1 = V1 := ⟨_, rfl⟩
              have HV1 := Lib.hid hV1
              have HIP := Lib.hid (rPlain_any (fsize kids1) k1 o1 t1 kids1 A1 c1 wr (Nat.le_refl _) (by omega) HK1.out)
              rw [hV1] at HIP
              clear hk1 hcl hsuf hbel hlen' hV1 hbh
              go_wp2_with (fail)
              refine HIP.out.mono ?_
              rintro e1 w2 ⟨rfl, hb1⟩
              have HB2 := Lib.hid hb1
              clear hb1
              cases V1 with
              | true =>
                go_wp2_with (fail)
                exact ⟨⟨i + 1, r1, rfl, HS.out.next, by have h := HC.out; rw [HV1.out, Bool.true_and] at h; exact h, BH.trans HBh.out HB2.out⟩, by simp; omega⟩
              | false =>
                go_wp2_with (fail)
                go_ret
                exact ⟨congrArg (fun z : Bool => Ending.returned (.bool z)) (by have h := HC.out; rw [HV1.out, Bool.false_and] at h; have h2 := HVU.out; rw [← h, Bool.false_and] at h2; exact h2.symm), BH.trans HBel.out HB2.out⟩
        · have u : (6 : Int) < (L : Int) := by omega
          have u' : decide ((6 : Int) < (L : Int)) = true := decide_eq_true u
          obtain rfl : V = false := by rw [hv]; simp [hc]
          clear hv hI hW
          clear HV hss hsl hne hox hEmpty hZero
          go_enter Tryz.func183, Tryz.ntmps183
          go_wp2_with (fail)
          refine (HI0.out _).mono ?_
          rintro e2 w1 ⟨rfl, rfl⟩
          go_wp2_with (fail)
          refine (HW0.out _).mono ?_
          rintro e2 w1 ⟨rfl, rfl⟩
          go_wp2_with (fail)
          go_ret
          exact ⟨rfl, HB.out⟩
  obtain rfl := hEmpty hk2
  obtain rfl := hZero hk5
  obtain rfl : V = false := by rw [← HV.out, validT, vNode_else hk0 hk1 hk2 hk3 hk4 hk5 hk6, Bool.false_and]
  have hte : s.toList = [] := by rw [ByteArray.toList_eq, hsl]
  have q2 : s.toList.isEmpty = true := by rw [hte]; rfl
  have u0 : (k == 0) = false := by simp [hk0]
  have u1 : (k == 1) = false := by simp [hk1]
  have u2 : (k == 2) = false := by simp [hk2]
  have u2' : (k != 2) = true := by simp [hk2]
  have u3 : (k == 3) = false := by simp [hk3]
  have u4 : (k == 4) = false := by simp [hk4]
  have u5 : (k == 5) = false := by simp [hk5]
  have u5' : (k != 5) = true := by simp [hk5]
  have u6 : (k == 6) = false := by simp [hk6]
  rw [hss]
  clear HV hss hsl hne hox hEmpty hZero
  go_enter Tryz.func183, Tryz.ntmps183
  go_wp2_with (fail)
  all_goals
    go_ret
    exact ⟨rfl, HB.out⟩

set_option maxRecDepth 100000 in
theorem rValidate_any (k o : Int) (t : List UInt8) (kids : Fo) (A : Option Addr) (c : Nat) (w : World) (hN2 : fsize kids ≤ 1073741824) (hK : KT w kids A c) (ht : t.length ≤ 1048576) (hlt : lenT kids) :
    Calls Tryz.prog 156 #[.agg #[.int .i64 k, .string ⟨t.toArray⟩, .int .i64 o, .slice A kids.len c]] w fun e w' => e = .returned (.int .i64 (validV k t o kids)) ∧ BH w w' := by
  have HB := Lib.hid (show BH w (w.alloc (.cells #[.int .i64 k, .string ⟨t.toArray⟩, .int .i64 o, .slice A kids.len c] 34 (0, 0))) from bh_alloc (BH.refl _) _)
  have HX := Lib.hid (heap_alloc_new w (.cells #[.int .i64 k, .string ⟨t.toArray⟩, .int .i64 o, .slice A kids.len c] 34 (0, 0)))
  have HK := Lib.hid (hK.below HB.out)
  have HLT := Lib.hid hlt
  clear hK hlt
  obtain ⟨b0, b1, b2, b3⟩ := box4 w (.int .i64 k) (.string ⟨t.toArray⟩) (.int .i64 o) (.slice A kids.len c) 34
  have hdl := depT_le kids
  have HS := Lib.hid (rsize_any _ k o t kids A c _ (Nat.le_refl _) hN2 HK.out)
  have HD := Lib.hid (fun W (hW : KT W kids A c) => rdepth_any _ k o t kids A c W (Nat.le_refl _) hN2 hW)
  have HWf := Lib.hid (fun W (hW : KT W kids A c) => rWell_any _ k o t kids A c W (Nat.le_refl _) hN2 hW ht HLT.out)
  rw [validV_eq]
  obtain ⟨V, hV⟩ : ∃ V, validT k t o kids = V := ⟨_, rfl⟩
  rw [hV] at HWf ⊢
  obtain ⟨fs, hfs⟩ : ∃ fs, fsize kids = fs := ⟨_, rfl⟩
  obtain ⟨dp, hdp⟩ : ∃ dp, depT kids = dp := ⟨_, rfl⟩
  rw [hfs] at HS hN2 hdl ⊢
  rw [hdp] at HD hdl ⊢
  clear hV hfs hdp
  by_cases hs : 200 < (fs : Int) + 1
  · rw [if_pos (.inl hs)]
    have u : decide ((200 : Int) < (fs : Int) + 1) = true := decide_eq_true hs
    go_enter Tryz.func156, Tryz.ntmps156
    go_wp2_with (fail)
    refine HS.out.mono ?_
    rintro e w1 ⟨rfl, hb⟩
    have HB1 := Lib.hid (BH.trans HB.out hb)
    clear hb
    go_wp2_with (fail)
    go_ret
    exact ⟨rfl, HB1.out⟩
  have u : decide ((200 : Int) < (fs : Int) + 1) = false := decide_eq_false hs
  by_cases hd : 12 < (dp : Int) + 1
  · rw [if_pos (.inr hd)]
    have v : decide ((12 : Int) < (dp : Int) + 1) = true := decide_eq_true hd
    go_enter Tryz.func156, Tryz.ntmps156
    go_wp2_with (fail)
    refine HS.out.mono ?_
    rintro e w1 ⟨rfl, hb⟩
    have HB1 := Lib.hid (BH.trans HB.out hb)
    have HX1 := Lib.hid ((Below.block hb w.heap.size (by simp)).trans HX.out)
    have HK1 := Lib.hid (HK.out.below hb)
    clear hb b0 b1 b2 b3
    obtain ⟨b0, b1, b2, b3, _⟩ := row4 HX1.out
    go_wp2_with (fail)
    refine (HD.out _ HK1.out).mono ?_
    rintro e w2 ⟨rfl, hb⟩
    have HB2 := Lib.hid (BH.trans HB1.out hb)
    clear hb
    go_wp2_with (fail)
    go_ret
    exact ⟨rfl, HB2.out⟩
  have v : decide ((12 : Int) < (dp : Int) + 1) = false := decide_eq_false hd
  rw [if_neg (fun h => h.elim hs hd)]
  cases V
  all_goals
    go_enter Tryz.func156, Tryz.ntmps156
    go_wp2_with (fail)
    refine HS.out.mono ?_
    rintro e w1 ⟨rfl, hb⟩
    have HB1 := Lib.hid (BH.trans HB.out hb)
    have HX1 := Lib.hid ((Below.block hb w.heap.size (by simp)).trans HX.out)
    have HK1 := Lib.hid (HK.out.below hb)
    clear hb b0 b1 b2 b3
    obtain ⟨b0, b1, b2, b3, _⟩ := row4 HX1.out
    go_wp2_with (fail)
    refine (HD.out _ HK1.out).mono ?_
    rintro e w2 ⟨rfl, hb⟩
    have HB2 := Lib.hid (BH.trans HB1.out hb)
    have HX2 := Lib.hid ((Below.block hb w.heap.size (heap_lt HX1.out)).trans HX1.out)
    have HK2 := Lib.hid (HK1.out.below hb)
    clear hb b0 b1 b2 b3
    obtain ⟨b0, b1, b2, b3, _⟩ := row4 HX2.out
    go_wp2_with (fail)
    refine (HWf.out _ HK2.out).mono ?_
    rintro e w3 ⟨rfl, hb⟩
    have HB3 := Lib.hid (BH.trans HB2.out hb)
    clear hb
    go_wp2_with (fail)
    go_ret
    exact ⟨rfl, HB3.out⟩
end Go.Proofs.YtpkiheenkpcebaaGreatDoor
