/- typeterm.isValidNode, isValid, Validate. No condition but bounded sizes. Terms, fields and declarations in memory. No condition. A term's box, stored into cell by cell. No condition. -/
import Derived.Test.YtpkiheenkpcebaaGreatDoorMad
import Derived.Test.YtpkiheenkpcebaaGreatDoorMac
import Derived.Test.YtpkiheenkpcebaaGreatDoorMab
set_option linter.unusedVariables false
set_option linter.unusedSimpArgs false
namespace Go.Proofs.YtpkiheenkpcebaaGreatDoor.Sx
/-- no variable is free in the first term -/
def headClosed : Fo → Bool
  | .nil => true
  | .cons k _ kids o _ => closed1 k o kids 0
/-- all names are short -/
def lenT : Fo → Prop
  | .nil => True
  | .cons _ t kids _ rest => t.length ≤ 1048576 ∧ lenT kids ∧ lenT rest
/-- may the node stand in a term -/
def vNode (k : Int) (t : List UInt8) (o : Int) (kids : Fo) : Bool :=
  if (t ≠ [] ∧ k ≠ 2) ∨ (o ≠ 0 ∧ k ≠ 5) then false
  else if k = 0 ∨ k = 1 then decide (kids.len = 0)
  else if k = 2 then tyB t && (decide (kids.len ≤ 6) && plainL kids)
  else if k = 3 then decide (kids.len ≤ 6)
  else if k = 4 then decide (2 ≤ kids.len)
  else if k = 5 then decide (kids.len = 0) && (decide (0 ≤ o) && decide (o ≤ 200))
  else if k = 6 then decide (kids.len = 2) && headClosed kids
  else false
/-- are all nodes of the terms valid -/
def validTL : Fo → Bool
  | .nil => true
  | .cons k t kids o rest => (vNode k t o kids && validTL kids) && validTL rest
def validT (k : Int) (t : List UInt8) (o : Int) (kids : Fo) : Bool := vNode k t o kids && validTL kids
theorem validTL_cons (k : Int) (t : List UInt8) (kids : Fo) (o : Int) (rest : Fo) : validTL (.cons k t kids o rest) = (validT k t o kids && validTL rest) := rfl
/-- what Validate answers -/
def validV (k : Int) (t : List UInt8) (o : Int) (kids : Fo) : Int := if spendV 200 12 kids < 0 then 4 else if validT k t o kids then 0 else 2
theorem vNode_name {k : Int} {t : List UInt8} {o : Int} {kids : Fo} (h : t ≠ []) (hk : k ≠ 2) : vNode k t o kids = false := by rw [vNode, if_pos (.inl ⟨h, hk⟩)]
theorem vNode_index {k : Int} {t : List UInt8} {o : Int} {kids : Fo} (h : o ≠ 0) (hk : k ≠ 5) : vNode k t o kids = false := by rw [vNode, if_pos (.inr ⟨h, hk⟩)]
theorem vNode_else {k : Int} {t : List UInt8} {o : Int} {kids : Fo} (h0 : k ≠ 0) (h1 : k ≠ 1) (h2 : k ≠ 2) (h3 : k ≠ 3) (h4 : k ≠ 4) (h5 : k ≠ 5) (h6 : k ≠ 6) : vNode k t o kids = false := by
  unfold vNode
  split
  · rfl
  · simp [h0, h1, h2, h3, h4, h5, h6]
end Go.Proofs.YtpkiheenkpcebaaGreatDoor.Sx
namespace Go.Proofs.YtpkiheenkpcebaaGreatDoor
open Go.RowKit Sx

set_option maxHeartbeats 8000000 in
theorem isValidNode_any (k o : Int) (t : List UInt8) (kids : Fo) (A : Option Addr) (c : Nat) (w : World) (hN2 : fsize kids ≤ 1073741824) (hK : KT w kids A c) (ht : t.length ≤ 1048576) {V : Bool} (hV : vNode k t o kids = V) :
    Calls Tryz.prog 159 #[.agg #[.int .i64 k, .string ⟨t.toArray⟩, .int .i64 o, .slice A kids.len c]] w fun e w' => e = .returned (.bool V) ∧ BH w w' := by
  have hlen := len_le_fsize kids
  obtain ⟨s, hss, hsl, hsz⟩ : ∃ s : ByteArray, (⟨t.toArray⟩ : ByteArray) = s ∧ s.data.toList = t ∧ s.size = t.length := ⟨_, rfl, by simp, by show t.toArray.size = _; simp⟩
  obtain ⟨L, hL⟩ : ∃ L, kids.len = L := ⟨_, rfl⟩
  have B1 : BH w (w.alloc (.cells #[.int .i64 k, .string s, .int .i64 o, .slice A L c] 34 (0, 0))) := (Below.refl _ _).alloc (Nat.le_refl _) _
  have HB := Lib.hid B1
  have HK := Lib.hid (hK.below B1)
  clear hK
  obtain ⟨b0, b1, b2, b3⟩ := box4 w (.int .i64 k) (.string s) (.int .i64 o) (.slice A L c) 34
  have HV := Lib.hid hV
  clear hV B1
  -- the tests on the kind
  by_cases hne : t ≠ [] ∧ k ≠ 2
  · obtain ⟨hne, hk2⟩ := hne
    have hv : V = false := by rw [← HV.out]; exact vNode_name hne hk2
    subst hv
    rw [hss, hL]
    have q1 : ¬ s.toList = [] := by rw [ByteArray.toList_eq, hsl]; exact hne
    have q2 : s.toList.isEmpty = false := by cases e : s.toList with
      | nil => exact absurd e q1
      | cons a b => rfl
    have u2 : (k == 2) = false := by simp [hk2]
    clear HK HV hss hsl hne hL
    go_enter Tryz.func159, Tryz.ntmps159
    go_wp2_with (fail)
    all_goals
      go_ret
      exact ⟨rfl, HB.out⟩
  by_cases hox : o ≠ 0 ∧ k ≠ 5
  · obtain ⟨hox, hk5⟩ := hox
    have hv : V = false := by rw [← HV.out]; exact vNode_index hox hk5
    subst hv
    rw [hss, hL]
    have u5 : (k == 5) = false := by simp [hk5]
    have uo : (o == 0) = false := by simp [hox]
    have uo' : (o != 0) = true := by simp [hox]
    by_cases hk2 : k = 2
    · subst hk2
      by_cases hte : s.toList = []
      · have q2 : s.toList.isEmpty = true := by rw [hte]; rfl
        clear HK HV hss hsl hL hne
        go_enter Tryz.func159, Tryz.ntmps159
        go_wp2_with (fail)
        all_goals
          go_ret
          exact ⟨rfl, HB.out⟩
      · have q2 : s.toList.isEmpty = false := by cases e : s.toList with
          | nil => exact absurd e hte
          | cons a b => rfl
        clear HK HV hss hsl hL hne
        go_enter Tryz.func159, Tryz.ntmps159
        go_wp2_with (fail)
        all_goals
          go_ret
          exact ⟨rfl, HB.out⟩
    · have u2 : (k == 2) = false := by simp [hk2]
      have hte : s.toList = [] := by
        rw [ByteArray.toList_eq, hsl]
        exact Decidable.not_not.1 fun h => hne ⟨h, hk2⟩
      have q2 : s.toList.isEmpty = true := by rw [hte]; rfl
      clear HK HV hss hsl hL hne
      go_enter Tryz.func159, Tryz.ntmps159
      go_wp2_with (fail)
      all_goals
        go_ret
        exact ⟨rfl, HB.out⟩
  have hEmpty : k ≠ 2 → t = [] := fun h => Decidable.not_not.1 fun hh => hne ⟨hh, h⟩
  have hZero : k ≠ 5 → o = 0 := fun h => Decidable.not_not.1 fun hh => hox ⟨hh, h⟩
  by_cases hk0 : k = 0
  · subst hk0
    obtain rfl := hEmpty (by decide)
    obtain rfl := hZero (by decide)
    have hte : s.toList = [] := by rw [ByteArray.toList_eq, hsl]
    have q2 : s.toList.isEmpty = true := by rw [hte]; rfl
    have hv : V = decide (L = 0) := by rw [← HV.out, ← hL]; simp [vNode]
    rw [hss, hL]
    clear HK HV hss hsl hL hne hox hEmpty hZero
    by_cases hc : L = 0
    · have u : ((L : Int) == 0) = true := by simp [hc]
      obtain rfl : V = true := by rw [hv]; exact decide_eq_true hc
      clear hv
      subst hc
      go_enter Tryz.func159, Tryz.ntmps159
      go_wp2_with (fail)
      go_ret
      exact ⟨rfl, HB.out⟩
    · have u : ((L : Int) == 0) = false := by rw [beq_eq_false_iff_ne]; omega
      obtain rfl : V = false := by rw [hv]; exact decide_eq_false hc
      clear hv
      go_enter Tryz.func159, Tryz.ntmps159
      go_wp2_with (fail)
      go_ret
      exact ⟨rfl, HB.out⟩
  by_cases hk1 : k = 1
  · subst hk1
    obtain rfl := hEmpty (by decide)
    obtain rfl := hZero (by decide)
    have hte : s.toList = [] := by rw [ByteArray.toList_eq, hsl]
    have q2 : s.toList.isEmpty = true := by rw [hte]; rfl
    have hv : V = decide (L = 0) := by rw [← HV.out, ← hL]; simp [vNode]
    rw [hss, hL]
    clear HK HV hss hsl hL hne hox hEmpty hZero
    by_cases hc : L = 0
    · have u : ((L : Int) == 0) = true := by simp [hc]
      obtain rfl : V = true := by rw [hv]; exact decide_eq_true hc
      clear hv
      subst hc
      go_enter Tryz.func159, Tryz.ntmps159
      go_wp2_with (fail)
      go_ret
      exact ⟨rfl, HB.out⟩
    · have u : ((L : Int) == 0) = false := by rw [beq_eq_false_iff_ne]; omega
      obtain rfl : V = false := by rw [hv]; exact decide_eq_false hc
      clear hv
      go_enter Tryz.func159, Tryz.ntmps159
      go_wp2_with (fail)
      go_ret
      exact ⟨rfl, HB.out⟩
  by_cases hk3 : k = 3
  · subst hk3
    obtain rfl := hEmpty (by decide)
    obtain rfl := hZero (by decide)
    have hte : s.toList = [] := by rw [ByteArray.toList_eq, hsl]
    have q2 : s.toList.isEmpty = true := by rw [hte]; rfl
    have hv : V = decide (L ≤ 6) := by rw [← HV.out, ← hL]; simp [vNode]
    rw [hss, hL]
    clear HK HV hss hsl hL hne hox hEmpty hZero
    by_cases hc : L ≤ 6
    · have u : decide ((L : Int) ≤ 6) = true := by rw [decide_eq_true_eq]; omega
      obtain rfl : V = true := by rw [hv]; exact decide_eq_true hc
      clear hv
      go_enter Tryz.func159, Tryz.ntmps159
      go_wp2_with (fail)
      go_ret
      exact ⟨rfl, HB.out⟩
    · have u : decide ((L : Int) ≤ 6) = false := by rw [decide_eq_false_iff_not]; omega
      obtain rfl : V = false := by rw [hv]; exact decide_eq_false hc
      clear hv
      go_enter Tryz.func159, Tryz.ntmps159
      go_wp2_with (fail)
      go_ret
      exact ⟨rfl, HB.out⟩
  by_cases hk4 : k = 4
  · subst hk4
    obtain rfl := hEmpty (by decide)
    obtain rfl := hZero (by decide)
    have hte : s.toList = [] := by rw [ByteArray.toList_eq, hsl]
    have q2 : s.toList.isEmpty = true := by rw [hte]; rfl
    have hv : V = decide (2 ≤ L) := by rw [← HV.out, ← hL]; simp [vNode]
    rw [hss, hL]
    clear HK HV hss hsl hL hne hox hEmpty hZero
    by_cases hc : 2 ≤ L
    · have u : decide ((2 : Int) ≤ (L : Int)) = true := by rw [decide_eq_true_eq]; omega
      obtain rfl : V = true := by rw [hv]; exact decide_eq_true hc
      clear hv
      go_enter Tryz.func159, Tryz.ntmps159
      go_wp2_with (fail)
      go_ret
      exact ⟨rfl, HB.out⟩
    · have u : decide ((2 : Int) ≤ (L : Int)) = false := by rw [decide_eq_false_iff_not]; omega
      obtain rfl : V = false := by rw [hv]; exact decide_eq_false hc
      clear hv
      go_enter Tryz.func159, Tryz.ntmps159
      go_wp2_with (fail)
      go_ret
      exact ⟨rfl, HB.out⟩
  by_cases hk5 : k = 5
  · subst hk5
    obtain rfl := hEmpty (by decide)
    have hte : s.toList = [] := by rw [ByteArray.toList_eq, hsl]
    have q2 : s.toList.isEmpty = true := by rw [hte]; rfl
    have hv : V = (decide (L = 0) && (decide (0 ≤ o) && decide (o ≤ 200))) := by rw [← HV.out, ← hL]; simp [vNode]
    rw [hss, hL]
    clear HK HV hss hsl hL hne hox hEmpty hZero
    by_cases ho0 : o = 0
    · subst ho0
      by_cases hc : L = 0
      · have u : ((L : Int) == 0) = true := by simp [hc]
        obtain rfl : V = true := by rw [hv, decide_eq_true hc]; rfl
        clear hv
        subst hc
        go_enter Tryz.func159, Tryz.ntmps159
        go_wp2_with (fail)
        go_ret
        exact ⟨rfl, HB.out⟩
      · have u : ((L : Int) == 0) = false := by rw [beq_eq_false_iff_ne]; omega
        obtain rfl : V = false := by rw [hv, decide_eq_false hc, Bool.false_and]
        clear hv
        go_enter Tryz.func159, Tryz.ntmps159
        go_wp2_with (fail)
        go_ret
        exact ⟨rfl, HB.out⟩
    have uo : (o == 0) = false := by simp [ho0]
    have uo' : (o != 0) = true := by simp [ho0]
    have Ho0 := Lib.hid ho0
    clear ho0
    by_cases hc : L = 0
    · have u : ((L : Int) == 0) = true := by simp [hc]
      by_cases h0 : 0 ≤ o
      · have u0 : decide (0 ≤ o) = true := decide_eq_true h0
        by_cases h1 : o ≤ 200
        · have u1 : decide (o ≤ 200) = true := decide_eq_true h1
          obtain rfl : V = true := by rw [hv, u0, u1, decide_eq_true hc]; rfl
          clear hv
          subst hc
          go_enter Tryz.func159, Tryz.ntmps159
          go_wp2_with (fail)
          go_ret
          exact ⟨rfl, HB.out⟩
        · have u1 : decide (o ≤ 200) = false := decide_eq_false h1
          obtain rfl : V = false := by rw [hv, u1, Bool.and_false, Bool.and_false]
          clear hv
          subst hc
          go_enter Tryz.func159, Tryz.ntmps159
          go_wp2_with (fail)
          go_ret
          exact ⟨rfl, HB.out⟩
      · have u0 : decide (0 ≤ o) = false := decide_eq_false h0
        obtain rfl : V = false := by rw [hv, u0, Bool.false_and, Bool.and_false]
        clear hv
        subst hc
        go_enter Tryz.func159, Tryz.ntmps159
        go_wp2_with (fail)
        go_ret
        exact ⟨rfl, HB.out⟩
    · have u : ((L : Int) == 0) = false := by rw [beq_eq_false_iff_ne]; omega
      obtain rfl : V = false := by rw [hv, decide_eq_false hc, Bool.false_and]
      clear hv
      go_enter Tryz.func159, Tryz.ntmps159
      go_wp2_with (fail)
      go_ret
      exact ⟨rfl, HB.out⟩
  obtain rfl := hZero hk5
  have u5 : (k == 5) = false := by simp [hk5]
  by_cases hk2 : k = 2
  · subst hk2
    have hv : V = (tyB t && (decide (L ≤ 6) && plainL kids)) := by rw [← HV.out, ← hL]; simp [vNode]
    have HT := Lib.hid (fun (V' : Bool) (h : tyB t = V') W => isTypeName_any s W (by omega) (V := V') (by rw [hsl]; exact h))
    have HP := Lib.hid (fun (V' : Bool) (h : plainL kids = V') W (hW : KT W kids A c) => by
      have := arePlain_any _ kids A c W (Nat.le_refl _) hN2 hW
      rw [h, hL] at this
      exact this)
    by_cases hte : s.toList = []
    · have q2 : s.toList.isEmpty = true := by rw [hte]; rfl
      have e0 : tyB t = false := by
        have : t = [] := by rw [← hsl, ← ByteArray.toList_eq, hte]
        rw [this]; decide
      have HT0 := Lib.hid (HT.out false e0)
      obtain rfl : V = false := by rw [hv, e0, Bool.false_and]
      rw [hss, hL]
      clear HK HV hss hsl hL hne hox hEmpty hZero hv HT HP e0
      go_enter Tryz.func159, Tryz.ntmps159
      go_wp2_with (go_at_call 185; refine (HT0.out _).mono ?_; rintro e1 w1 ⟨rfl, rfl⟩)
      go_ret
      exact ⟨rfl, HB.out⟩
    · have q2 : s.toList.isEmpty = false := by cases e : s.toList with
        | nil => exact absurd e hte
        | cons a b => rfl
      cases hT : tyB t with
      | false =>
        have HT0 := Lib.hid (HT.out false hT)
        obtain rfl : V = false := by rw [hv, hT, Bool.false_and]
        rw [hss, hL]
        clear HK HV hss hsl hL hne hox hEmpty hZero hv HT HP hT
        go_enter Tryz.func159, Tryz.ntmps159
        go_wp2_with (go_at_call 185; refine (HT0.out _).mono ?_; rintro e1 w1 ⟨rfl, rfl⟩)
        go_ret
        exact ⟨rfl, HB.out⟩
      | true =>
        have HT0 := Lib.hid (HT.out true hT)
        by_cases h6 : L ≤ 6
        · have u6 : decide ((L : Int) ≤ 6) = true := by rw [decide_eq_true_eq]; omega
          have hv' : plainL kids = V := by rw [hv, hT, decide_eq_true h6, Bool.true_and, Bool.true_and]
          have HP0 := Lib.hid (HP.out V hv')
          rw [hss, hL]
          clear HV hss hsl hL hne hox hEmpty hZero hv HT HP hT hv'
          cases V
          all_goals
            go_enter Tryz.func159, Tryz.ntmps159
            go_wp2_with (first | (go_at_call 185; refine (HT0.out _).mono ?_; rintro e1 w1 ⟨rfl, rfl⟩) | (go_at_call 160; refine (HP0.out _ HK.out).mono ?_; rintro e2 w2 ⟨rfl, hb2⟩; have HB2 := Lib.hid hb2; clear hb2))
            go_ret
            exact ⟨rfl, BH.trans HB.out HB2.out⟩
        · have u6 : decide ((L : Int) ≤ 6) = false := by rw [decide_eq_false_iff_not]; omega
          obtain rfl : V = false := by rw [hv, decide_eq_false h6, Bool.false_and, Bool.and_false]
          rw [hss, hL]
          clear HK HV hss hsl hL hne hox hEmpty hZero hv HT HP hT
          go_enter Tryz.func159, Tryz.ntmps159
          go_wp2_with (go_at_call 185; refine (HT0.out _).mono ?_; rintro e1 w1 ⟨rfl, rfl⟩)
          go_ret
          exact ⟨rfl, HB.out⟩
  obtain rfl := hEmpty hk2
  have u2 : (k == 2) = false := by simp [hk2]
  have hte : s.toList = [] := by rw [ByteArray.toList_eq, hsl]
  have q2 : s.toList.isEmpty = true := by rw [hte]; rfl
  by_cases hk6 : k = 6
  · subst hk6
    have hv : V = (decide (L = 2) && headClosed kids) := by rw [← HV.out, ← hL]; simp [vNode]
    by_cases hc : L = 2
    · cases kids with
      | nil => simp [Fo.len] at hL; omega
      | cons k1 t1 kids1 o1 r1 =>
      obtain ⟨g, off, A1, c1, rfl, hgl, y0, y1, y2, y3, hk1⟩ := HK.out.get (Suf.zero _) (Below.refl _ _)
      rw [decide_eq_true hc, Bool.true_and] at hv
      simp only [fsize] at hN2
      have hcl : ∀ W, KT W kids1 A1 c1 → Calls Tryz.prog 161 #[.agg #[.int .i64 k1, .string ⟨t1.toArray⟩, .int .i64 o1, .slice A1 kids1.len c1], .int .i64 0] W fun e w' => e = .returned (.bool V) ∧ BH W w' := fun W hW => by
        rw [hv]
        exact isClosed_any _ k1 o1 0 t1 kids1 A1 c1 W (Nat.le_refl _) (by omega) hW (by decide) (by omega)
      have HCL := Lib.hid hcl
      have HK1 := Lib.hid hk1
      have u : ((L : Int) == 2) = true := by rw [hc]; rfl
      rw [hss, hL]
      simp only [Nat.zero_mul, Nat.add_zero] at y0 y1 y2 y3
      clear HK HV hss hsl hL hne hox hEmpty hZero hv hcl hk1
      subst hc
      cases V
      all_goals
        go_enter Tryz.func159, Tryz.ntmps159
        go_wp2_with (go_at_call 161; refine (HCL.out _ HK1.out).mono ?_; rintro e2 w2 ⟨rfl, hb2⟩; have HB2 := Lib.hid hb2; clear hb2)
        go_ret
        exact ⟨rfl, BH.trans HB.out HB2.out⟩
    · have u : ((L : Int) == 2) = false := by rw [beq_eq_false_iff_ne]; omega
      obtain rfl : V = false := by rw [hv, decide_eq_false hc, Bool.false_and]
      rw [hss, hL]
      clear HK HV hss hsl hL hne hox hEmpty hZero hv
      go_enter Tryz.func159, Tryz.ntmps159
      go_wp2_with (fail)
      go_ret
      exact ⟨rfl, HB.out⟩
  · obtain rfl : V = false := by rw [← HV.out]; exact vNode_else hk0 hk1 hk2 hk3 hk4 hk5 hk6
    have u0 : (k == 0) = false := by simp [hk0]
    have u1 : (k == 1) = false := by simp [hk1]
    have u3 : (k == 3) = false := by simp [hk3]
    have u4 : (k == 4) = false := by simp [hk4]
    have u6 : (k == 6) = false := by simp [hk6]
    rw [hss, hL]
    clear HK HV hss hsl hL hne hox hEmpty hZero
    go_enter Tryz.func159, Tryz.ntmps159
    go_wp2_with (fail)
    go_ret
    exact ⟨rfl, HB.out⟩

set_option maxHeartbeats 2000000 in
theorem isValid_any (N : Nat) : ∀ (k o : Int) (t : List UInt8) (kids : Fo) (A : Option Addr) (c : Nat) (w : World), fsize kids ≤ N → fsize kids ≤ 1073741824 → KT w kids A c → t.length ≤ 1048576 → lenT kids →
    Calls Tryz.prog 130 #[.agg #[.int .i64 k, .string ⟨t.toArray⟩, .int .i64 o, .slice A kids.len c]] w fun e w' => e = .returned (.bool (validT k t o kids)) ∧ BH w w' := by
  induction N using Nat.strongRecOn with
  | ind N ih =>
  intro k o t kids A c w hN hN2 hK ht hlt
  have IH := Lib.hid ih
  have HK := Lib.hid hK
  have HLT := Lib.hid hlt
  clear ih hlt
  obtain ⟨L, hL⟩ : ∃ L, kids.len = L := ⟨_, rfl⟩
  have hlen := len_le_fsize kids
  rw [hL] at hlen
  have hVN := fun (V : Bool) (hV : vNode k t o kids = V) W (hW : KT W kids A c) => isValidNode_any k o t kids A c W hN2 hW ht hV
  rw [hL] at hVN ⊢
  have HL := Lib.hid hL
  clear hL hK
  have HX := Lib.hid (heap_alloc_new w (.cells #[.int .i64 k, .string ⟨t.toArray⟩, .int .i64 o, .slice A L c] 34 (0, 0)))
  have B1 : BH w (w.alloc (.cells #[.int .i64 k, .string ⟨t.toArray⟩, .int .i64 o, .slice A L c] 34 (0, 0))) := (Below.refl _ _).alloc (Nat.le_refl _) _
  have HB := Lib.hid B1
  have HKb := Lib.hid (HK.out.below (show Below w.heap.size w _ from B1))
  clear B1
  obtain ⟨b0, b1, b2, b3⟩ := box4 w (.int .i64 k) (.string ⟨t.toArray⟩) (.int .i64 o) (.slice A L c) 34
  cases hv : vNode k t o kids with
  | false =>
    have HV := Lib.hid (hVN false hv)
    rw [show validT k t o kids = false from by rw [validT, hv, Bool.false_and]]
    clear hVN hv
    go_enter Tryz.func130, Tryz.ntmps130
    go_wp2_with (fail)
    refine (HV.out _ HKb.out).mono ?_
    rintro e w1 ⟨rfl, hb⟩
    have HB1 := Lib.hid hb
    clear hb
    go_wp2_with (fail)
    go_ret
    exact ⟨rfl, BH.trans HB.out HB1.out⟩
  | true =>
    have HV := Lib.hid (hVN true hv)
    rw [show validT k t o kids = validTL kids from by rw [validT, hv, Bool.true_and]]
    obtain ⟨V, hVV⟩ : ∃ V, validTL kids = V := ⟨_, rfl⟩
    rw [hVV]
    have HVV := Lib.hid hVV
    clear hVN hv hVV
    go_enter Tryz.func130, Tryz.ntmps130
    go_wp2_with (fail)
    refine (HV.out _ HKb.out).mono ?_
    rintro e w1 ⟨rfl, hb⟩
    have hX1 := (Below.block hb w.heap.size (by simp)).trans HX.out
    have hbw : BH w w1 := BH.trans HB.out hb
    have HBW := Lib.hid hbw
    clear hb b0 b1 b2 b3 hbw
    obtain ⟨b0, b1, b2, b3, _⟩ := row4 hX1
    clear hX1
    go_wp2_with (fail)
    go_loopw [2, 4, 11] (fun _ _ iv wr => ∃ (i : Nat) (r : Fo), iv = .int .i64 (i : Int) ∧ Suf i r kids ∧ validTL r = V ∧ lenT r ∧ BH w wr) (fun _ _ iv _ => L - (match iv with | .int _ n => n.toNat | _ => 0))
    case atStart => exact ⟨0, kids, rfl, Suf.zero _, HVV.out, HLT.out, HBW.out⟩
    case round =>
      obtain ⟨i, r, rfl, hsuf, hcl, hlt, hbel⟩ := hrel
      have hlen' := hsuf.len
      rw [HL.out] at hlen'
      have hbs := Below.size hbel
      clear b0 b1 b2 b3
      cases r with
      | nil =>
        simp only [Fo.len] at hlen'
        have hge : decide (i < L) = false := by rw [decide_eq_false_iff_not]; omega
        have HN := Lib.hid hcl
        have HB := Lib.hid hbel
        clear hcl hlen' hbel hsuf hlt
        go_wp2_with (fail)
        go_ret
        exact ⟨congrArg (fun z : Bool => Ending.returned (.bool z)) HN.out, HB.out⟩
      | cons k1 t1 kids1 o1 r1 =>
        obtain ⟨g, off, A1, c1, rfl, hgl, q0, q1, q2, q3, hk1⟩ := HK.out.get hsuf hbel
        obtain ⟨hkid, hil⟩ := hsuf.kid
        rw [HL.out] at hil
        have hge : decide ((i : Int) < (L : Int)) = true := by rw [decide_eq_true_eq]; omega
        have hiL : (i : Int) < (L : Int) := by omega
        have hi0 : (0 : Int) ≤ (i : Int) := by omega
        have hne : ¬ g = wr.heap.size := by omega
        rw [validTL_cons] at hcl
        have HC := Lib.hid hcl
        have HS := Lib.hid hsuf
        have HLt := Lib.hid hlt
        have B1 : BH w (wr.alloc (.cells #[.int .i64 k1, .string ⟨t1.toArray⟩, .int .i64 o1, .slice A1 kids1.len c1] 34 (0, 0))) := Below.alloc hbel hbs _
        have HB1 := Lib.hid B1
        have HK1 := Lib.hid (hk1.below (show Below w.heap.size w _ from B1))
        obtain ⟨p0, p1, p2, p3⟩ := box4 wr (.int .i64 k1) (.string ⟨t1.toArray⟩) (.int .i64 o1) (.slice A1 kids1.len c1) 34
        obtain ⟨V1, hV1⟩ : ∃ V1, validT k1 t1 o1 kids1 = V1 := ⟨_, rfl⟩
        have HV1 := Lib.hid hV1
        clear hk1 hcl hsuf B1 hbel hlen' hV1 hlt
        go_wp2_with (fail)
        refine (IH.out (fsize kids1) (by omega) k1 o1 t1 kids1 A1 c1 _ (Nat.le_refl _) (by omega) HK1.out HLt.out.1 HLt.out.2.1).mono ?_
        rintro e1 w1' ⟨rfl, hb1⟩
        have HB2 := Lib.hid hb1
        rw [HV1.out]
        clear hb1
        cases V1 with
        | true =>
          go_wp2_with (fail)
          exact ⟨⟨i + 1, r1, rfl, HS.out.next, by have h := HC.out; rw [HV1.out, Bool.true_and] at h; exact h, HLt.out.2.2, BH.trans HB1.out HB2.out⟩, by simp; omega⟩
        | false =>
          go_wp2_with (fail)
          go_ret
          exact ⟨congrArg (fun z : Bool => Ending.returned (.bool z)) (by have h := HC.out; rw [HV1.out, Bool.false_and] at h; exact h), BH.trans HB1.out HB2.out⟩

set_option maxHeartbeats 1000000 in
set_option maxRecDepth 100000 in
theorem validate_any (k o : Int) (t : List UInt8) (kids : Fo) (A : Option Addr) (c : Nat) (w : World) (hN2 : fsize kids ≤ 1073741824) (hK : KT w kids A c) (ht : t.length ≤ 1048576) (hlt : lenT kids) :
    Calls Tryz.prog 108 #[.agg #[.int .i64 k, .string ⟨t.toArray⟩, .int .i64 o, .slice A kids.len c]] w fun e w' => e = .returned (.int .i64 (validV k t o kids)) ∧ BH w w' := by
  have B1 : BH w (w.alloc (.cells #[.int .i64 k, .string ⟨t.toArray⟩, .int .i64 o, .slice A kids.len c] 34 (0, 0))) := (Below.refl _ _).alloc (Nat.le_refl _) _
  have HB := Lib.hid B1
  have HX := Lib.hid (heap_alloc_new w (.cells #[.int .i64 k, .string ⟨t.toArray⟩, .int .i64 o, .slice A kids.len c] 34 (0, 0)))
  have HK := Lib.hid (hK.below B1)
  have HLT := Lib.hid hlt
  clear B1 hK hlt
  obtain ⟨b0, b1, b2, b3⟩ := box4 w (.int .i64 k) (.string ⟨t.toArray⟩) (.int .i64 o) (.slice A kids.len c) 34
  obtain ⟨x, hx⟩ : ∃ x : Int, spendV 200 12 kids = x := ⟨_, rfl⟩
  have Hx := Lib.hid hx
  clear hx
  by_cases h0 : x < 0
  · have t1 : decide (x < 0) = true := decide_eq_true h0
    rw [show validV k t o kids = 4 from by rw [validV, Hx.out, if_pos h0]]
    go_enter Tryz.func108, Tryz.ntmps108
    go_wp2_with (fail)
    refine (spend_any _ k o 200 12 t kids A c _ (Nat.le_refl _) hN2 HK.out (by decide) (by decide) (by decide) (by decide)).mono ?_
    rintro e w1 ⟨rfl, hb⟩
    rw [Hx.out]
    have HB1 := Lib.hid hb
    clear hb
    go_wp2_with (fail)
    go_ret
    exact ⟨rfl, BH.trans HB.out HB1.out⟩
  · have t1 : decide (x < 0) = false := decide_eq_false h0
    obtain ⟨V, hV⟩ : ∃ V, validT k t o kids = V := ⟨_, rfl⟩
    have hvv : validV k t o kids = if V = true then 0 else 2 := by rw [validV, Hx.out, if_neg h0, hV]
    rw [hvv]
    have HV := Lib.hid hV
    clear hV hvv
    go_enter Tryz.func108, Tryz.ntmps108
    go_wp2_with (fail)
    refine (spend_any _ k o 200 12 t kids A c _ (Nat.le_refl _) hN2 HK.out (by decide) (by decide) (by decide) (by decide)).mono ?_
    rintro e w1 ⟨rfl, hb⟩
    rw [Hx.out]
    have HB1 := Lib.hid hb
    have hX1 := (Below.block hb w.heap.size (by simp)).trans HX.out
    clear hb b0 b1 b2 b3
    obtain ⟨b0, b1, b2, b3, _⟩ := row4 hX1
    clear hX1
    go_wp2_with (fail)
    refine (isValid_any _ k o t kids A c _ (Nat.le_refl _) hN2 (HK.out.below HB1.out) ht HLT.out).mono ?_
    rintro e w2 ⟨rfl, hb⟩
    rw [HV.out]
    have HB2 := Lib.hid hb
    clear hb
    cases V
    all_goals
      go_wp2_with (fail)
      go_ret
      exact ⟨rfl, BH.trans HB.out (BH.trans HB1.out HB2.out)⟩
end Go.Proofs.YtpkiheenkpcebaaGreatDoor
namespace Go.Proofs.YtpkiheenkpcebaaGreatDoor.Sx
structure De where
  name : List UInt8
  arity : Int
  super : Tm
  conc : Bool
  fields : List (List UInt8 × Tm)
end Go.Proofs.YtpkiheenkpcebaaGreatDoor.Sx
namespace Go.Proofs.YtpkiheenkpcebaaGreatDoor
open Go.RowKit Sx

/-- v is the term x -/
def TmV (w : World) (v : Value) (x : Tm) : Prop := ∃ A c, v = .agg #[.int .i64 x.k, .string ⟨x.t.toArray⟩, .int .i64 x.o, .slice A x.kids.len c] ∧ KT w x.kids A c
/-- v is a slice of terms -/
def SlV (w : World) (v : Value) (f : Fo) : Prop := ∃ A c, v = .slice A f.len c ∧ KT w f A c
def FieldV (w : World) (v : Value) (n : List UInt8) (x : Tm) : Prop := ∃ A c, v = .agg #[.string ⟨n.toArray⟩, .int .i64 x.k, .string ⟨x.t.toArray⟩, .int .i64 x.o, .slice A x.kids.len c] ∧ KT w x.kids A c
/-- five cells of a field -/
def FieldC (w : World) (g off : Nat) (n : List UInt8) (x : Tm) : Prop :=
  ∃ A c, w.cell? ⟨g, off, none⟩ = some (.string ⟨n.toArray⟩) ∧ w.cell? ⟨g, off + 1, none⟩ = some (.int .i64 x.k) ∧ w.cell? ⟨g, off + 2, none⟩ = some (.string ⟨x.t.toArray⟩) ∧ w.cell? ⟨g, off + 3, none⟩ = some (.int .i64 x.o) ∧ w.cell? ⟨g, off + 4, none⟩ = some (.slice A x.kids.len c) ∧ KT w x.kids A c
/-- a slice of fields -/
def FldsV (w : World) (A : Option Addr) (c : Nat) (fs : List (List UInt8 × Tm)) : Prop :=
  fs.length ≤ c ∧ (0 < fs.length → ∃ g off : Nat, A = some ⟨g, off, none⟩ ∧ g < w.heap.size ∧ ∀ j n x, fs[j]? = some (n, x) → FieldC w g (off + j * 5) n x)
def DeclV (w : World) (v : Value) (d : De) : Prop :=
  ∃ A c A' c', v = .agg #[.string ⟨d.name.toArray⟩, .int .i64 d.arity, .int .i64 d.super.k, .string ⟨d.super.t.toArray⟩, .int .i64 d.super.o, .slice A d.super.kids.len c, .bool d.conc, .slice A' d.fields.length c'] ∧ KT w d.super.kids A c ∧ FldsV w A' c' d.fields
/-- eight cells of a declaration -/
def DeclC (w : World) (g off : Nat) (d : De) : Prop :=
  ∃ A c A' c', w.cell? ⟨g, off, none⟩ = some (.string ⟨d.name.toArray⟩) ∧ w.cell? ⟨g, off + 1, none⟩ = some (.int .i64 d.arity) ∧
    w.cell? ⟨g, off + 2, none⟩ = some (.int .i64 d.super.k) ∧ w.cell? ⟨g, off + 3, none⟩ = some (.string ⟨d.super.t.toArray⟩) ∧ w.cell? ⟨g, off + 4, none⟩ = some (.int .i64 d.super.o) ∧ w.cell? ⟨g, off + 5, none⟩ = some (.slice A d.super.kids.len c) ∧ KT w d.super.kids A c ∧
    w.cell? ⟨g, off + 6, none⟩ = some (.bool d.conc) ∧ w.cell? ⟨g, off + 7, none⟩ = some (.slice A' d.fields.length c') ∧ FldsV w A' c' d.fields
def DclsV (w : World) (A : Option Addr) (c : Nat) (ds : List De) : Prop :=
  ds.length ≤ c ∧ (0 < ds.length → ∃ g off : Nat, A = some ⟨g, off, none⟩ ∧ g < w.heap.size ∧ ∀ j d, ds[j]? = some d → DeclC w g (off + j * 8) d)

section
variable {w w' : World} (hb : BH w w')
include hb
theorem TmV.bh {v : Value} {x : Tm} (h : TmV w v x) : TmV w' v x := by
  obtain ⟨A, c, e, hk⟩ := h
  exact ⟨A, c, e, hk.below hb⟩
theorem SlV.bh {v : Value} {f : Fo} (h : SlV w v f) : SlV w' v f := by
  obtain ⟨A, c, e, hk⟩ := h
  exact ⟨A, c, e, hk.below hb⟩
theorem FieldV.bh {v : Value} {n : List UInt8} {x : Tm} (h : FieldV w v n x) : FieldV w' v n x := by
  obtain ⟨A, c, e, hk⟩ := h
  exact ⟨A, c, e, hk.below hb⟩
theorem FieldC.bh {g off : Nat} {n : List UInt8} {x : Tm} (h : FieldC w g off n x) : FieldC w' g off n x := by
  obtain ⟨A, c, h1, h2, h3, h4, h5, hk⟩ := h
  exact ⟨A, c, BH.cell hb h1, BH.cell hb h2, BH.cell hb h3, BH.cell hb h4, BH.cell hb h5, hk.below hb⟩
theorem FldsV.bh {A : Option Addr} {c : Nat} {fs : List (List UInt8 × Tm)} (h : FldsV w A c fs) : FldsV w' A c fs :=
  ⟨h.1, fun hn => by
    obtain ⟨g, off, e, hg, hc⟩ := h.2 hn
    exact ⟨g, off, e, Nat.lt_of_lt_of_le hg (Below.size hb), fun j n x hj => FieldC.bh hb (hc j n x hj)⟩⟩
theorem DeclV.bh {v : Value} {d : De} (h : DeclV w v d) : DeclV w' v d := by
  obtain ⟨A, c, A', c', e, hu, hf⟩ := h
  exact ⟨A, c, A', c', e, hu.below hb, FldsV.bh hb hf⟩
theorem DeclC.bh {g off : Nat} {d : De} (h : DeclC w g off d) : DeclC w' g off d := by
  obtain ⟨A, c, A', c', h1, h2, h3, h4, h5, h6, hk, h7, h8, hf⟩ := h
  exact ⟨A, c, A', c', BH.cell hb h1, BH.cell hb h2, BH.cell hb h3, BH.cell hb h4, BH.cell hb h5, BH.cell hb h6, hk.below hb, BH.cell hb h7, BH.cell hb h8, FldsV.bh hb hf⟩
theorem DclsV.bh {A : Option Addr} {c : Nat} {ds : List De} (h : DclsV w A c ds) : DclsV w' A c ds :=
  ⟨h.1, fun hn => by
    obtain ⟨g, off, e, hg, hc⟩ := h.2 hn
    exact ⟨g, off, e, Nat.lt_of_lt_of_le hg (Below.size hb), fun j d hj => DeclC.bh hb (hc j d hj)⟩⟩
end
end Go.Proofs.YtpkiheenkpcebaaGreatDoor
namespace Go.Proofs.YtpkiheenkpcebaaGreatDoor
open Go.RowKit Sx

theorem s4 {w : World} {N : Nat} {t : TypeId} {x y z u : Value} (h : w.heap[N]? = some (.cells #[x, y, z, u] t (0, 0))) (a b c d : Value) :
    ((((w.setCell ⟨N, 0, none⟩ a).setCell ⟨N, 1, none⟩ b).setCell ⟨N, 2, none⟩ c).setCell ⟨N, 3, none⟩ d).heap[N]? = some (.cells #[a, b, c, d] t (0, 0)) := by
  have h0 := heap_set (i := 0) h a
  have h1 := heap_set (i := 1) h0 b
  have h2 := heap_set (i := 2) h1 c
  exact heap_set (i := 3) h2 d
theorem s4_far {w : World} {N x : Nat} (hx : x ≠ N) (a b c d : Value) :
    ((((w.setCell ⟨N, 0, none⟩ a).setCell ⟨N, 1, none⟩ b).setCell ⟨N, 2, none⟩ c).setCell ⟨N, 3, none⟩ d).heap[x]? = w.heap[x]? :=
  (heap_far (p := ⟨N, 3, none⟩) hx d).trans ((heap_far (p := ⟨N, 2, none⟩) hx c).trans ((heap_far (p := ⟨N, 1, none⟩) hx b).trans (heap_far (p := ⟨N, 0, none⟩) hx a)))
theorem s4_gb {w0 w : World} {b N : Nat} (h : w0.grownBy w (some b)) (hN : w0.heap.size ≤ N) (x y z u : Value) :
    w0.grownBy ((((w.setCell ⟨N, 0, none⟩ x).setCell ⟨N, 1, none⟩ y).setCell ⟨N, 2, none⟩ z).setCell ⟨N, 3, none⟩ u) (some b) := by
  refine gb_setCell ?_ (.inr hN) _
  refine gb_setCell ?_ (.inr hN) _
  refine gb_setCell ?_ (.inr hN) _
  exact gb_setCell h (.inr hN) _

theorem reads_nil (w : World) (S : Nat → Prop) : readsAt w S none 0 [] := fun h => absurd h (by omega)

theorem infoTg : (Tryz.prog.info? 34).map (fun i => (i.zero, i.size, i.bytes)) = some (some (.agg #[.int .i64 0, .string ⟨#[]⟩, .int .i64 0, .slice none 0 0]), 4, 56) := by kernel_rfl

end Go.Proofs.YtpkiheenkpcebaaGreatDoor
