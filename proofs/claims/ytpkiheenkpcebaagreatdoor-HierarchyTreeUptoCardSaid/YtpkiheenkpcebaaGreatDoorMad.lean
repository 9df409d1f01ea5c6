/- typeterm.spend, arePlain, IsPlain. No condition but a bounded size. The program's IsIdent and isTypeName at every string. No condition but a bounded length. -/
import Derived.Test.YtpkiheenkpcebaaGreatDoorMab
import Derived.Test.YtpkiheenkpcebaaGreatDoorMaa
set_option linter.unusedVariables false
set_option linter.unusedSimpArgs false
namespace Go.Proofs.YtpkiheenkpcebaaGreatDoor.Sx
/-- what the nodes of a term leave of so many, or -1 -/
def spendV (nodes levels : Int) (kids : Fo) : Int := if (fsize kids : Int) + 1 ≤ nodes ∧ (depT kids : Int) + 1 ≤ levels then nodes - 1 - fsize kids else -1
theorem depT_app (f g : Fo) : depT (f.app g) = max (depT f) (depT g) := by
  induction f with
  | nil => simp [Fo.app, depT]
  | cons k t kids o r _ ih => simp only [Fo.app, depT, ih]; omega
/-- may the terms be arguments of a nominal type -/
def plainL : Fo → Bool
  | .nil => true
  | .cons k _ kids o rest => (if k = 5 then true else if k = 2 then plainL kids else closed1 k o kids 0) && plainL rest
def plain1 (k o : Int) (kids : Fo) : Bool := if k = 5 then true else if k = 2 then plainL kids else closed1 k o kids 0
theorem plainL_cons (k : Int) (t : List UInt8) (kids : Fo) (o : Int) (rest : Fo) : plainL (.cons k t kids o rest) = (plain1 k o kids && plainL rest) := rfl
end Go.Proofs.YtpkiheenkpcebaaGreatDoor.Sx
namespace Go.Proofs.YtpkiheenkpcebaaGreatDoor
open Go.RowKit Sx

theorem Suf.dep {i : Nat} {r f : Fo} (h : Suf i r f) : depT r ≤ depT f := by
  obtain ⟨pre, rfl, rfl⟩ := h
  rw [depT_app]; omega

set_option maxHeartbeats 2000000 in
theorem spend_any (N : Nat) : ∀ (k o nodes levels : Int) (t : List UInt8) (kids : Fo) (A : Option Addr) (c : Nat) (w : World), fsize kids ≤ N → fsize kids ≤ 1073741824 → KT w kids A c → 0 ≤ nodes → nodes ≤ 1048576 → 0 ≤ levels → levels ≤ 1048576 →
    Calls Tryz.prog 129 #[.agg #[.int .i64 k, .string ⟨t.toArray⟩, .int .i64 o, .slice A kids.len c], .int .i64 nodes, .int .i64 levels] w fun e w' => e = .returned (.int .i64 (spendV nodes levels kids)) ∧ BH w w' := by
  induction N using Nat.strongRecOn with
  | ind N ih =>
  intro k o nodes levels t kids A c w hN hN2 hK hn0 hn1 hv0 hv1
  have IH := Lib.hid ih
  have HK := Lib.hid hK
  clear ih hK
  have hlen := len_le_fsize kids
  obtain ⟨L, hL⟩ : ∃ L, kids.len = L := ⟨_, rfl⟩
  rw [hL] at hlen ⊢
  have HL := Lib.hid hL
  clear hL
  obtain ⟨b0, b1, b2, b3⟩ := box4 w (.int .i64 k) (.string ⟨t.toArray⟩) (.int .i64 o) (.slice A L c) 34
  have B1 : BH w (w.alloc (.cells #[.int .i64 k, .string ⟨t.toArray⟩, .int .i64 o, .slice A L c] 34 (0, 0))) := (Below.refl _ _).alloc (Nat.le_refl _) _
  have HB := Lib.hid B1
  clear B1
  by_cases hz : nodes = 0
  · rw [show spendV nodes levels kids = -1 from by unfold spendV; rw [if_neg (by omega)]]
    subst hz
    go_enter Tryz.func129, Tryz.ntmps129
    go_wp2_with (fail)
    go_ret
    exact ⟨rfl, HB.out⟩
  have t1 : (nodes == 0) = false := by rw [beq_eq_false_iff_ne]; exact hz
  by_cases hz2 : levels = 0
  · rw [show spendV nodes levels kids = -1 from by unfold spendV; rw [if_neg (by omega)]]
    subst hz2
    go_enter Tryz.func129, Tryz.ntmps129
    go_wp2_with (fail)
    go_ret
    exact ⟨rfl, HB.out⟩
  have t2 : (levels == 0) = false := by rw [beq_eq_false_iff_ne]; exact hz2
  have hn2 : 1 ≤ nodes := by omega
  have hv2 : 1 ≤ levels := by omega
  have Hz := Lib.hid hz
  have Hz2 := Lib.hid hz2
  clear hz hz2
  obtain ⟨V, hV⟩ : ∃ V, spendV nodes levels kids = V := ⟨_, rfl⟩
  rw [hV]
  have HV := Lib.hid hV
  clear hV
  go_enter Tryz.func129, Tryz.ntmps129
  go_wp2_with (fail)
  go_loopw [1, 6, 8, 20] (fun mv _ _ iv wr => ∃ (m : Int) (i : Nat) (r : Fo), mv = .int .i64 m ∧ iv = .int .i64 (i : Int) ∧ Suf i r kids ∧ 0 ≤ m ∧ m ≤ 1048576 ∧ m + fsize kids = nodes - 1 + fsize r ∧ ((depT r : Int) + 1 ≤ levels → (depT kids : Int) + 1 ≤ levels) ∧ BH w wr) (fun _ _ _ iv _ => L - (match iv with | .int _ n => n.toNat | _ => 0))
  case atStart => exact ⟨nodes - 1, 0, kids, rfl, rfl, Suf.zero _, by omega, by omega, by omega, id, HB.out⟩
  case round =>
    obtain ⟨m, i, r, rfl, rfl, hsuf, hm0, hm1, hm, hd, hbel⟩ := hrel
    have hlen' := hsuf.len
    rw [HL.out] at hlen'
    have hbs := Below.size hbel
    cases r with
    | nil =>
      simp only [Fo.len, fsize, depT] at hlen' hm hd
      have hge : decide (i < L) = false := by rw [decide_eq_false_iff_not]; omega
      have hres : V = m := by
        rw [← HV.out]
        unfold spendV
        rw [if_pos ⟨by omega, hd (by omega)⟩]
        omega
      have HR := Lib.hid hres
      have HB' := Lib.hid hbel
      clear hm hd hlen' hbel hsuf hres b0 b1 b2 b3
      go_wp2_with (fail)
      go_ret
      exact ⟨congrArg (fun z : Int => Ending.returned (.int .i64 z)) HR.out.symm, HB'.out⟩
    | cons k1 t1' kids1 o1 r1 =>
      obtain ⟨g, off, A1, c1, rfl, hgl, q0, q1, q2, q3, hk1⟩ := HK.out.get hsuf hbel
      obtain ⟨hkid, hil⟩ := hsuf.kid
      have hdep := hsuf.dep
      rw [HL.out] at hil
      simp only [fsize, depT] at hm hd hdep
      have hge : decide ((i : Int) < (L : Int)) = true := by rw [decide_eq_true_eq]; omega
      have hiL : (i : Int) < (L : Int) := by omega
      have hi0 : (0 : Int) ≤ (i : Int) := by omega
      have hne : ¬ g = wr.heap.size := by omega
      have B1 : BH w (wr.alloc (.cells #[.int .i64 k1, .string ⟨t1'.toArray⟩, .int .i64 o1, .slice A1 kids1.len c1] 34 (0, 0))) := Below.alloc hbel hbs _
      have HB1 := Lib.hid B1
      have HK1 := Lib.hid (hk1.below (BH.trans hbel ((Below.refl _ _).alloc (Nat.le_refl _) _) : BH w (wr.alloc (.cells #[.int .i64 k1, .string ⟨t1'.toArray⟩, .int .i64 o1, .slice A1 kids1.len c1] 34 (0, 0)))))
      have HS := Lib.hid hsuf
      obtain ⟨p0, p1, p2, p3⟩ := box4 wr (.int .i64 k1) (.string ⟨t1'.toArray⟩) (.int .i64 o1) (.slice A1 kids1.len c1) 34
      have Hm := Lib.hid hm
      have Hd := Lib.hid hd
      have Hdep := Lib.hid hdep
      clear hk1 B1 hsuf hbel b0 b1 b2 b3 hm hd hdep hlen'
      go_wp2_with (fail)
      refine (IH.out (fsize kids1) (by omega) k1 o1 m (levels - 1) t1' kids1 A1 c1 _ (Nat.le_refl _) (by omega) HK1.out (by omega) (by omega) (by omega) (by omega)).mono ?_
      rintro e1 w1 ⟨rfl, hb1⟩
      have HB2 := Lib.hid hb1
      clear hb1
      by_cases hok : (fsize kids1 : Int) + 1 ≤ m ∧ (depT kids1 : Int) + 1 ≤ levels - 1
      · rw [show spendV m (levels - 1) kids1 = m - 1 - fsize kids1 from if_pos hok]
        have hx0 : 0 ≤ m - 1 - (fsize kids1 : Int) := by omega
        have t3 : decide (m - 1 - (fsize kids1 : Int) < 0) = false := by rw [decide_eq_false_iff_not]; omega
        obtain ⟨x, hx⟩ : ∃ x : Int, m - 1 - (fsize kids1 : Int) = x := ⟨_, rfl⟩
        rw [hx] at t3 hx0 ⊢
        have Hx := Lib.hid hx
        have Hok := Lib.hid hok
        clear hx hok
        go_wp2_with (fail)
        have hx := Hx.out
        have hok := Hok.out
        have hm := Hm.out
        have hd := Hd.out
        exact ⟨⟨x, i + 1, r1, rfl, rfl, HS.out.next, by omega, by omega, by omega, fun h => hd (by omega), BH.trans HB1.out HB2.out⟩, by simp; omega⟩
      · rw [show spendV m (levels - 1) kids1 = -1 from if_neg hok]
        have hres : V = -1 := by
          rw [← HV.out]
          unfold spendV
          have hm := Hm.out
          have hdep := Hdep.out
          rw [if_neg (by omega)]
        have HR := Lib.hid hres
        clear hok hres
        go_wp2_with (fail)
        go_ret
        exact ⟨congrArg (fun z : Int => Ending.returned (.int .i64 z)) HR.out.symm, BH.trans HB1.out HB2.out⟩

/-- IsPlain, once arePlain is known of the arguments -/
theorem isPlain_of (k o : Int) (t : List UInt8) (kids : Fo) (A : Option Addr) (c : Nat) (w : World) (hN2 : fsize kids ≤ 1073741824) (hK : KT w kids A c)
    (hAP : ∀ W, KT W kids A c → Calls Tryz.prog 160 #[.slice A kids.len c] W fun e w' => e = .returned (.bool (plainL kids)) ∧ BH W w') :
    Calls Tryz.prog 131 #[.agg #[.int .i64 k, .string ⟨t.toArray⟩, .int .i64 o, .slice A kids.len c]] w fun e w' => e = .returned (.bool (plain1 k o kids)) ∧ BH w w' := by
  obtain ⟨b0, b1, b2, b3⟩ := box4 w (.int .i64 k) (.string ⟨t.toArray⟩) (.int .i64 o) (.slice A kids.len c) 34
  have B1 : BH w (w.alloc (.cells #[.int .i64 k, .string ⟨t.toArray⟩, .int .i64 o, .slice A kids.len c] 34 (0, 0))) := (Below.refl _ _).alloc (Nat.le_refl _) _
  have HB := Lib.hid B1
  have HK := Lib.hid (hK.below B1)
  have HA := Lib.hid hAP
  clear B1 hK hAP
  by_cases h5 : k = 5
  · subst h5
    rw [show plain1 5 o kids = true from rfl]
    go_enter Tryz.func131, Tryz.ntmps131
    go_wp2_with (fail)
    go_ret
    exact ⟨rfl, HB.out⟩
  have t5 : (k == 5) = false := by simp [h5]
  by_cases h2 : k = 2
  · subst h2
    rw [show plain1 2 o kids = plainL kids from rfl]
    go_enter Tryz.func131, Tryz.ntmps131
    go_wp2_with (fail)
    refine (HA.out _ HK.out).mono ?_
    rintro e w1 ⟨rfl, hb⟩
    have HB2 := Lib.hid hb
    clear hb
    go_wp2_with (fail)
    go_ret
    exact ⟨rfl, BH.trans HB.out HB2.out⟩
  · have t2 : (k == 2) = false := by simp [h2]
    rw [show plain1 k o kids = closed1 k o kids 0 from by simp [plain1, h5, h2]]
    go_enter Tryz.func131, Tryz.ntmps131
    go_wp2_with (fail)
    refine (isClosed_any _ k o 0 t kids A c _ (Nat.le_refl _) hN2 HK.out (by decide) (by omega)).mono ?_
    rintro e w1 ⟨rfl, hb⟩
    have HB2 := Lib.hid hb
    clear hb
    go_wp2_with (fail)
    go_ret
    exact ⟨rfl, BH.trans HB.out HB2.out⟩

set_option maxHeartbeats 2000000 in
theorem arePlain_any (N : Nat) : ∀ (kids : Fo) (A : Option Addr) (c : Nat) (w : World), fsize kids ≤ N → fsize kids ≤ 1073741824 → KT w kids A c →
    Calls Tryz.prog 160 #[.slice A kids.len c] w fun e w' => e = .returned (.bool (plainL kids)) ∧ BH w w' := by
  induction N using Nat.strongRecOn with
  | ind N ih =>
  intro kids A c w hN hN2 hK
  have IH := Lib.hid ih
  have HK := Lib.hid hK
  clear ih hK
  have hlen := len_le_fsize kids
  obtain ⟨L, hL⟩ : ∃ L, kids.len = L := ⟨_, rfl⟩
  rw [hL] at hlen ⊢
  have HL := Lib.hid hL
  clear hL
  obtain ⟨V, hV⟩ : ∃ V, plainL kids = V := ⟨_, rfl⟩
  rw [hV]
  have HV := Lib.hid hV
  clear hV
  go_enter Tryz.func160, Tryz.ntmps160
  go_wp2_with (fail)
  go_loopw [2, 4, 7] (fun _ _ iv wr => ∃ (i : Nat) (r : Fo), iv = .int .i64 (i : Int) ∧ Suf i r kids ∧ plainL r = V ∧ BH w wr) (fun _ _ iv _ => L - (match iv with | .int _ n => n.toNat | _ => 0))
  case atStart => exact ⟨0, kids, rfl, Suf.zero _, HV.out, BH.refl _⟩
  case round =>
    obtain ⟨i, r, rfl, hsuf, hcl, hbel⟩ := hrel
    have hlen' := hsuf.len
    rw [HL.out] at hlen'
    have hbs := Below.size hbel
    cases r with
    | nil =>
      simp only [Fo.len] at hlen'
      have hge : decide (i < L) = false := by rw [decide_eq_false_iff_not]; omega
      have HN := Lib.hid hcl
      have HB := Lib.hid hbel
      clear hcl hlen' hbel hsuf
      go_wp2_with (fail)
      go_ret
      exact ⟨congrArg (fun z : Bool => Ending.returned (.bool z)) HN.out, HB.out⟩
    | cons k1 t1 kids1 o1 r1 =>
      obtain ⟨g, off, A1, c1, rfl, hgl, q0, q1, q2, q3, hk1⟩ := HK.out.get hsuf hbel
      obtain ⟨hkid, hil⟩ := hsuf.kid
      rw [HL.out] at hil
      have hge : decide ((i : Int) < (L : Int)) = true := by rw [decide_eq_true_eq]; omega
      have hiL : (i : Int) < (L : Int) := by omega
      have hi0 : (0 : Int) ≤ (i : Int) := by omega
      have hne : ¬ g = wr.heap.size := by omega
      rw [plainL_cons] at hcl
      have HC := Lib.hid hcl
      have HS := Lib.hid hsuf
      have B1 : BH w (wr.alloc (.cells #[.int .i64 k1, .string ⟨t1.toArray⟩, .int .i64 o1, .slice A1 kids1.len c1] 34 (0, 0))) := Below.alloc hbel hbs _
      have HB1 := Lib.hid B1
      have HK1 := Lib.hid (hk1.below (show Below w.heap.size w _ from B1))
      obtain ⟨p0, p1, p2, p3⟩ := box4 wr (.int .i64 k1) (.string ⟨t1.toArray⟩) (.int .i64 o1) (.slice A1 kids1.len c1) 34
      obtain ⟨V1, hV1⟩ : ∃ V1, plain1 k1 o1 kids1 = V1 := ⟨_, rfl⟩
      have hIP : ∀ X, KT X kids1 A1 c1 → Calls Tryz.prog 131 #[.agg #[.int .i64 k1, .string ⟨t1.toArray⟩, .int .i64 o1, .slice A1 kids1.len c1]] X fun e u => e = .returned (.bool V1) ∧ BH X u := fun X hX => by
        rw [← hV1]
        exact isPlain_of k1 o1 t1 kids1 A1 c1 X (by omega) hX fun W hW => IH.out (fsize kids1) (by omega) kids1 A1 c1 W (Nat.le_refl _) (by omega) hW
      have HIP := Lib.hid hIP
      have HV1 := Lib.hid hV1
      clear hk1 hcl hsuf B1 hbel hlen' hIP hV1
      go_wp2_with (fail)
      refine (HIP.out _ HK1.out).mono ?_
      rintro e1 w1 ⟨rfl, hb1⟩
      have HB2 := Lib.hid hb1
      clear hb1
      cases V1 with
      | true =>
        go_wp2_with (fail)
        exact ⟨⟨i + 1, r1, rfl, HS.out.next, by have h := HC.out; rw [HV1.out, Bool.true_and] at h; exact h, BH.trans HB1.out HB2.out⟩, by simp; omega⟩
      | false =>
        go_wp2_with (fail)
        go_ret
        exact ⟨congrArg (fun z : Bool => Ending.returned (.bool z)) (by have h := HC.out; rw [HV1.out, Bool.false_and] at h; exact h), BH.trans HB1.out HB2.out⟩
theorem isPlain_any (k o : Int) (t : List UInt8) (kids : Fo) (A : Option Addr) (c : Nat) (w : World) (hN2 : fsize kids ≤ 1073741824) (hK : KT w kids A c) :
    Calls Tryz.prog 131 #[.agg #[.int .i64 k, .string ⟨t.toArray⟩, .int .i64 o, .slice A kids.len c]] w fun e w' => e = .returned (.bool (plain1 k o kids)) ∧ BH w w' :=
  isPlain_of k o t kids A c w hN2 hK fun W hW => arePlain_any _ kids A c W (Nat.le_refl _) hN2 hW
end Go.Proofs.YtpkiheenkpcebaaGreatDoor
namespace Go.Proofs.YtpkiheenkpcebaaGreatDoor
open Go.RowKit Sx

theorem tl_ne (s : ByteArray) (h : 1 ≤ s.size) : ¬ s.toList = [] := by
  rw [ByteArray.toList_eq]
  intro e
  have : s.data.toList.length = s.size := by simp
  rw [e] at this
  simp at this
  omega
theorem str_pos {a : UInt8} {l : List UInt8} : ∃ s : ByteArray, (⟨(a :: l).toArray⟩ : ByteArray) = s ∧ ¬ s.toList = [] ∧ s.toList.isEmpty = false := by
  have h := tl_ne ⟨(a :: l).toArray⟩ (by show 1 ≤ (a :: l).toArray.size; simp)
  refine ⟨_, rfl, h, ?_⟩
  cases e : (⟨(a :: l).toArray⟩ : ByteArray).toList with
  | nil => exact absurd e h
  | cons a b => rfl

theorem iLetter_any (n : Int) (w : World) (h0 : 0 ≤ n) (h1 : n ≤ 255) :
    Calls Tryz.prog 133 #[.int .u8 n] w fun e w' => e = .returned (.bool (letterB n)) ∧ w = w' := by
  go_enter Tryz.func133, Tryz.ntmps133
  go_wp2
  all_goals go_ret
  all_goals exact ⟨ret_bool (by rw [Bool.eq_iff_iff]; simp [letterB] <;> omega), rfl⟩
theorem iDigit_any (n : Int) (w : World) (h0 : 0 ≤ n) (h1 : n ≤ 255) :
    Calls Tryz.prog 134 #[.int .u8 n] w fun e w' => e = .returned (.bool (digitB n)) ∧ w = w' := by
  go_enter Tryz.func134, Tryz.ntmps134
  go_wp2
  all_goals go_ret
  all_goals exact ⟨ret_bool (by rw [Bool.eq_iff_iff]; simp [digitB] <;> omega), rfl⟩

def idC (n : Int) : Bool := letterB n || digitB n || decide (n = 95)
/-- what an identifier is -/
def identC (l : List UInt8) : Bool := decide (l.length ≤ 24) && (match l with | [] => false | c :: _ => letterB (c.toNat : Int)) && l.all fun c => idC (c.toNat : Int)
theorem identC_nil : identC [] = false := rfl
theorem identC_long {l : List UInt8} (h : 24 < l.length) : identC l = false := by simp [identC, show ¬ l.length ≤ 24 from by omega]
theorem identC_head {s : ByteArray} (h : 0 < s.size) (h24 : s.size ≤ 24) : identC s.data.toList = (letterB (s[0].toNat : Int) && s.data.toList.all fun c => idC (c.toNat : Int)) := by
  have hd := drop_at s 0 h
  rw [List.drop_zero] at hd
  have hl : s.data.toList.length ≤ 24 := by simpa using h24
  unfold identC
  rw [decide_eq_true hl, Bool.true_and, hd]
theorem all_drop2 {p : UInt8 → Bool} {s : ByteArray} {q : Nat} (h : q < s.size) : (s.data.toList.drop q).all p = (p s[q] && (s.data.toList.drop (q + 1)).all p) := by rw [drop_at s q h]; rfl

theorem litp_letter {n : Int} {b : Bool} (h0 : 0 ≤ n) (h1 : n ≤ 255) (h : letterB n = b) (W : World) : Calls Tryz.prog 133 #[.int .u8 n] W fun e w' => e = .returned (.bool b) ∧ W = w' :=
  (iLetter_any n W h0 h1).mono fun _ _ ⟨he, hw⟩ => ⟨by rw [he, h], hw⟩
theorem litp_digit {n : Int} {b : Bool} (h0 : 0 ≤ n) (h1 : n ≤ 255) (h : digitB n = b) (W : World) : Calls Tryz.prog 134 #[.int .u8 n] W fun e w' => e = .returned (.bool b) ∧ W = w' :=
  (iDigit_any n W h0 h1).mono fun _ _ ⟨he, hw⟩ => ⟨by rw [he, h], hw⟩
set_option maxHeartbeats 2000000 in
theorem identP_any (s : ByteArray) (w : World) (hs : s.size ≤ 281474976710656) :
    Calls Tryz.prog 110 #[.string s] w fun e w' => e = .returned (.bool (identC s.data.toList)) ∧ w = w' := by
  have hl : s.data.toList.length = s.size := by simp
  by_cases h1 : ¬ 1 ≤ s.size
  · have he : s = ByteArray.mk #[] := by
      apply ByteArray.ext
      apply Array.ext'
      exact List.eq_nil_of_length_eq_zero (by omega)
    subst he
    clear hs hl h1
    go_enter Tryz.func110, Tryz.ntmps110
    go_wp2_with (fail)
    go_ret
    exact ⟨rfl, rfl⟩
  have hp : 0 < s.size := by omega
  have h0 := tl_ne s (by omega)
  have h6 : s.toList.isEmpty = false := by cases h : s.toList with
    | nil => exact absurd h h0
    | cons a b => rfl
  by_cases h24 : 24 < s.size
  · have h2 : (24 : Int) < (s.size : Int) := by omega
    rw [identC_long (by omega)]
    clear hl hs
    go_enter Tryz.func110, Tryz.ntmps110
    go_wp2_with (fail)
    go_ret
    exact ⟨rfl, rfl⟩
  have h2 : ¬ (24 : Int) < (s.size : Int) := by omega
  have hp' : (0 : Int) < (s.size : Int) := by omega
  have c0 := byte_lo s[0]
  have c1 := byte_hi s[0]
  rw [identC_head hp (by omega)]
  cases hL : letterB (s[0].toNat : Int) with
  | false =>
    have Hc := Lib.hid (litp_letter c0 c1 hL)
    rw [Bool.false_and]
    clear hL hl hs h1 h24
    go_enter Tryz.func110, Tryz.ntmps110
    go_wp2_with (go_at_call 133; refine (Hc.out _).mono ?_; rintro e1 w1 ⟨rfl, rfl⟩)
    go_ret
    exact ⟨rfl, rfl⟩
  | true =>
    have Hc := Lib.hid (litp_letter c0 c1 hL)
    rw [Bool.true_and]
    obtain ⟨V, hV⟩ : ∃ V, (s.data.toList.all fun c => idC (c.toNat : Int)) = V := ⟨_, rfl⟩
    rw [hV]
    have HV := Lib.hid hV
    clear hL hl h1 h24 hV
    go_enter Tryz.func110, Tryz.ntmps110
    go_wp2_with (go_at_call 133; refine (Hc.out _).mono ?_; rintro e1 w1 ⟨rfl, rfl⟩)
    go_loopw [2, 3, 19] (fun _ _ i wr => ∃ q : Nat, i = .int .i64 (q : Int) ∧ q ≤ s.size ∧ wr = w ∧ (s.data.toList.drop q).all (fun c => idC (c.toNat : Int)) = V) (fun _ _ i _ => s.size - (match i with | .int _ n => n.toNat | _ => 0))
    case atStart => exact ⟨0, rfl, Nat.zero_le _, rfl, by rw [List.drop_zero]; exact HV.out⟩
    case round =>
      obtain ⟨q, rfl, hq, rfl, hall⟩ := hrel
      by_cases hlt : q < s.size
      · have hti : decide ((q : Int) < (s.size : Int)) = true := by rw [decide_eq_true_eq]; omega
        rw [all_drop2 hlt] at hall
        have Hall := Lib.hid hall
        clear hall Hc c0 c1
        have b0 := byte_lo s[q]
        have b1 := byte_hi s[q]
        cases hL : letterB (s[q].toNat : Int) with
        | true =>
          have H1 := Lib.hid (litp_letter b0 b1 hL)
          have e : idC (s[q].toNat : Int) = true := by simp [idC, hL]
          have HE := Lib.hid e
          clear hL e
          go_wp2_with (go_at_call 133; refine (H1.out _).mono ?_; rintro e1 w1 ⟨rfl, rfl⟩)
          exact ⟨⟨q + 1, rfl, hlt, trivial, by have h := Hall.out; rw [HE.out, Bool.true_and] at h; exact h⟩, by simp; omega⟩
        | false =>
          have H1 := Lib.hid (litp_letter b0 b1 hL)
          cases hD : digitB (s[q].toNat : Int) with
          | true =>
            have H2 := Lib.hid (litp_digit b0 b1 hD)
            have e : idC (s[q].toNat : Int) = true := by simp [idC, hD]
            have HE := Lib.hid e
            clear hL hD e
            go_wp2_with (first | (go_at_call 133; refine (H1.out _).mono ?_; rintro e1 w1 ⟨rfl, rfl⟩) | (go_at_call 134; refine (H2.out _).mono ?_; rintro e1 w1 ⟨rfl, rfl⟩))
            exact ⟨⟨q + 1, rfl, hlt, trivial, by have h := Hall.out; rw [HE.out, Bool.true_and] at h; exact h⟩, by simp; omega⟩
          | false =>
            have H2 := Lib.hid (litp_digit b0 b1 hD)
            by_cases h95 : (s[q].toNat : Int) = 95
            · have e : idC (s[q].toNat : Int) = true := by simp [idC, h95]
              have HE := Lib.hid e
              have t1 : ((s[q].toNat : Int) == 95) = true := by simp [h95]
              have t2 : ((s[q].toNat : Int) != 95) = false := by simp [h95]
              clear hL hD e h95
              go_wp2_with (first | (go_at_call 133; refine (H1.out _).mono ?_; rintro e1 w1 ⟨rfl, rfl⟩) | (go_at_call 134; refine (H2.out _).mono ?_; rintro e1 w1 ⟨rfl, rfl⟩))
              exact ⟨⟨q + 1, rfl, hlt, trivial, by have h := Hall.out; rw [HE.out, Bool.true_and] at h; exact h⟩, by simp; omega⟩
            · have e : idC (s[q].toNat : Int) = false := by simp [idC, h95, hL, hD]
              have HE := Lib.hid e
              have t1 : ((s[q].toNat : Int) == 95) = false := by rw [beq_eq_false_iff_ne]; exact h95
              have t2 : ((s[q].toNat : Int) != 95) = true := by rw [bne_iff_ne]; exact h95
              clear hL hD e h95
              go_wp2_with (first | (go_at_call 133; refine (H1.out _).mono ?_; rintro e1 w1 ⟨rfl, rfl⟩) | (go_at_call 134; refine (H2.out _).mono ?_; rintro e1 w1 ⟨rfl, rfl⟩))
              go_ret
              exact ⟨congrArg (fun b => Ending.returned (.bool b)) (by have h := Hall.out; rw [HE.out, Bool.false_and] at h; exact h), rfl⟩
      · have hti : decide ((q : Int) < (s.size : Int)) = false := by rw [decide_eq_false_iff_not]; omega
        have hti2 : decide (q < s.size) = false := by rw [decide_eq_false_iff_not]; omega
        rw [List.drop_eq_nil_of_le (by simp; omega)] at hall
        have Hall := Lib.hid hall
        clear hall
        go_wp2_with (fail)
        go_ret
        exact ⟨congrArg (fun b => Ending.returned (.bool b)) Hall.out, rfl⟩


def kwL : List (List UInt8) := [[65, 110, 121], [78, 101, 118, 101, 114], [116, 117, 112, 108, 101], [117, 110, 105, 111, 110], [101, 120, 105, 115, 116, 115]]
/-- a name that a nominal type may have -/
def tyB (l : List UInt8) : Bool := !kwL.contains l && identC l

set_option maxHeartbeats 1000000 in
theorem isTypeName_any (s : ByteArray) (w : World) (hs : s.size ≤ 281474976710656) {V : Bool} (hV : tyB s.data.toList = V) :
    Calls Tryz.prog 185 #[.string s] w fun e w' => e = .returned (.bool V) ∧ w = w' := by
  subst hV
  have ext : ∀ l : List UInt8, s.data.toList = l → s = ⟨l.toArray⟩ := fun l h => by
    apply ByteArray.ext
    apply Array.ext'
    rw [h]
  by_cases h1 : s.data.toList = [65, 110, 121]
  · obtain rfl := ext _ h1
    go_enter Tryz.func185, Tryz.ntmps185
    go_wp2_with (fail)
    go_ret
    exact ⟨rfl, rfl⟩
  by_cases h2 : s.data.toList = [78, 101, 118, 101, 114]
  · obtain rfl := ext _ h2
    go_enter Tryz.func185, Tryz.ntmps185
    go_wp2_with (fail)
    go_ret
    exact ⟨rfl, rfl⟩
  by_cases h3 : s.data.toList = [116, 117, 112, 108, 101]
  · obtain rfl := ext _ h3
    go_enter Tryz.func185, Tryz.ntmps185
    go_wp2_with (fail)
    go_ret
    exact ⟨rfl, rfl⟩
  by_cases h4 : s.data.toList = [117, 110, 105, 111, 110]
  · obtain rfl := ext _ h4
    go_enter Tryz.func185, Tryz.ntmps185
    go_wp2_with (fail)
    go_ret
    exact ⟨rfl, rfl⟩
  by_cases h5 : s.data.toList = [101, 120, 105, 115, 116, 115]
  · obtain rfl := ext _ h5
    go_enter Tryz.func185, Tryz.ntmps185
    go_wp2_with (fail)
    go_ret
    exact ⟨rfl, rfl⟩
  have hr : tyB s.data.toList = identC s.data.toList := by simp [tyB, kwL, h1, h2, h3, h4, h5]
  rw [hr]
  have HI := Lib.hid (fun W => identP_any s W hs)
  rw [← ByteArray.toList_eq] at h1 h2 h3 h4 h5
  have q1 : (s.toList == [65, 110, 121]) = false := by simpa using h1
  have q2 : (s.toList == [78, 101, 118, 101, 114]) = false := by simpa using h2
  have q3 : (s.toList == [116, 117, 112, 108, 101]) = false := by simpa using h3
  have q4 : (s.toList == [117, 110, 105, 111, 110]) = false := by simpa using h4
  have q5 : (s.toList == [101, 120, 105, 115, 116, 115]) = false := by simpa using h5
  clear hr ext
  go_enter Tryz.func185, Tryz.ntmps185
  go_wp2_with (fail)
  refine (HI.out _).mono ?_
  rintro e w1 ⟨rfl, rfl⟩
  go_wp2_with (fail)
  go_ret
  exact ⟨rfl, rfl⟩
end Go.Proofs.YtpkiheenkpcebaaGreatDoor
