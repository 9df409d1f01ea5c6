/- telref1.termNames, TermNames: the names, each in its place. No condition but a bounded size. -/
import Derived.Test.YtnidngpenhblcaaDoorTrs2
import Derived.Test.YtnidngpenhblcaaDoorTsr
import Derived.Test.YtnidngpenhblcaaDoorTrf
set_option linter.unusedVariables false
set_option linter.unusedSimpArgs false
namespace Go.Proofs.YtnidngpenhblcaaDoor
open Go.RowKit Go.Sort Sx

set_option maxHeartbeats 8000000 in
set_option maxRecDepth 100000 in
theorem rtermNames_any (N : Nat) : ∀ (k o : Int) (t : List UInt8) (kids : Fo) (A : Option Addr) (c : Nat) (l : List (List UInt8)) (Al : Option Addr) (cl : Nat) (w : World), fsize kids ≤ N → fsize kids ≤ 1073741824 → KT w kids A c → Cel w 1 Al l.length cl (l.map encStr) →
    l.length + fsize kids + 1 ≤ 1099511627776 →
    Calls Tryd.prog 46 #[.agg #[.int .i64 k, .string ⟨t.toArray⟩, .int .i64 o, .slice A kids.len c], .slice Al l.length cl] w fun e w' =>
      ∃ A' c', e = .returned (.slice A' (insAG l (nm1 k t kids)).length c') ∧ Cel w' 1 A' (insAG l (nm1 k t kids)).length c' ((insAG l (nm1 k t kids)).map encStr) ∧ BH w w' := by
  induction N using Nat.strongRecOn with
  | ind N ih =>
  intro k o t kids A c l Al cl w hN hN2 hK hC hll
  have IH := Lib.hid ih
  have HK := Lib.hid hK
  have HC := Lib.hid hC
  clear ih hK hC
  have hlen := len_le_fsize kids
  obtain ⟨L, hL⟩ : ∃ L, kids.len = L := ⟨_, rfl⟩
  rw [hL] at hlen ⊢
  have HL := Lib.hid hL
  clear hL
  obtain ⟨R, hR⟩ : ∃ R, insAG l (nm1 k t kids) = R := ⟨_, rfl⟩
  rw [hR]
  have HR := Lib.hid hR
  have HX := Lib.hid (heap_alloc_new w (.cells #[.int .i64 k, .string ⟨t.toArray⟩, .int .i64 o, .slice A L c] 25 (0, 0)))
  have HB0 := Lib.hid (show BH w (w.alloc (.cells #[.int .i64 k, .string ⟨t.toArray⟩, .int .i64 o, .slice A L c] 25 (0, 0))) from bh_alloc (BH.refl _) _)
  clear hR
  obtain ⟨b0, b1, b2, b3⟩ := box4 w (.int .i64 k) (.string ⟨t.toArray⟩) (.int .i64 o) (.slice A L c) 25
  by_cases hk2 : k = 2
  · subst hk2
    have HR1 : Hid (insAG (insG l t) (nmL kids) = R) := Lib.hid (by rw [← HR.out, nm1, if_pos rfl, insAG_app]; rfl)
    have HL1 : Hid ((insG l t).length ≤ l.length + 1) := Lib.hid (insG_len l t)
    obtain ⟨ll, hll0⟩ : ∃ ll, l.length = ll := ⟨_, rfl⟩
    have HLL := Lib.hid hll0
    rw [hll0] at HC hll ⊢
    have hIn : ∀ X, BH w X → Calls Tryd.prog 79 #[.slice Al ll cl, .string ⟨t.toArray⟩] X fun e w' => ∃ A' c', e = .returned (.slice A' (insG l t).length c') ∧ Cel w' 1 A' (insG l t).length c' ((insG l t).map encStr) ∧ BH X w' := fun X hX => by
      rw [← HLL.out]
      exact insertString_any l t Al cl X (by have := HC.out.bh hX; rw [← HLL.out] at this; exact this) (by have := HLL.out; omega)
    have HIn := Lib.hid hIn
    clear hIn hll0
    go_enter Tryd.func46, Tryd.ntmps46
    go_wp2_with (fail)
    refine (HIn.out _ HB0.out).mono ?_
    rintro e w1 ⟨Aq, cq, rfl, hcl, hb⟩
    have HBW := Lib.hid (BH.trans HB0.out hb)
    have HX1 := Lib.hid ((Below.block hb w.heap.size (by simp)).trans HX.out)
    have HCl := Lib.hid hcl
    obtain ⟨lq, hlq⟩ : ∃ lq, (insG l t).length = lq := ⟨_, rfl⟩
    clear hcl hb b0 b1 b2 b3
    obtain ⟨b0, b1, b2, b3, _⟩ := row4 HX1.out
    have HLQ := Lib.hid hlq
    rw [hlq] at HCl ⊢
    clear hlq
    go_wp2_with (fail)
    rw [← HLQ.out] at HCl ⊢
    rw [← HLL.out] at HC hll
    clear HLQ HLL
    go_loopw [1, 5] (fun lv iv wr => ∃ (i : Nat) (r : Fo) (l' : List (List UInt8)) (A' : Option Addr) (c' : Nat), lv = .slice A' l'.length c' ∧ iv = .int .i64 (i : Int) ∧ Suf i r kids ∧ Cel wr 1 A' l'.length c' (l'.map encStr) ∧ insAG l' (nmL r) = R ∧
      l'.length + fsize r ≤ l.length + fsize kids + 1 ∧ BH w1 wr) (fun _ iv _ => L - (match iv with | .int _ n => n.toNat | _ => 0))
    case atStart => exact ⟨0, kids, _, _, _, rfl, rfl, Suf.zero _, HCl.out, HR1.out, by have := HL1.out; omega, BH.refl _⟩
    case round =>
      obtain ⟨i, r, l', A', c', rfl, rfl, hsuf, hcel, hins, hll', hbh⟩ := hrel
      have hlen' := hsuf.len
      rw [HL.out] at hlen'
      have hbel : BH w wr := BH.trans HBW.out hbh
      have HCel := Lib.hid hcel
      have HIns := Lib.hid hins
      have hbs : w1.heap.size ≤ wr.heap.size := Below.size hbh
      have hw1s := heap_lt HX1.out
      have HX2 := Lib.hid ((Below.block hbh w.heap.size hw1s).trans HX1.out)
      obtain ⟨Ln, hLn⟩ : ∃ Ln, l'.length = Ln := ⟨_, rfl⟩
      have HLn := Lib.hid hLn
      rw [hLn] at hll' ⊢
      clear b0 b1 b2 b3 hcel hins hLn
      obtain ⟨b0, b1, b2, b3, _⟩ := row4 HX2.out
      cases r with
      | nil =>
        simp only [Fo.len] at hlen'
        have hge : decide (i < L) = false := by rw [decide_eq_false_iff_not]; omega
        have HB := Lib.hid hbel
        clear hlen' hsuf hbel hbh
        go_wp2_with (fail)
        go_ret
        have h := HIns.out
        simp only [nmL, insAG, List.foldl_nil] at h
        rw [← h, ← HLn.out]
        exact ⟨_, _, rfl, HCel.out, HB.out⟩
      | cons k1 t1 kids1 o1 r1 =>
        obtain ⟨g, off, A1, c1, rfl, hgl, q0, q1, q2, q3, hk1⟩ := HK.out.get hsuf hbel
        obtain ⟨hkid, hil⟩ := hsuf.kid
        rw [HL.out] at hil
        have hge : decide ((i : Int) < (L : Int)) = true := by rw [decide_eq_true_eq]; omega
        have hiL : (i : Int) < (L : Int) := by omega
        have hi0 : (0 : Int) ≤ (i : Int) := by omega
        have HS := Lib.hid hsuf
        have HK1 := Lib.hid hk1
        have Hll := Lib.hid hll'
        have HBh := Lib.hid hbh
        have HBel := Lib.hid hbel
        have hIH : Calls Tryd.prog 46 #[.agg #[.int .i64 k1, .string ⟨t1.toArray⟩, .int .i64 o1, .slice A1 kids1.len c1], .slice A' Ln c'] wr fun e u =>
            ∃ A2 c2, e = .returned (.slice A2 (insAG l' (nm1 k1 t1 kids1)).length c2) ∧ Cel u 1 A2 (insAG l' (nm1 k1 t1 kids1)).length c2 ((insAG l' (nm1 k1 t1 kids1)).map encStr) ∧ BH wr u := by
          have hll3 := Hll.out
          have hln := HLn.out
          simp only [fsize] at hll3
          rw [← HLn.out]
          exact IH.out (fsize kids1) (by omega) k1 o1 t1 kids1 A1 c1 l' A' c' wr (Nat.le_refl _) (by omega) (HK1.out.below HBel.out) HCel.out (by omega)
        have HIH := Lib.hid hIH
        clear hk1 hsuf hlen' hll' hbh hbel hIH
        go_wp2_with (fail)
        refine HIH.out.mono ?_
        rintro e u2 ⟨A2, c2, rfl, hce, hpz⟩
        have HCe := Lib.hid hce
        have HPz := Lib.hid hpz
        obtain ⟨Lm, hLm⟩ : ∃ Lm, (insAG l' (nm1 k1 t1 kids1)).length = Lm := ⟨_, rfl⟩
        have HLm := Lib.hid hLm
        rw [hLm]
        clear hce hpz hLm
        go_wp2_with (fail)
        refine ⟨⟨i + 1, r1, insAG l' (nm1 k1 t1 kids1), A2, c2, by rw [HLm.out], rfl, HS.out.next, HCe.out, ?_, ?_, BH.trans HBh.out HPz.out⟩, by simp; omega⟩
        · have h := HIns.out
          rw [nmL_cons, insAG_app] at h
          exact h
        · have h1 := insAG_len (nm1 k1 t1 kids1) l'
          have h2 := nm1_len k1 t1 kids1
          have hll3 := Hll.out
          have hln := HLn.out
          simp only [fsize] at hll3
          omega
  · have t2 : (k == 2) = false := by simp [hk2]
    have HR1 : Hid (insAG l (nmL kids) = R) := Lib.hid (by rw [← HR.out, nm1, if_neg hk2]; rfl)
    have HL1 : Hid (l.length ≤ l.length + 1) := Lib.hid (by omega)
    have HBW := HB0
    have HX1 := HX
    have HCl : Hid (Cel (w.alloc (.cells #[.int .i64 k, .string ⟨t.toArray⟩, .int .i64 o, .slice A L c] 25 (0, 0))) 1 Al l.length cl (l.map encStr)) := Lib.hid (HC.out.bh HB0.out)
    obtain ⟨w1, hw1⟩ : ∃ w1, w.alloc (.cells #[.int .i64 k, .string ⟨t.toArray⟩, .int .i64 o, .slice A L c] 25 (0, 0)) = w1 := ⟨_, rfl⟩
    have HW1 := Lib.hid hw1
    clear hk2 hw1
    go_enter Tryd.func46, Tryd.ntmps46
    go_wp2_with (fail)
    rw [HW1.out] at HBW HX1 HCl b0 b1 b2 b3 ⊢
    go_loopw [1, 5] (fun lv iv wr => ∃ (i : Nat) (r : Fo) (l' : List (List UInt8)) (A' : Option Addr) (c' : Nat), lv = .slice A' l'.length c' ∧ iv = .int .i64 (i : Int) ∧ Suf i r kids ∧ Cel wr 1 A' l'.length c' (l'.map encStr) ∧ insAG l' (nmL r) = R ∧
      l'.length + fsize r ≤ l.length + fsize kids + 1 ∧ BH w1 wr) (fun _ iv _ => L - (match iv with | .int _ n => n.toNat | _ => 0))
    case atStart => exact ⟨0, kids, _, _, _, rfl, rfl, Suf.zero _, HCl.out, HR1.out, by have := HL1.out; omega, BH.refl _⟩
    case round =>
      obtain ⟨i, r, l', A', c', rfl, rfl, hsuf, hcel, hins, hll', hbh⟩ := hrel
      have hlen' := hsuf.len
      rw [HL.out] at hlen'
      have hbel : BH w wr := BH.trans HBW.out hbh
      have HCel := Lib.hid hcel
      have HIns := Lib.hid hins
      have hbs : w1.heap.size ≤ wr.heap.size := Below.size hbh
      have hw1s := heap_lt HX1.out
      have HX2 := Lib.hid ((Below.block hbh w.heap.size hw1s).trans HX1.out)
      obtain ⟨Ln, hLn⟩ : ∃ Ln, l'.length = Ln := ⟨_, rfl⟩
      have HLn := Lib.hid hLn
      rw [hLn] at hll' ⊢
      clear b0 b1 b2 b3 hcel hins hLn
      obtain ⟨b0, b1, b2, b3, _⟩ := row4 HX2.out
      cases r with
      | nil =>
        simp only [Fo.len] at hlen'
        have hge : decide (i < L) = false := by rw [decide_eq_false_iff_not]; omega
        have HB := Lib.hid hbel
        clear hlen' hsuf hbel hbh
        go_wp2_with (fail)
        go_ret
        have h := HIns.out
        simp only [nmL, insAG, List.foldl_nil] at h
        rw [← h, ← HLn.out]
        exact ⟨_, _, rfl, HCel.out, HB.out⟩
      | cons k1 t1 kids1 o1 r1 =>
        obtain ⟨g, off, A1, c1, rfl, hgl, q0, q1, q2, q3, hk1⟩ := HK.out.get hsuf hbel
        obtain ⟨hkid, hil⟩ := hsuf.kid
        rw [HL.out] at hil
        have hge : decide ((i : Int) < (L : Int)) = true := by rw [decide_eq_true_eq]; omega
        have hiL : (i : Int) < (L : Int) := by omega
        have hi0 : (0 : Int) ≤ (i : Int) := by omega
        have HS := Lib.hid hsuf
        have HK1 := Lib.hid hk1
        have Hll := Lib.hid hll'
        have HBh := Lib.hid hbh
        have HBel := Lib.hid hbel
        have hIH : Calls Tryd.prog 46 #[.agg #[.int .i64 k1, .string ⟨t1.toArray⟩, .int .i64 o1, .slice A1 kids1.len c1], .slice A' Ln c'] wr fun e u =>
            ∃ A2 c2, e = .returned (.slice A2 (insAG l' (nm1 k1 t1 kids1)).length c2) ∧ Cel u 1 A2 (insAG l' (nm1 k1 t1 kids1)).length c2 ((insAG l' (nm1 k1 t1 kids1)).map encStr) ∧ BH wr u := by
          have hll3 := Hll.out
          have hln := HLn.out
          simp only [fsize] at hll3
          rw [← HLn.out]
          exact IH.out (fsize kids1) (by omega) k1 o1 t1 kids1 A1 c1 l' A' c' wr (Nat.le_refl _) (by omega) (HK1.out.below HBel.out) HCel.out (by omega)
        have HIH := Lib.hid hIH
        clear hk1 hsuf hlen' hll' hbh hbel hIH
        go_wp2_with (fail)
        refine HIH.out.mono ?_
        rintro e u2 ⟨A2, c2, rfl, hce, hpz⟩
        have HCe := Lib.hid hce
        have HPz := Lib.hid hpz
        obtain ⟨Lm, hLm⟩ : ∃ Lm, (insAG l' (nm1 k1 t1 kids1)).length = Lm := ⟨_, rfl⟩
        have HLm := Lib.hid hLm
        rw [hLm]
        clear hce hpz hLm
        go_wp2_with (fail)
        refine ⟨⟨i + 1, r1, insAG l' (nm1 k1 t1 kids1), A2, c2, by rw [HLm.out], rfl, HS.out.next, HCe.out, ?_, ?_, BH.trans HBh.out HPz.out⟩, by simp; omega⟩
        · have h := HIns.out
          rw [nmL_cons, insAG_app] at h
          exact h
        · have h1 := insAG_len (nm1 k1 t1 kids1) l'
          have h2 := nm1_len k1 t1 kids1
          have hll3 := Hll.out
          have hln := HLn.out
          simp only [fsize] at hll3
          omega

theorem rTermNames_any (k o : Int) (t : List UInt8) (kids : Fo) (A : Option Addr) (c : Nat) (w : World) (hN2 : fsize kids ≤ 1073741824) (hK : KT w kids A c) :
    Calls Tryd.prog 14 #[.agg #[.int .i64 k, .string ⟨t.toArray⟩, .int .i64 o, .slice A kids.len c]] w fun e w' =>
      ∃ A' c', e = .returned (.slice A' (insAG [] (nm1 k t kids)).length c') ∧ Cel w' 1 A' (insAG [] (nm1 k t kids)).length c' ((insAG [] (nm1 k t kids)).map encStr) ∧ BH w w' := by
  obtain ⟨b0, b1, b2, b3⟩ := box4 w (.int .i64 k) (.string ⟨t.toArray⟩) (.int .i64 o) (.slice A kids.len c) 25
  have HB := Lib.hid (show BH w (w.alloc (.cells #[.int .i64 k, .string ⟨t.toArray⟩, .int .i64 o, .slice A kids.len c] 25 (0, 0))) from bh_alloc (BH.refl _) _)
  have HK := Lib.hid (hK.below HB.out)
  clear hK
  go_enter Tryd.func14, Tryd.ntmps14
  go_wp2_with (fail)
  refine (rtermNames_any _ k o t kids A c [] none 0 _ (Nat.le_refl _) hN2 HK.out (Cel.nil _ _) (by simp only [List.length_nil]; omega)).mono ?_
  rintro e w1 ⟨A', c', rfl, hc, hb⟩
  have HC := Lib.hid hc
  have HB1 := Lib.hid (BH.trans HB.out hb)
  clear hc hb
  go_wp2_with (fail)
  go_ret
  exact ⟨_, _, rfl, HC.out, HB1.out⟩
end Go.Proofs.YtnidngpenhblcaaDoor
