/- telref1.freeVars, TermFreeVars, TermClosed: the free variables, each in its place. No condition but a bounded size. telref1.TermPlain. No condition but a bounded size. -/
import Derived.Test.YtpkiheenkpcebaaGreatDoorMaz
import Derived.Deep.DeepCutAuto
set_option linter.unusedVariables false
set_option linter.unusedSimpArgs false
namespace Go.Proofs.YtpkiheenkpcebaaGreatDoor
open Go.RowKit Sx

set_option maxHeartbeats 8000000 in
set_option maxRecDepth 100000 in
theorem rfreeVars_any (N : Nat) : ∀ (k o bd : Int) (t : List UInt8) (kids : Fo) (A : Option Addr) (c : Nat) (l : List Int) (Al : Option Addr) (cl : Nat) (w : World), fsize kids ≤ N → fsize kids ≤ 1073741824 → KT w kids A c → Cel w 1 Al l.length cl (l.map (Value.int .i64)) → 0 ≤ bd → bd + fsize kids ≤ 4294967296 →
    l.length + fsize kids + 1 ≤ 1099511627776 →
    Calls Tryz.prog 180 #[.agg #[.int .i64 k, .string ⟨t.toArray⟩, .int .i64 o, .slice A kids.len c], .int .i64 bd, .slice Al l.length cl] w fun e w' =>
      ∃ A' c', e = .returned (.slice A' (insA l (free1 k o kids bd)).length c') ∧ Cel w' 1 A' (insA l (free1 k o kids bd)).length c' ((insA l (free1 k o kids bd)).map (Value.int .i64)) ∧ BH w w' := by
  induction N using Nat.strongRecOn with
  | ind N ih =>
  intro k o bd t kids A c l Al cl w hN hN2 hK hC hb0 hb1 hll
  have IH := Lib.hid ih
  have HK := Lib.hid hK
  have HC := Lib.hid hC
  clear ih hK hC
  have hlen := len_le_fsize kids
  obtain ⟨L, hL⟩ : ∃ L, kids.len = L := ⟨_, rfl⟩
  rw [hL] at hlen ⊢
  have HL := Lib.hid hL
  clear hL
  obtain ⟨R, hR⟩ : ∃ R, insA l (free1 k o kids bd) = R := ⟨_, rfl⟩
  rw [hR]
  have HR := Lib.hid hR
  have hX := heap_alloc_new w (.cells #[.int .i64 k, .string ⟨t.toArray⟩, .int .i64 o, .slice A L c] 34 (0, 0))
  have hB0 : BH w (w.alloc (.cells #[.int .i64 k, .string ⟨t.toArray⟩, .int .i64 o, .slice A L c] 34 (0, 0))) := (Below.refl _ _).alloc (Nat.le_refl _) _
  have HX := Lib.hid hX
  have HB0 := Lib.hid hB0
  clear hR hX hB0
  obtain ⟨b0, b1, b2, b3⟩ := box4 w (.int .i64 k) (.string ⟨t.toArray⟩) (.int .i64 o) (.slice A L c) 34
  by_cases hfr : k = 5 ∧ bd ≤ o
  · obtain ⟨rfl, hbo⟩ := hfr
    have t1 : decide (bd ≤ o) = true := by simpa using hbo
    have hfB : freeB 5 o bd = true := by simp [freeB, hbo]
    have HR1 : Hid (insA (insI l (wrap64 (o - bd))) (freeL 5 0 bd kids) = R) := Lib.hid (by rw [← HR.out, free1, hfB, if_pos rfl, insA_app]; rfl)
    obtain ⟨xx, hxx⟩ : ∃ xx, wrap64 (o - bd) = xx := ⟨_, rfl⟩
    have HXX := Lib.hid hxx
    rw [hxx] at HR1
    have HL1 : Hid ((insI l xx).length ≤ l.length + 1) := Lib.hid (insI_len l xx)
    obtain ⟨ll, hll0⟩ : ∃ ll, l.length = ll := ⟨_, rfl⟩
    have HLL := Lib.hid hll0
    rw [hll0] at HC hll ⊢
    clear hfB
    go_enter Tryz.func180, Tryz.ntmps180
    go_wp2_with (fail)
    have hIn : ∀ X, BH w X → Calls Tryz.prog 196 #[.slice Al ll cl, .int .i64 xx] X fun e w' => ∃ A' c', e = .returned (.slice A' (insI l xx).length c') ∧ Cel w' 1 A' (insI l xx).length c' ((insI l xx).map (Value.int .i64)) ∧ BH X w' := fun X hX => by
      rw [← HLL.out]
      exact insertInt_any l xx Al cl X (by have := HC.out.bh hX; rw [← HLL.out] at this; exact this) (by have := HLL.out; omega)
    have HIn := Lib.hid hIn
    clear hIn hll0 hxx
    refine (HIn.out _ HB0.out).mono ?_
    rintro e w1 ⟨Aq, cq, rfl, hcl, hb⟩
    have HBW := Lib.hid (BH.trans HB0.out hb)
    have HX1 := Lib.hid ((Below.block hb w.heap.size (by simp)).trans HX.out)
    have HCl := Lib.hid hcl
    obtain ⟨lq, hlq⟩ : ∃ lq, (insI l xx).length = lq := ⟨_, rfl⟩
    clear hcl hb b0 b1 b2 b3
    obtain ⟨b0, b1, b2, b3, _⟩ := row4 HX1.out
    have HLQ := Lib.hid hlq
    rw [hlq] at HCl ⊢
    clear hlq
    go_wp2_with (fail)
    rw [← HLQ.out] at HCl ⊢
    rw [← HLL.out] at HC hll
    clear HLQ HLL
    go_loopw [2, 7] (fun lv iv wr => ∃ (i : Nat) (r : Fo) (l' : List Int) (A' : Option Addr) (c' : Nat), lv = .slice A' l'.length c' ∧ iv = .int .i64 (i : Int) ∧ Suf i r kids ∧ Cel wr 1 A' l'.length c' (l'.map (Value.int .i64)) ∧ insA l' (freeL 5 i bd r) = R ∧
      l'.length + fsize r ≤ l.length + fsize kids + 1 ∧ BH w1 wr) (fun _ iv _ => L - (match iv with | .int _ n => n.toNat | _ => 0))
    case atStart => exact ⟨0, kids, _, _, _, rfl, rfl, Suf.zero _, HCl.out, HR1.out, by have := HL1.out; omega, BH.refl _⟩
    case round =>
      obtain ⟨i, r, l', A', c', rfl, rfl, hsuf, hcel, hins, hll', hbh⟩ := hrel
      have hlen' := hsuf.len
      rw [HL.out] at hlen'
      have hbel : BH w wr := BH.trans HBW.out hbh
      have HCel := Lib.hid hcel
      have HIns := Lib.hid hins
      have hbs : w1.heap.size ≤ wr.heap.size := Below.size hbh
      have hw1s := heap_lt HX1.out
      have HX2 := Lib.hid ((Below.block hbh w.heap.size hw1s).trans HX1.out)
      obtain ⟨Ln, hLn⟩ : ∃ Ln, l'.length = Ln := ⟨_, rfl⟩
      have HLn := Lib.hid hLn
      rw [hLn] at hll' ⊢
      clear b0 b1 b2 b3 hcel hins hLn
      obtain ⟨b0, b1, b2, b3, _⟩ := row4 HX2.out
      cases r with
      | nil =>
        simp only [Fo.len] at hlen'
        have hge : decide (i < L) = false := by rw [decide_eq_false_iff_not]; omega
        have HB := Lib.hid hbel
        clear hlen' hsuf hbel hbh
        go_wp2_with (fail)
        go_ret
        have h := HIns.out
        simp only [freeL, insA, List.foldl_nil] at h
        rw [← h, ← HLn.out]
        exact ⟨_, _, rfl, HCel.out, HB.out⟩
      | cons k1 t1 kids1 o1 r1 =>
        obtain ⟨g, off, A1, c1, rfl, hgl, q0, q1, q2, q3, hk1⟩ := HK.out.get hsuf hbel
        obtain ⟨hkid, hil⟩ := hsuf.kid
        rw [HL.out] at hil
        have hge : decide ((i : Int) < (L : Int)) = true := by rw [decide_eq_true_eq]; omega
        have hiL : (i : Int) < (L : Int) := by omega
        have hi0 : (0 : Int) ≤ (i : Int) := by omega
        obtain ⟨ab0, ab1⟩ := aroundB_bounds 5 0 i
        have hab : bd + aroundB 5 i 0 = aroundB 5 i bd := by unfold aroundB; split <;> omega
        have HS := Lib.hid hsuf
        have HK1 := Lib.hid hk1
        have hbox := (Below.block hbh w.heap.size hw1s).trans HX1.out
        have Hll := Lib.hid hll'
        have HBh := Lib.hid hbh
        have HBel := Lib.hid hbel
        have HAb := Lib.hid hab
        obtain ⟨y, hy⟩ : ∃ y, aroundB 5 i 0 = y := ⟨_, rfl⟩
        rw [hy] at ab0 ab1 HAb
        have HY := Lib.hid hy
        have hwy : IntKind.i64.wrap (bd + y) = bd + y := (IntKind.wrap_i64 _).trans (by omega)
        have HWY := Lib.hid hwy
        clear hwy hy
        clear hk1 hsuf hlen' hll' hbh hbel hab
        go_upto_region 6 with (fail)
        have hBA : ∀ X, BH wr X → Calls Tryz.prog 128 #[.agg #[.int .i64 5, .string ⟨t.toArray⟩, .int .i64 o, .slice (some ⟨g, off, none⟩) L c], .int .i64 (i : Int)] X fun e u => e = .returned (.int .i64 y) ∧ BH wr u := fun X hX =>
          (binders_any 5 o i t _ L c X).mono fun e u h => ⟨by rw [← HY.out]; exact h.1, BH.trans hX h.2⟩
        have hCF : ∀ X, BH wr X → Calls Tryz.prog 180 #[.agg #[.int .i64 k1, .string ⟨t1.toArray⟩, .int .i64 o1, .slice A1 kids1.len c1], .int .i64 (bd + y), .slice A' Ln c'] X fun e u =>
            ∃ A2 c2, e = .returned (.slice A2 (insA l' (free1 k1 o1 kids1 (aroundB 5 i bd))).length c2) ∧ Cel u 1 A2 (insA l' (free1 k1 o1 kids1 (aroundB 5 i bd))).length c2 ((insA l' (free1 k1 o1 kids1 (aroundB 5 i bd))).map (Value.int .i64)) ∧ BH wr u := fun X hX => by
          have hll3 := Hll.out
          have hln := HLn.out
          simp only [fsize] at hll3
          obtain ⟨bb0, bb1⟩ := aroundB_bounds 5 bd i
          rw [HAb.out, ← HLn.out]
          refine (IH.out (fsize kids1) (by omega) k1 o1 (aroundB 5 i bd) t1 kids1 A1 c1 l' A' c' X (Nat.le_refl _) (by omega) (HK1.out.below (BH.trans HBel.out hX)) (HCel.out.bh hX) (by omega) (by omega) (by omega)).mono ?_
          rintro e u ⟨A2, c2, rfl, h1, h2⟩
          exact ⟨A2, c2, rfl, h1, BH.trans hX h2⟩
        have KS : ∀ X, BH wr X → X.cell? ⟨g, off + i * 4, none⟩ = some (.int .i64 k1) ∧ X.cell? ⟨g, off + i * 4 + 1, none⟩ = some (.string ⟨t1.toArray⟩) ∧ X.cell? ⟨g, off + i * 4 + 2, none⟩ = some (.int .i64 o1) ∧ X.cell? ⟨g, off + i * 4 + 3, none⟩ = some (.slice A1 kids1.len c1) ∧
            X.cell? ⟨w.heap.size, 0, none⟩ = some (.int .i64 5) ∧ X.cell? ⟨w.heap.size, 1, none⟩ = some (.string ⟨t.toArray⟩) ∧ X.cell? ⟨w.heap.size, 2, none⟩ = some (.int .i64 o) ∧ X.cell? ⟨w.heap.size, 3, none⟩ = some (.slice (some ⟨g, off, none⟩) L c) :=
          fun X h => ⟨h.cell q0, h.cell q1, h.cell q2, h.cell q3, h.cell b0, h.cell b1, h.cell b2, h.cell b3⟩
        have HBA := Lib.hid hBA
        have HCF := Lib.hid hCF
        have HKS := Lib.hid KS
        have HPe := Lib.hid (BH.drew wr)
        clear hBA hCF KS hbox
        have hwy := HWY.out
        go_region_held3 (fun w' => w'.cell? ⟨g, off + i * 4, none⟩ = some (.int .i64 k1) ∧ w'.cell? ⟨g, off + i * 4 + 1, none⟩ = some (.string ⟨t1.toArray⟩) ∧ w'.cell? ⟨g, off + i * 4 + 2, none⟩ = some (.int .i64 o1) ∧ w'.cell? ⟨g, off + i * 4 + 3, none⟩ = some (.slice A1 kids1.len c1) ∧
            w'.cell? ⟨w.heap.size, 0, none⟩ = some (.int .i64 5) ∧ w'.cell? ⟨w.heap.size, 1, none⟩ = some (.string ⟨t.toArray⟩) ∧ w'.cell? ⟨w.heap.size, 2, none⟩ = some (.int .i64 o) ∧ w'.cell? ⟨w.heap.size, 3, none⟩ = some (.slice (some ⟨g, off, none⟩) L c)) (go_keep)
          (first
            | (go_at_call 180; refine (HCF.out _ HPu.out).mono ?_; rintro e u2 ⟨A2, c2, rfl, hce, hpz⟩; have HCe := Lib.hid hce; have HPz := Lib.hid hpz; obtain ⟨x0, x1, x2, x3, x4, x5, x6, x7⟩ := HKS.out _ hpz; clear hce hpz)
            | (go_at_call 128; refine (HBA.out _ HPe.out).mono ?_; rintro e u ⟨rfl, hpu⟩; have HPu := Lib.hid hpu; obtain ⟨x0, x1, x2, x3, x4, x5, x6, x7⟩ := HKS.out _ hpu; clear hpu))
        all_goals
          go_wp2_with (fail)
          refine ⟨⟨i + 1, r1, insA l' (free1 k1 o1 kids1 (aroundB 5 i bd)), A2, c2, rfl, rfl, HS.out.next, HCe.out, ?_, ?_, BH.trans HBh.out HPz.out⟩, by simp; omega⟩
          · have h := HIns.out
            rw [freeL_cons, insA_app] at h
            exact h
          · have h1 := insA_len (free1 k1 o1 kids1 (aroundB 5 i bd)) l'
            have h2 := free1_len k1 o1 kids1 (aroundB 5 i bd)
            have hll3 := Hll.out
            have hln := HLn.out
            simp only [fsize] at hll3
            omega
  · have hfB : freeB k o bd = false := by
      simp only [freeB, Bool.and_eq_false_iff, decide_eq_false_iff_not]
      by_cases hk : k = 5
      · exact .inr fun h => hfr ⟨hk, h⟩
      · exact .inl hk
    have HR1 : Hid (insA l (freeL k 0 bd kids) = R) := Lib.hid (by rw [← HR.out, free1, hfB]; rfl)
    have HL1 : Hid (l.length ≤ l.length + 1) := Lib.hid (by omega)
    have HBW := HB0
    have HX1 := HX
    have HCl : Hid (Cel (w.alloc (.cells #[.int .i64 k, .string ⟨t.toArray⟩, .int .i64 o, .slice A L c] 34 (0, 0))) 1 Al l.length cl (l.map (Value.int .i64))) := Lib.hid (HC.out.bh HB0.out)
    have t1 : k = 5 → decide (bd ≤ o) = false := fun h => by rw [decide_eq_false_iff_not]; exact fun h2 => hfr ⟨h, h2⟩
    obtain ⟨w1, hw1⟩ : ∃ w1, w.alloc (.cells #[.int .i64 k, .string ⟨t.toArray⟩, .int .i64 o, .slice A L c] 34 (0, 0)) = w1 := ⟨_, rfl⟩
    have HW1 := Lib.hid hw1
    clear hfB hw1
    by_cases hk : k = 5
    · subst hk
      have t2 := t1 rfl
      clear t1 hfr
      go_enter Tryz.func180, Tryz.ntmps180
      go_wp2_with (fail)
      rw [HW1.out] at HBW HX1 HCl b0 b1 b2 b3 ⊢
      go_loopw [2, 7] (fun lv iv wr => ∃ (i : Nat) (r : Fo) (l' : List Int) (A' : Option Addr) (c' : Nat), lv = .slice A' l'.length c' ∧ iv = .int .i64 (i : Int) ∧ Suf i r kids ∧ Cel wr 1 A' l'.length c' (l'.map (Value.int .i64)) ∧ insA l' (freeL 5 i bd r) = R ∧
        l'.length + fsize r ≤ l.length + fsize kids + 1 ∧ BH w1 wr) (fun _ iv _ => L - (match iv with | .int _ n => n.toNat | _ => 0))
      case atStart => exact ⟨0, kids, _, _, _, rfl, rfl, Suf.zero _, HCl.out, HR1.out, by have := HL1.out; omega, BH.refl _⟩
      case round =>
        obtain ⟨i, r, l', A', c', rfl, rfl, hsuf, hcel, hins, hll', hbh⟩ := hrel
        have hlen' := hsuf.len
        rw [HL.out] at hlen'
        have hbel : BH w wr := BH.trans HBW.out hbh
        have HCel := Lib.hid hcel
        have HIns := Lib.hid hins
        have hbs : w1.heap.size ≤ wr.heap.size := Below.size hbh
        have hw1s := heap_lt HX1.out
        have HX2 := Lib.hid ((Below.block hbh w.heap.size hw1s).trans HX1.out)
        obtain ⟨Ln, hLn⟩ : ∃ Ln, l'.length = Ln := ⟨_, rfl⟩
        have HLn := Lib.hid hLn
        rw [hLn] at hll' ⊢
        clear b0 b1 b2 b3 hcel hins hLn
        obtain ⟨b0, b1, b2, b3, _⟩ := row4 HX2.out
        cases r with
        | nil =>
          simp only [Fo.len] at hlen'
          have hge : decide (i < L) = false := by rw [decide_eq_false_iff_not]; omega
          have HB := Lib.hid hbel
          clear hlen' hsuf hbel hbh
          go_wp2_with (fail)
          go_ret
          have h := HIns.out
          simp only [freeL, insA, List.foldl_nil] at h
          rw [← h, ← HLn.out]
          exact ⟨_, _, rfl, HCel.out, HB.out⟩
        | cons k1 t1 kids1 o1 r1 =>
          obtain ⟨g, off, A1, c1, rfl, hgl, q0, q1, q2, q3, hk1⟩ := HK.out.get hsuf hbel
          obtain ⟨hkid, hil⟩ := hsuf.kid
          rw [HL.out] at hil
          have hge : decide ((i : Int) < (L : Int)) = true := by rw [decide_eq_true_eq]; omega
          have hiL : (i : Int) < (L : Int) := by omega
          have hi0 : (0 : Int) ≤ (i : Int) := by omega
          obtain ⟨ab0, ab1⟩ := aroundB_bounds 5 0 i
          have hab : bd + aroundB 5 i 0 = aroundB 5 i bd := by unfold aroundB; split <;> omega
          have HS := Lib.hid hsuf
          have HK1 := Lib.hid hk1
          have hbox := (Below.block hbh w.heap.size hw1s).trans HX1.out
          have Hll := Lib.hid hll'
          have HBh := Lib.hid hbh
          have HBel := Lib.hid hbel
          have HAb := Lib.hid hab
          obtain ⟨y, hy⟩ : ∃ y, aroundB 5 i 0 = y := ⟨_, rfl⟩
          rw [hy] at ab0 ab1 HAb
          have HY := Lib.hid hy
          have hwy : IntKind.i64.wrap (bd + y) = bd + y := (IntKind.wrap_i64 _).trans (by omega)
          have HWY := Lib.hid hwy
          clear hwy hy
          clear hk1 hsuf hlen' hll' hbh hbel hab
          go_upto_region 6 with (fail)
          have hBA : ∀ X, BH wr X → Calls Tryz.prog 128 #[.agg #[.int .i64 5, .string ⟨t.toArray⟩, .int .i64 o, .slice (some ⟨g, off, none⟩) L c], .int .i64 (i : Int)] X fun e u => e = .returned (.int .i64 y) ∧ BH wr u := fun X hX =>
            (binders_any 5 o i t _ L c X).mono fun e u h => ⟨by rw [← HY.out]; exact h.1, BH.trans hX h.2⟩
          have hCF : ∀ X, BH wr X → Calls Tryz.prog 180 #[.agg #[.int .i64 k1, .string ⟨t1.toArray⟩, .int .i64 o1, .slice A1 kids1.len c1], .int .i64 (bd + y), .slice A' Ln c'] X fun e u =>
              ∃ A2 c2, e = .returned (.slice A2 (insA l' (free1 k1 o1 kids1 (aroundB 5 i bd))).length c2) ∧ Cel u 1 A2 (insA l' (free1 k1 o1 kids1 (aroundB 5 i bd))).length c2 ((insA l' (free1 k1 o1 kids1 (aroundB 5 i bd))).map (Value.int .i64)) ∧ BH wr u := fun X hX => by
            have hll3 := Hll.out
            have hln := HLn.out
            simp only [fsize] at hll3
            obtain ⟨bb0, bb1⟩ := aroundB_bounds 5 bd i
            rw [HAb.out, ← HLn.out]
            refine (IH.out (fsize kids1) (by omega) k1 o1 (aroundB 5 i bd) t1 kids1 A1 c1 l' A' c' X (Nat.le_refl _) (by omega) (HK1.out.below (BH.trans HBel.out hX)) (HCel.out.bh hX) (by omega) (by omega) (by omega)).mono ?_
            rintro e u ⟨A2, c2, rfl, h1, h2⟩
            exact ⟨A2, c2, rfl, h1, BH.trans hX h2⟩
          have KS : ∀ X, BH wr X → X.cell? ⟨g, off + i * 4, none⟩ = some (.int .i64 k1) ∧ X.cell? ⟨g, off + i * 4 + 1, none⟩ = some (.string ⟨t1.toArray⟩) ∧ X.cell? ⟨g, off + i * 4 + 2, none⟩ = some (.int .i64 o1) ∧ X.cell? ⟨g, off + i * 4 + 3, none⟩ = some (.slice A1 kids1.len c1) ∧
              X.cell? ⟨w.heap.size, 0, none⟩ = some (.int .i64 5) ∧ X.cell? ⟨w.heap.size, 1, none⟩ = some (.string ⟨t.toArray⟩) ∧ X.cell? ⟨w.heap.size, 2, none⟩ = some (.int .i64 o) ∧ X.cell? ⟨w.heap.size, 3, none⟩ = some (.slice (some ⟨g, off, none⟩) L c) :=
            fun X h => ⟨h.cell q0, h.cell q1, h.cell q2, h.cell q3, h.cell b0, h.cell b1, h.cell b2, h.cell b3⟩
          have HBA := Lib.hid hBA
          have HCF := Lib.hid hCF
          have HKS := Lib.hid KS
          have HPe := Lib.hid (BH.drew wr)
          clear hBA hCF KS hbox
          have hwy := HWY.out
          go_region_held3 (fun w' => w'.cell? ⟨g, off + i * 4, none⟩ = some (.int .i64 k1) ∧ w'.cell? ⟨g, off + i * 4 + 1, none⟩ = some (.string ⟨t1.toArray⟩) ∧ w'.cell? ⟨g, off + i * 4 + 2, none⟩ = some (.int .i64 o1) ∧ w'.cell? ⟨g, off + i * 4 + 3, none⟩ = some (.slice A1 kids1.len c1) ∧
              w'.cell? ⟨w.heap.size, 0, none⟩ = some (.int .i64 5) ∧ w'.cell? ⟨w.heap.size, 1, none⟩ = some (.string ⟨t.toArray⟩) ∧ w'.cell? ⟨w.heap.size, 2, none⟩ = some (.int .i64 o) ∧ w'.cell? ⟨w.heap.size, 3, none⟩ = some (.slice (some ⟨g, off, none⟩) L c)) (go_keep)
            (first
              | (go_at_call 180; refine (HCF.out _ HPu.out).mono ?_; rintro e u2 ⟨A2, c2, rfl, hce, hpz⟩; have HCe := Lib.hid hce; have HPz := Lib.hid hpz; obtain ⟨x0, x1, x2, x3, x4, x5, x6, x7⟩ := HKS.out _ hpz; clear hce hpz)
              | (go_at_call 128; refine (HBA.out _ HPe.out).mono ?_; rintro e u ⟨rfl, hpu⟩; have HPu := Lib.hid hpu; obtain ⟨x0, x1, x2, x3, x4, x5, x6, x7⟩ := HKS.out _ hpu; clear hpu))
          all_goals
            go_wp2_with (fail)
            refine ⟨⟨i + 1, r1, insA l' (free1 k1 o1 kids1 (aroundB 5 i bd)), A2, c2, rfl, rfl, HS.out.next, HCe.out, ?_, ?_, BH.trans HBh.out HPz.out⟩, by simp; omega⟩
            · have h := HIns.out
              rw [freeL_cons, insA_app] at h
              exact h
            · have h1 := insA_len (free1 k1 o1 kids1 (aroundB 5 i bd)) l'
              have h2 := free1_len k1 o1 kids1 (aroundB 5 i bd)
              have hll3 := Hll.out
              have hln := HLn.out
              simp only [fsize] at hll3
              omega
    · have t2 : (k == 5) = false := by simp [hk]
      clear t1 hfr
      go_enter Tryz.func180, Tryz.ntmps180
      go_wp2_with (fail)
      rw [HW1.out] at HBW HX1 HCl b0 b1 b2 b3 ⊢
      go_loopw [2, 7] (fun lv iv wr => ∃ (i : Nat) (r : Fo) (l' : List Int) (A' : Option Addr) (c' : Nat), lv = .slice A' l'.length c' ∧ iv = .int .i64 (i : Int) ∧ Suf i r kids ∧ Cel wr 1 A' l'.length c' (l'.map (Value.int .i64)) ∧ insA l' (freeL k i bd r) = R ∧
        l'.length + fsize r ≤ l.length + fsize kids + 1 ∧ BH w1 wr) (fun _ iv _ => L - (match iv with | .int _ n => n.toNat | _ => 0))
      case atStart => exact ⟨0, kids, _, _, _, rfl, rfl, Suf.zero _, HCl.out, HR1.out, by have := HL1.out; omega, BH.refl _⟩
      case round =>
        obtain ⟨i, r, l', A', c', rfl, rfl, hsuf, hcel, hins, hll', hbh⟩ := hrel
        have hlen' := hsuf.len
        rw [HL.out] at hlen'
        have hbel : BH w wr := BH.trans HBW.out hbh
        have HCel := Lib.hid hcel
        have HIns := Lib.hid hins
        have hbs : w1.heap.size ≤ wr.heap.size := Below.size hbh
        have hw1s := heap_lt HX1.out
        have HX2 := Lib.hid ((Below.block hbh w.heap.size hw1s).trans HX1.out)
        obtain ⟨Ln, hLn⟩ : ∃ Ln, l'.length = Ln := ⟨_, rfl⟩
        have HLn := Lib.hid hLn
        rw [hLn] at hll' ⊢
        clear b0 b1 b2 b3 hcel hins hLn
        obtain ⟨b0, b1, b2, b3, _⟩ := row4 HX2.out
        cases r with
        | nil =>
          simp only [Fo.len] at hlen'
          have hge : decide (i < L) = false := by rw [decide_eq_false_iff_not]; omega
          have HB := Lib.hid hbel
          clear hlen' hsuf hbel hbh
          go_wp2_with (fail)
          go_ret
          have h := HIns.out
          simp only [freeL, insA, List.foldl_nil] at h
          rw [← h, ← HLn.out]
          exact ⟨_, _, rfl, HCel.out, HB.out⟩
        | cons k1 t1 kids1 o1 r1 =>
          obtain ⟨g, off, A1, c1, rfl, hgl, q0, q1, q2, q3, hk1⟩ := HK.out.get hsuf hbel
          obtain ⟨hkid, hil⟩ := hsuf.kid
          rw [HL.out] at hil
          have hge : decide ((i : Int) < (L : Int)) = true := by rw [decide_eq_true_eq]; omega
          have hiL : (i : Int) < (L : Int) := by omega
          have hi0 : (0 : Int) ≤ (i : Int) := by omega
          obtain ⟨ab0, ab1⟩ := aroundB_bounds k 0 i
          have hab : bd + aroundB k i 0 = aroundB k i bd := by unfold aroundB; split <;> omega
          have HS := Lib.hid hsuf
          have HK1 := Lib.hid hk1
          have hbox := (Below.block hbh w.heap.size hw1s).trans HX1.out
          have Hll := Lib.hid hll'
          have HBh := Lib.hid hbh
          have HBel := Lib.hid hbel
          have HAb := Lib.hid hab
          obtain ⟨y, hy⟩ : ∃ y, aroundB k i 0 = y := ⟨_, rfl⟩
          rw [hy] at ab0 ab1 HAb
          have HY := Lib.hid hy
          have hwy : IntKind.i64.wrap (bd + y) = bd + y := (IntKind.wrap_i64 _).trans (by omega)
          have HWY := Lib.hid hwy
          clear hwy hy
          clear hk1 hsuf hlen' hll' hbh hbel hab
          go_upto_region 6 with (fail)
          have hBA : ∀ X, BH wr X → Calls Tryz.prog 128 #[.agg #[.int .i64 k, .string ⟨t.toArray⟩, .int .i64 o, .slice (some ⟨g, off, none⟩) L c], .int .i64 (i : Int)] X fun e u => e = .returned (.int .i64 y) ∧ BH wr u := fun X hX =>
            (binders_any k o i t _ L c X).mono fun e u h => ⟨by rw [← HY.out]; exact h.1, BH.trans hX h.2⟩
          have hCF : ∀ X, BH wr X → Calls Tryz.prog 180 #[.agg #[.int .i64 k1, .string ⟨t1.toArray⟩, .int .i64 o1, .slice A1 kids1.len c1], .int .i64 (bd + y), .slice A' Ln c'] X fun e u =>
              ∃ A2 c2, e = .returned (.slice A2 (insA l' (free1 k1 o1 kids1 (aroundB k i bd))).length c2) ∧ Cel u 1 A2 (insA l' (free1 k1 o1 kids1 (aroundB k i bd))).length c2 ((insA l' (free1 k1 o1 kids1 (aroundB k i bd))).map (Value.int .i64)) ∧ BH wr u := fun X hX => by
            have hll3 := Hll.out
            have hln := HLn.out
            simp only [fsize] at hll3
            obtain ⟨bb0, bb1⟩ := aroundB_bounds k bd i
            rw [HAb.out, ← HLn.out]
            refine (IH.out (fsize kids1) (by omega) k1 o1 (aroundB k i bd) t1 kids1 A1 c1 l' A' c' X (Nat.le_refl _) (by omega) (HK1.out.below (BH.trans HBel.out hX)) (HCel.out.bh hX) (by omega) (by omega) (by omega)).mono ?_
            rintro e u ⟨A2, c2, rfl, h1, h2⟩
            exact ⟨A2, c2, rfl, h1, BH.trans hX h2⟩
          have KS : ∀ X, BH wr X → X.cell? ⟨g, off + i * 4, none⟩ = some (.int .i64 k1) ∧ X.cell? ⟨g, off + i * 4 + 1, none⟩ = some (.string ⟨t1.toArray⟩) ∧ X.cell? ⟨g, off + i * 4 + 2, none⟩ = some (.int .i64 o1) ∧ X.cell? ⟨g, off + i * 4 + 3, none⟩ = some (.slice A1 kids1.len c1) ∧
              X.cell? ⟨w.heap.size, 0, none⟩ = some (.int .i64 k) ∧ X.cell? ⟨w.heap.size, 1, none⟩ = some (.string ⟨t.toArray⟩) ∧ X.cell? ⟨w.heap.size, 2, none⟩ = some (.int .i64 o) ∧ X.cell? ⟨w.heap.size, 3, none⟩ = some (.slice (some ⟨g, off, none⟩) L c) :=
            fun X h => ⟨h.cell q0, h.cell q1, h.cell q2, h.cell q3, h.cell b0, h.cell b1, h.cell b2, h.cell b3⟩
          have HBA := Lib.hid hBA
          have HCF := Lib.hid hCF
          have HKS := Lib.hid KS
          have HPe := Lib.hid (BH.drew wr)
          clear hBA hCF KS hbox
          have hwy := HWY.out
          go_region_held3 (fun w' => w'.cell? ⟨g, off + i * 4, none⟩ = some (.int .i64 k1) ∧ w'.cell? ⟨g, off + i * 4 + 1, none⟩ = some (.string ⟨t1.toArray⟩) ∧ w'.cell? ⟨g, off + i * 4 + 2, none⟩ = some (.int .i64 o1) ∧ w'.cell? ⟨g, off + i * 4 + 3, none⟩ = some (.slice A1 kids1.len c1) ∧
              w'.cell? ⟨w.heap.size, 0, none⟩ = some (.int .i64 k) ∧ w'.cell? ⟨w.heap.size, 1, none⟩ = some (.string ⟨t.toArray⟩) ∧ w'.cell? ⟨w.heap.size, 2, none⟩ = some (.int .i64 o) ∧ w'.cell? ⟨w.heap.size, 3, none⟩ = some (.slice (some ⟨g, off, none⟩) L c)) (go_keep)
            (first
              | (go_at_call 180; refine (HCF.out _ HPu.out).mono ?_; rintro e u2 ⟨A2, c2, rfl, hce, hpz⟩; have HCe := Lib.hid hce; have HPz := Lib.hid hpz; obtain ⟨x0, x1, x2, x3, x4, x5, x6, x7⟩ := HKS.out _ hpz; clear hce hpz)
              | (go_at_call 128; refine (HBA.out _ HPe.out).mono ?_; rintro e u ⟨rfl, hpu⟩; have HPu := Lib.hid hpu; obtain ⟨x0, x1, x2, x3, x4, x5, x6, x7⟩ := HKS.out _ hpu; clear hpu))
          all_goals
            go_wp2_with (fail)
            refine ⟨⟨i + 1, r1, insA l' (free1 k1 o1 kids1 (aroundB k i bd)), A2, c2, rfl, rfl, HS.out.next, HCe.out, ?_, ?_, BH.trans HBh.out HPz.out⟩, by simp; omega⟩
            · have h := HIns.out
              rw [freeL_cons, insA_app] at h
              exact h
            · have h1 := insA_len (free1 k1 o1 kids1 (aroundB k i bd)) l'
              have h2 := free1_len k1 o1 kids1 (aroundB k i bd)
              have hll3 := Hll.out
              have hln := HLn.out
              simp only [fsize] at hll3
              omega

theorem rTermFreeVars_any (k o : Int) (t : List UInt8) (kids : Fo) (A : Option Addr) (c : Nat) (w : World) (hN2 : fsize kids ≤ 1073741824) (hK : KT w kids A c) :
    Calls Tryz.prog 155 #[.agg #[.int .i64 k, .string ⟨t.toArray⟩, .int .i64 o, .slice A kids.len c]] w fun e w' =>
      ∃ A' c', e = .returned (.slice A' (insA [] (free1 k o kids 0)).length c') ∧ Cel w' 1 A' (insA [] (free1 k o kids 0)).length c' ((insA [] (free1 k o kids 0)).map (Value.int .i64)) ∧ BH w w' := by
  obtain ⟨b0, b1, b2, b3⟩ := box4 w (.int .i64 k) (.string ⟨t.toArray⟩) (.int .i64 o) (.slice A kids.len c) 34
  have HB := Lib.hid (show BH w (w.alloc (.cells #[.int .i64 k, .string ⟨t.toArray⟩, .int .i64 o, .slice A kids.len c] 34 (0, 0))) from bh_alloc (BH.refl _) _)
  have HK := Lib.hid (hK.below HB.out)
  clear hK
  go_enter Tryz.func155, Tryz.ntmps155
  go_wp2_with (fail)
  refine (rfreeVars_any _ k o 0 t kids A c [] none 0 _ (Nat.le_refl _) hN2 HK.out (Cel.nil _ _) (by decide) (by omega) (by simp only [List.length_nil]; omega)).mono ?_
  rintro e w1 ⟨A', c', rfl, hc, hb⟩
  have HC := Lib.hid hc
  have HB1 := Lib.hid (BH.trans HB.out hb)
  clear hc hb
  go_wp2_with (fail)
  go_ret
  exact ⟨_, _, rfl, HC.out, HB1.out⟩

theorem rTermClosed_any (k o : Int) (t : List UInt8) (kids : Fo) (A : Option Addr) (c : Nat) (w : World) (hN2 : fsize kids ≤ 1073741824) (hK : KT w kids A c) {V : Bool} (hV : closed1 k o kids 0 = V) :
    Calls Tryz.prog 184 #[.agg #[.int .i64 k, .string ⟨t.toArray⟩, .int .i64 o, .slice A kids.len c]] w fun e w' => e = .returned (.bool V) ∧ BH w w' := by
  obtain ⟨b0, b1, b2, b3⟩ := box4 w (.int .i64 k) (.string ⟨t.toArray⟩) (.int .i64 o) (.slice A kids.len c) 34
  have HB := Lib.hid (show BH w (w.alloc (.cells #[.int .i64 k, .string ⟨t.toArray⟩, .int .i64 o, .slice A kids.len c] 34 (0, 0))) from bh_alloc (BH.refl _) _)
  have HK := Lib.hid (hK.below HB.out)
  have hz : ((insA [] (free1 k o kids 0)).length = 0) ↔ V = true := by
    rw [List.length_eq_zero_iff, insA_nil, free1_nil, hV]
  obtain ⟨n, hn⟩ : ∃ n, (insA [] (free1 k o kids 0)).length = n := ⟨_, rfl⟩
  rw [hn] at hz
  have HN := Lib.hid hn
  clear hK hn hV
  cases V with
  | true =>
    obtain rfl : n = 0 := hz.2 rfl
    clear hz
    go_enter Tryz.func184, Tryz.ntmps184
    go_wp2_with (fail)
    refine (rTermFreeVars_any k o t kids A c _ hN2 HK.out).mono ?_
    rintro e w1 ⟨A', c', rfl, hc, hb⟩
    rw [HN.out]
    have HB1 := Lib.hid (BH.trans HB.out hb)
    clear hc hb
    go_wp2_with (fail)
    go_ret
    exact ⟨rfl, HB1.out⟩
  | false =>
    have hn0 : ¬ n = 0 := fun e => by have := hz.1 e; cases this
    have t1 : ((n : Int) == 0) = false := by rw [beq_eq_false_iff_ne]; omega
    clear hz
    go_enter Tryz.func184, Tryz.ntmps184
    go_wp2_with (fail)
    refine (rTermFreeVars_any k o t kids A c _ hN2 HK.out).mono ?_
    rintro e w1 ⟨A', c', rfl, hc, hb⟩
    rw [HN.out]
    have HB1 := Lib.hid (BH.trans HB.out hb)
    clear hc hb
    go_wp2_with (fail)
    go_ret
    exact ⟨rfl, HB1.out⟩
end Go.Proofs.YtpkiheenkpcebaaGreatDoor
namespace Go.Proofs.YtpkiheenkpcebaaGreatDoor
open Go.RowKit Sx

set_option maxHeartbeats 4000000 in
theorem rPlain_any (N : Nat) : ∀ (k o : Int) (t : List UInt8) (kids : Fo) (A : Option Addr) (c : Nat) (w : World), fsize kids ≤ N → fsize kids ≤ 1073741824 → KT w kids A c →
    Calls Tryz.prog 157 #[.agg #[.int .i64 k, .string ⟨t.toArray⟩, .int .i64 o, .slice A kids.len c]] w fun e w' => e = .returned (.bool (plain1 k o kids)) ∧ BH w w' := by
  induction N using Nat.strongRecOn with
  | ind N ih =>
  intro k o t kids A c w hN hN2 hK
  have IH := Lib.hid ih
  have HK := Lib.hid hK
  clear ih hK
  have hlen := len_le_fsize kids
  have hB0 : BH w (w.alloc (.cells #[.int .i64 k, .string ⟨t.toArray⟩, .int .i64 o, .slice A kids.len c] 34 (0, 0))) := bh_alloc (BH.refl _) _
  have HTC := Lib.hid (fun (V : Bool) (hV : closed1 k o kids 0 = V) => rTermClosed_any k o t kids A c _ hN2 (HK.out.below hB0) hV)
  obtain ⟨L, hL⟩ : ∃ L, kids.len = L := ⟨_, rfl⟩
  rw [hL] at hlen hB0 HTC ⊢
  have HL := Lib.hid hL
  clear hL
  have HB0 := Lib.hid hB0
  have HX := Lib.hid (heap_alloc_new w (.cells #[.int .i64 k, .string ⟨t.toArray⟩, .int .i64 o, .slice A L c] 34 (0, 0)))
  clear hB0
  obtain ⟨b0, b1, b2, b3⟩ := box4 w (.int .i64 k) (.string ⟨t.toArray⟩) (.int .i64 o) (.slice A L c) 34
  by_cases h5 : k = 5
  · subst h5
    rw [show plain1 5 o kids = true from rfl]
    go_enter Tryz.func157, Tryz.ntmps157
    go_wp2_with (fail)
    go_ret
    exact ⟨rfl, HB0.out⟩
  have t5 : (k == 5) = false := by simp [h5]
  cases hcl : closed1 k o kids 0 with
  | true =>
    rw [closed_plain1 hcl]
    have HT := Lib.hid (HTC.out true hcl)
    clear hcl h5
    go_enter Tryz.func157, Tryz.ntmps157
    go_wp2_with (fail)
    refine HT.out.mono ?_
    rintro e w1 ⟨rfl, hb⟩
    have HB := Lib.hid (BH.trans HB0.out hb)
    clear hb
    go_wp2_with (fail)
    go_ret
    exact ⟨rfl, HB.out⟩
  | false =>
    have HT := Lib.hid (HTC.out false hcl)
    obtain ⟨P, hP⟩ : ∃ P, plain1 k o kids = P := ⟨_, rfl⟩
    have hP2 : P = (plainL kids && decide (k = 2)) := by
      rw [← hP, plain1, if_neg h5]
      by_cases h2 : k = 2
      · simp [h2]
      · rw [if_neg h2, hcl]; simp [h2]
    rw [hP]
    obtain ⟨V, hV⟩ : ∃ V, plainL kids = V := ⟨_, rfl⟩
    rw [hV] at hP2
    have HV := Lib.hid hV
    have HP := Lib.hid hP2
    clear hcl hP hP2 hV h5
    go_enter Tryz.func157, Tryz.ntmps157
    go_wp2_with (fail)
    refine HT.out.mono ?_
    rintro e w1 ⟨rfl, hb⟩
    have HBW := Lib.hid (BH.trans HB0.out hb)
    have HX1 := Lib.hid ((Below.block hb w.heap.size (by simp)).trans HX.out)
    clear hb b0 b1 b2 b3
    obtain ⟨b0, b1, b2, b3, _⟩ := row4 HX1.out
    go_wp2_with (fail)
    go_loopw [3] (fun iv wr => ∃ (i : Nat) (r : Fo), iv = .int .i64 (i : Int) ∧ Suf i r kids ∧ plainL r = V ∧ BH w1 wr) (fun iv _ => L - (match iv with | .int _ n => n.toNat | _ => 0))
    case atStart => exact ⟨0, kids, rfl, Suf.zero _, HV.out, BH.refl _⟩
    case round =>
      obtain ⟨i, r, rfl, hsuf, hcl, hbh⟩ := hrel
      have hlen' := hsuf.len
      rw [HL.out] at hlen'
      have hbel : BH w wr := BH.trans HBW.out hbh
      have hw1s := heap_lt HX1.out
      have HX2 := Lib.hid ((Below.block hbh w.heap.size hw1s).trans HX1.out)
      clear b0 b1 b2 b3
      obtain ⟨b0, b1, b2, b3, _⟩ := row4 HX2.out
      cases r with
      | nil =>
        simp only [Fo.len] at hlen'
        have hge : decide (i < L) = false := by rw [decide_eq_false_iff_not]; omega
        have HN : Hid (V = true) := Lib.hid (by rw [← hcl]; rfl)
        have HB := Lib.hid hbel
        clear hcl hlen' hbel hsuf hbh
        by_cases h2 : k = 2
        · subst h2
          go_wp2_with (fail)
          go_ret
          exact ⟨congrArg (fun z : Bool => Ending.returned (.bool z)) (by rw [HP.out, HN.out]; rfl), HB.out⟩
        · have t2 : (k == 2) = false := by simp [h2]
          have HQ : Hid (P = false) := Lib.hid (by rw [HP.out]; simp [h2])
          clear h2
          go_wp2_with (fail)
          go_ret
          exact ⟨congrArg (fun z : Bool => Ending.returned (.bool z)) (by rw [HQ.out]), HB.out⟩
      | cons k1 t1 kids1 o1 r1 =>
        obtain ⟨g, off, A1, c1, rfl, hgl, q0, q1, q2, q3, hk1⟩ := HK.out.get hsuf hbel
        obtain ⟨hkid, hil⟩ := hsuf.kid
        rw [HL.out] at hil
        have hge : decide ((i : Int) < (L : Int)) = true := by rw [decide_eq_true_eq]; omega
        have hiL : (i : Int) < (L : Int) := by omega
        have hi0 : (0 : Int) ≤ (i : Int) := by omega
        rw [plainL_cons] at hcl
        have HC := Lib.hid hcl
        have HS := Lib.hid hsuf
        have HK1 := Lib.hid (hk1.below hbel)
        have HBh := Lib.hid hbh
        have HBel := Lib.hid hbel
        obtain ⟨V1, hV1⟩ : ∃ V1, plain1 k1 o1 kids1 = V1 := ⟨_, rfl⟩
        have HV1 := Lib.hid hV1
        have HIP := Lib.hid (IH.out (fsize kids1) (by omega) k1 o1 t1 kids1 A1 c1 wr (Nat.le_refl _) (by omega) HK1.out)
        rw [hV1] at HIP
        clear hk1 hcl hsuf hbel hlen' hV1 hbh
        go_wp2_with (fail)
        refine HIP.out.mono ?_
        rintro e1 w2 ⟨rfl, hb1⟩
        have HB2 := Lib.hid hb1
        clear hb1
        cases V1 with
        | true =>
          go_wp2_with (fail)
          exact ⟨⟨i + 1, r1, rfl, HS.out.next, by have h := HC.out; rw [HV1.out, Bool.true_and] at h; exact h, BH.trans HBh.out HB2.out⟩, by simp; omega⟩
        | false =>
          go_wp2_with (fail)
          go_ret
          exact ⟨congrArg (fun z : Bool => Ending.returned (.bool z)) (by have h := HC.out; rw [HV1.out, Bool.false_and] at h; rw [HP.out, ← h]; rfl), BH.trans HBel.out HB2.out⟩
end Go.Proofs.YtpkiheenkpcebaaGreatDoor
