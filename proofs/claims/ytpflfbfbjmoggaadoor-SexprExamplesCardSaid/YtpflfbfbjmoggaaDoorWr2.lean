/- sexpr.write and sexpr.Format: the text of a node that can be written. No condition but bounded lengths and nesting. -/
import Derived.Test.YtpflfbfbjmoggaaDoorWrt
import Derived.Test.YtpflfbfbjmoggaaDoorVal
import Derived.Test.YtpflfbfbjmoggaaDoorShelf
set_option linter.unusedVariables false
set_option linter.unusedSimpArgs false
namespace Go.Proofs.YtpflfbfbjmoggaaDoor
open Go.RowKit Go.Lib Sx

set_option maxHeartbeats 4000000 in
set_option maxRecDepth 100000 in
theorem write_ba (B b : Nat) (N : Nat) : ∀ (used : Bool) (v : Value) (l : List UInt8) (k o : Int) (t : List UInt8) (kids : Fo) (A : Option Addr) (c : Nat) (ys : List Value) (S : Nat → Prop) (w : World), fsize kids ≤ N → fsize kids ≤ 1073741824 → readsAt w S A kids.len ys → rowOf w S kids ys → (∀ x, S x → x < B) → vF (.one k t kids o) →
    BA B b used v (Lib.byteCells l) w → l.length + (fmt1 k t (fmtF false kids)).length ≤ 8388608 → B ≤ w.heap.size →
    Calls Tryd.prog 50 #[.pointer (some ⟨b, 0, none⟩), .agg #[.int .i64 k, .string ⟨t.toArray⟩, .slice A kids.len c, .int .i64 o]] w fun e w' => ∃ v', e = .returned (.tuple #[]) ∧ BA B b true v' (Lib.byteCells (l ++ fmt1 k t (fmtF false kids))) w' ∧ Below B w w' := by
  induction N using Nat.strongRecOn with
  | ind N ih =>
  intro used v l k o t kids A c ys S w hN hN2 hra hxa hSB hv hba hlen hBw
  have IH := Lib.hid ih
  have HBA := Lib.hid hba
  clear ih
  have hblt := hba.lt
  clear hba
  rcases hv.1 with ⟨rfl, rfl, hw⟩ | ⟨rfl, rfl, hs⟩ | ⟨rfl, rfl, hk⟩
  · have hbx := heap_alloc_new w (.cells #[.int .i64 1, .string ⟨t.toArray⟩, .slice A 0 c, .int .i64 o] 31 (0, 0))
    obtain ⟨b0, b1, b2, b3, z0, z1, z2, z3⟩ := row4 hbx
    have hz : (ByteArray.mk t.toArray).size = t.length := by show t.toArray.size = _; simp
    simp only [fmt1, if_true] at hlen
    have HZ := Lib.hid hz
    clear hra hxa hv hbx hw hz
    simp only [Fo.len] at *
    go_enter Tryd.func50, Tryd.ntmps50
    go_wp2_with (fail)
    refine (writeString_ba B b used v _ ⟨t.toArray⟩ _ (HBA.out.alloc _) (by rw [bc_len, HZ.out]; omega) (by simp; omega)).mono ?_
    rintro e w1 ⟨v1, rfl, h1, hb1⟩
    have H1 := Lib.hid h1
    have HB1 := Lib.hid hb1
    clear h1 hb1
    go_wp2_with (fail)
    go_end0
    refine ⟨v1, rfl, ?_, ((Below.refl B w).alloc hBw _).trans HB1.out⟩
    have := H1.out
    rw [bc_str] at this
    exact this
  · have hbx := heap_alloc_new w (.cells #[.int .i64 2, .string ⟨t.toArray⟩, .slice A 0 c, .int .i64 o] 31 (0, 0))
    obtain ⟨b0, b1, b2, b3, z0, z1, z2, z3⟩ := row4 hbx
    simp only [fmt1, show ¬ ((2 : Int) = 1) from by decide, if_false, if_true] at hlen
    clear hra hxa hv hbx hs
    simp only [Fo.len] at *
    go_enter Tryd.func50, Tryd.ntmps50
    go_wp2_with (fail)
    refine (writeQuoted_ba B b used v l t _ (HBA.out.alloc _) (by omega) (by simp; omega)).mono ?_
    rintro e w1 ⟨v1, rfl, h1, hb1⟩
    have H1 := Lib.hid h1
    have HB1 := Lib.hid hb1
    clear h1 hb1
    go_wp2_with (fail)
    go_end0
    exact ⟨v1, rfl, H1.out, ((Below.refl B w).alloc hBw _).trans HB1.out⟩
  · have hf : fmt1 3 [] (fmtF false kids) = 40 :: (fmtF false kids ++ [41]) := rfl
    rw [hf] at hlen ⊢
    simp only [List.length_cons, List.length_append, List.length_nil] at hlen
    have HV := Lib.hid hk
    have hrow := rowAt_start hra hxa
    have hlen' := len_le_fsize kids
    obtain ⟨L, hLL⟩ : ∃ L, kids.len = L := ⟨_, rfl⟩
    have hA : 0 < L → ∃ g off : Nat, A = some ⟨g, off, none⟩ ∧ g < w.heap.size ∧ g < B := fun h => by rw [← hLL] at h; obtain ⟨g, off, h, hS, hl, _⟩ := hra h; exact ⟨g, off, h, hl, hSB g hS⟩
    clear hra hv hk hf
    rw [hLL] at hlen' ⊢
    have HL := Lib.hid hLL
    have HX := Lib.hid hxa
    have HR := Lib.hid hrow
    have HSB := Lib.hid hSB
    clear hxa hrow hLL hSB
    obtain ⟨F, hF⟩ : ∃ F, fmtF false kids = F := ⟨_, rfl⟩
    rw [hF] at hlen ⊢
    have HF := Lib.hid hF
    clear hF
    have hbx := heap_alloc_new w (.cells #[.int .i64 3, .string ⟨#[]⟩, .slice A L c, .int .i64 o] 31 (0, 0))
    have HBX := Lib.hid hbx
    obtain ⟨b0, b1, b2, b3, z0, z1, z2, z3⟩ := row4 hbx
    clear hbx
    go_enter Tryd.func50, Tryd.ntmps50
    go_wp2_with (fail)
    refine (wb B b used v l 40 40 rfl _ (HBA.out.alloc _) (by omega) (by simp; omega)).mono ?_
    rintro e w1 ⟨v1, rfl, h1, hkp, hb1⟩
    have hvown : v.ownBlock ≠ some w.heap.size := fun e => by have := (HBA.out.2.1.lt _ e).2; omega
    have hbx1 := (hkp.block w.heap.size (by simp) (by omega) hvown).trans HBX.out
    obtain ⟨d0, d1, d2, d3, y0, y1, y2, y3⟩ := row4 hbx1
    have H1 := Lib.hid h1
    have HB1 := Lib.hid (((Below.refl B w).alloc hBw _).trans hb1)
    clear h1 hkp hb1 hbx1 hvown b0 b1 b2 b3 z0 z1 z2 z3
    go_wp2_with (fail)
    go_loopw [4, 5, 27] (fun _ _ iv wr => ∃ (i : Nat) (vr : Value) (dn : List UInt8) (r : Fo) (xs : List Value), iv = .int .i64 (i : Int) ∧ i + r.len = L ∧ dn ++ fmtF (decide (0 < i)) r = l ++ 40 :: F ∧ vF r ∧ fsize r ≤ fsize kids ∧ rowOf w S r xs ∧ rowAt w A i xs ∧ BA B b true vr (Lib.byteCells dn) wr ∧ Below B w wr) (fun _ _ iv _ => L - (match iv with | .int _ n => n.toNat | _ => 0))
    case atStart => exact ⟨0, v1, l ++ [40], kids, ys, rfl, by rw [HL.out]; omega, by rw [show decide (0 < 0) = false from rfl, HF.out]; simp, HV.out, Nat.le_refl _, HX.out, HR.out, H1.out, HB1.out⟩
    case round =>
      obtain ⟨i, vr, dn, r, xs, rfl, hi, hdn, hvr, hsz, hx, hcx, hba, hbel⟩ := hrel
      have hbs := hbel.size
      have hBr : B ≤ wr.heap.size := by omega
      have hrb := hba.lt
      have hrow := hba.2.1.lt
      have hdl : dn.length + (fmtF (decide (0 < i)) r).length = l.length + 1 + F.length := by
        have := congrArg List.length hdn
        simp only [List.length_append, List.length_cons] at this
        omega
      have HDN := Lib.hid hdn
      have HBR := Lib.hid hba
      have HBL := Lib.hid hbel
      have HRW := Lib.hid hrow
      clear hdn hba hrow
      cases r with
      | nil =>
        simp only [Fo.len] at hi
        have hge : decide (i < L) = false := by simp; omega
        have Hi := Lib.hid hi
        simp only [fmtF, List.length_nil] at hdl
        clear hi hbel
        go_wp2_with (fail)
        refine (wb B b true vr dn 41 41 rfl _ HBR.out (by omega) hBr).mono ?_
        rintro e w2 ⟨v2, rfl, h2, _, hb2⟩
        have H2 := Lib.hid h2
        have HB2 := Lib.hid hb2
        clear h2 hb2
        go_wp2_with (fail)
        go_end0
        refine ⟨v2, rfl, ?_, HBL.out.trans HB2.out⟩
        have h := HDN.out
        simp only [fmtF, List.append_nil] at h
        have h2 := H2.out
        rw [h] at h2
        rw [show l ++ 40 :: (F ++ [41]) = (l ++ 40 :: F) ++ [41] from by simp]
        exact h2
      | cons k1 t1 kids1 o1 r1 =>
        obtain ⟨A1, c1, ys1, zs, rfl, hc1, hr1, hk1, hrest1⟩ := hx
        obtain ⟨hlc, hlc2⟩ := fmtF_cons_len (decide (0 < i)) k1 t1 kids1 o1 r1
        have hv1 : vF (.one k1 t1 kids1 o1) := ⟨hvr.1, trivial⟩
        have Hvr := Lib.hid hvr.2
        simp only [Fo.len, fsize] at hi hsz
        obtain ⟨g, off, rfl, hgl, hgB⟩ := hA (by omega)
        have hge : decide ((i : Int) < (L : Int)) = true := by simp; omega
        have hcel : ∀ (p : Addr) (u : Value), p.block < B → w.cell? p = some u → wr.cell? p = some u := fun p u hp hu => (World.cell?_of_block (HBL.out.block p.block hp)).trans hu
        have a0 := hcel ⟨g, _, none⟩ _ hgB (hcx g off rfl 0 _ rfl)
        have a1 := hcel ⟨g, _, none⟩ _ hgB (hcx g off rfl 1 _ rfl)
        have a2 := hcel ⟨g, _, none⟩ _ hgB (hcx g off rfl 2 _ rfl)
        have a3 := hcel ⟨g, _, none⟩ _ hgB (hcx g off rfl 3 _ rfl)
        simp only [Nat.add_zero] at a0
        have hiL : (i : Int) < (L : Int) := by omega
        have hi0 : (0 : Int) ≤ (i : Int) := by omega
        have hne : ¬ g = wr.heap.size := by omega
        have Hi := Lib.hid hi
        have hbn := heap_alloc_new wr (.cells #[.int .i64 k1, .string ⟨t1.toArray⟩, .slice A1 kids1.len c1, .int .i64 o1] 31 (0, 0))
        have HBN := Lib.hid hbn
        have hv' : vr.ownBlock ≠ some wr.heap.size := fun e => by have := (HRW.out _ e).2; omega
        have HV' := Lib.hid hv'
        have hB1 : Below B w (wr.alloc (.cells #[.int .i64 k1, .string ⟨t1.toArray⟩, .slice A1 kids1.len c1, .int .i64 o1] 31 (0, 0))) := HBL.out.alloc hBr _
        have HBB := Lib.hid hB1
        clear hi hvr hbn hcel hv' hB1 hbel
        by_cases h0 : 0 < i
        · have hg0 : decide ((0 : Int) < (i : Int)) = true := by simp; omega
          have hd0 : decide (0 < i) = true := by simp; exact h0
          go_wp2_with (fail)
          refine (wb B b true vr dn 32 32 rfl _ (HBR.out.alloc _) (by omega) (by simp; omega)).mono ?_
          rintro e w2 ⟨v2, rfl, h2, hkp, hb2⟩
          have hbn2 := (hkp.block wr.heap.size (by simp) (by omega) HV'.out).trans HBN.out
          obtain ⟨p0, p1, p2, p3, z0, z1, z2, z3⟩ := row4 hbn2
          have hs2 := hb2.size
          have hs2' : B ≤ w2.heap.size := by simp at hs2; omega
          have H2 := Lib.hid h2
          have HB2 := Lib.hid (HBB.out.trans hb2)
          clear h2 hkp hb2 hbn2 hs2
          go_wp2_with (fail)
          have hkp : ∀ x, S x → x < w.heap.size → w2.heap[x]? = w.heap[x]? ∧ S x := fun x hx _ => ⟨HB2.out.block x (HSB.out x hx), hx⟩
          refine (IH.out (fsize kids1) (by omega) true v2 (dn ++ [32]) k1 o1 t1 kids1 A1 c1 ys1 S w2 (Nat.le_refl _) (by omega) (hr1.keep HB2.out.size hkp) (hk1.keep HB2.out.size hkp _) HSB.out hv1 H2.out (by simp only [fmtF, hd0, if_true, List.length_append, List.length_cons, List.length_nil] at hdl ⊢; omega) hs2').mono ?_
          rintro e w3 ⟨v3, rfl, h3, hb3⟩
          have H3 := Lib.hid h3
          have HB3 := Lib.hid hb3
          clear h3 hb3 hkp
          go_wp2_with (fail)
          have hi := Hi.out
          refine ⟨⟨i + 1, v3, _, r1, zs, rfl, by omega, ?_, Hvr.out, by omega, hrest1, rowAt_next hcx, H3.out, HB2.out.trans HB3.out⟩, by simp; omega⟩
          have h := HDN.out
          rw [hd0] at h
          simp only [fmtF, if_true] at h
          rw [show decide (0 < i + 1) = true from by simp]
          simpa using h
        · have hg0 : decide (0 < i) = false := by simp; omega
          obtain ⟨p0, p1, p2, p3, z0, z1, z2, z3⟩ := row4 HBN.out
          go_wp2_with (fail)
          have hkp : ∀ x, S x → x < w.heap.size → (wr.alloc (.cells #[.int .i64 k1, .string ⟨t1.toArray⟩, .slice A1 kids1.len c1, .int .i64 o1] 31 (0, 0))).heap[x]? = w.heap[x]? ∧ S x := fun x hx _ => ⟨HBB.out.block x (HSB.out x hx), hx⟩
          refine (IH.out (fsize kids1) (by omega) true vr dn k1 o1 t1 kids1 A1 c1 ys1 S _ (Nat.le_refl _) (by omega) (hr1.keep HBB.out.size hkp) (hk1.keep HBB.out.size hkp _) HSB.out hv1 (HBR.out.alloc _) (by omega) (by simp; omega)).mono ?_
          rintro e w3 ⟨v3, rfl, h3, hb3⟩
          have H3 := Lib.hid h3
          have HB3 := Lib.hid hb3
          clear h3 hb3 hkp
          go_wp2_with (fail)
          have hi := Hi.out
          refine ⟨⟨i + 1, v3, _, r1, zs, rfl, by omega, ?_, Hvr.out, by omega, hrest1, rowAt_next hcx, H3.out, HBB.out.trans HB3.out⟩, by simp; omega⟩
          have h := HDN.out
          rw [hg0] at h
          simp only [fmtF, Bool.false_eq_true, if_false, List.nil_append] at h
          rw [show decide (0 < i + 1) = true from by simp]
          simpa using h
end Go.Proofs.YtpflfbfbjmoggaaDoor
