/- sexpr.Format at a node that can be written: its text. No condition but bounded length and nesting. -/
import Derived.Test.YtpflfbfbjmoggaaDoorWr2
set_option linter.unusedVariables false
set_option linter.unusedSimpArgs false
namespace Go.Proofs.YtpflfbfbjmoggaaDoor
open Go.RowKit Go.Lib Sx

set_option maxHeartbeats 2000000 in
set_option maxRecDepth 100000 in
theorem format_yes (k o : Int) (t : List UInt8) (kids : Fo) (A : Option Addr) (c : Nat) (ys : List Value) (S : Nat → Prop) (w : World) (hN : fsize kids ≤ 1073741824) (hr : readsAt w S A kids.len ys) (hx : rowOf w S kids ys) (hv : vF (.one k t kids o)) (hd : dep (.one k t kids o) ≤ 40)
    (hl : (fmt1 k t (fmtF false kids)).length ≤ 8388608) :
    Calls Tryd.prog 12 #[.agg #[.int .i64 k, .string ⟨t.toArray⟩, .slice A kids.len c, .int .i64 o]] w fun e w' => e = .returned (.tuple #[.string ⟨(fmt1 k t (fmtF false kids)).toArray⟩, .int .i64 0]) ∧ Below w.heap.size w w' := by
  have hbx := heap_alloc_new w (.cells #[.int .i64 k, .string ⟨t.toArray⟩, .slice A kids.len c, .int .i64 o] 31 (0, 0))
  obtain ⟨b0, b1, b2, b3, z0, z1, z2, z3⟩ := row4 hbx
  have HBX := Lib.hid hbx
  have B1 : Below w.heap.size w (w.alloc (.cells #[.int .i64 k, .string ⟨t.toArray⟩, .slice A kids.len c, .int .i64 o] 31 (0, 0))) := (Below.refl _ _).alloc (Nat.le_refl _) _
  have hR := Lib.hid (hr.keep (S' := fun x => x < w.heap.size ∧ True) B1.size fun x hx hl => ⟨B1.block x hl, hl, trivial⟩)
  have hX := Lib.hid (hx.keep (S' := fun x => x < w.heap.size ∧ True) B1.size (fun x hx hl => ⟨B1.block x hl, hl, trivial⟩) _)
  have HB := Lib.hid B1
  have HV := Lib.hid hv
  have HD := Lib.hid hd
  clear hr hx B1 hbx hv hd
  go_enter Tryd.func12, Tryd.ntmps12
  go_wp2_with (fail)
  refine (valid_yes k o t kids A c ys _ _ hN hR.out hX.out HV.out HD.out).mono ?_
  rintro e1 w1 ⟨rfl, hb1⟩
  have hbx1 := (hb1.block w.heap.size (by simp)).trans HBX.out
  have hs1 : w.heap.size < w1.heap.size := by have := hb1.size; simp at this; omega
  obtain ⟨d0, d1, d2, d3, y0, y1, y2, y3⟩ := row4 ((Below.heap_alloc w1 (.cells #[.pointer none, .slice none 0 0] 76) _ hs1).trans hbx1)
  obtain ⟨e0, e1, e2, e3, x0, x1, x2, x3⟩ := row4 hbx1
  have B2 := hb1.alloc hb1.size (.cells #[.pointer none, .slice none 0 0] 76)
  have hR2 := Lib.hid (hR.out.keep (S' := fun x => x < w.heap.size ∧ True) B2.size fun x hx hl => ⟨B2.block x hl, hx⟩)
  have hX2 := Lib.hid (hX.out.keep (S' := fun x => x < w.heap.size ∧ True) B2.size (fun x hx hl => ⟨B2.block x hl, hx⟩) _)
  have HB1 := Lib.hid hb1
  have hba : BA w1.heap.size w1.heap.size false (.slice none 0 0) (Lib.byteCells []) (w1.alloc (.cells #[.pointer none, .slice none 0 0] 76)) :=
    ⟨heap_alloc_new w1 _, World.ownsRow_nil _ _ _ _, by simp [Value.ownBlock], Nat.le_refl _⟩
  have HBA := Lib.hid hba
  clear b0 b1 b2 b3 z0 z1 z2 z3 hbx1 hb1 B2 hba
  go_wp2_with (fail)
  refine (write_ba w1.heap.size w1.heap.size _ false _ [] k o t kids A c ys _ _ (Nat.le_refl _) hN hR2.out hX2.out (fun x hx => Nat.lt_trans hx.1 hs1) HV.out HBA.out (by simpa using hl) (by simp)).mono ?_
  rintro e2 w2 ⟨v2, rfl, h2, hb2⟩
  have hs2 := hb2.size
  have hs2' : w1.heap.size ≤ w2.heap.size := by simp at hs2; omega
  have HB2 := Lib.hid hb2
  have H2 := Lib.hid h2
  clear h2 hb2 hs2
  go_wp2_with (fail)
  refine (Tryd.Builder_String_any w1.heap.size w1.heap.size _ _ (.inr ⟨H2.out.2.2.2, v2, H2.out.1, H2.out.2.1, H2.out.2.2.1⟩) hs2').mono ?_
  rintro e3 w3 ⟨rfl, hb3⟩
  have HB3 := Lib.hid hb3
  clear hb3
  go_wp2_with (fail)
  refine bodyPost_ret (v := .tuple #[.string ⟨(fmt1 k t (fmtF false kids)).toArray⟩, .int .i64 0]) (by simp [results, Tryd.results12, go_sem]) rfl ⟨rfl, ?_⟩
  have hA1 := HB.out.trans (HB1.out.mono (by simp))
  have hA2 : Below w.heap.size w1 w2 := (((Below.refl w1.heap.size w1).alloc (Nat.le_refl _) _).trans HB2.out).mono (by omega)
  exact (hA1.trans hA2).trans (HB3.out.mono (by omega))
end Go.Proofs.YtpflfbfbjmoggaaDoor
