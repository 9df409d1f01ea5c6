/- sexpr.writeQuoted and sexpr.write: what they append to a builder. No condition but bounded lengths. -/
import Derived.Test.YtpflfbfbjmoggaaDoorBu2
import Derived.Test.YtpflfbfbjmoggaaDoorLeaf
import Derived.Test.YtpflfbfbjmoggaaDoorFmt
set_option linter.unusedVariables false
set_option linter.unusedSimpArgs false
namespace Go.Proofs.YtpflfbfbjmoggaaDoor
open Go.RowKit Go.Lib Sx

theorem bc_snoc (l : List UInt8) (c : UInt8) : Lib.byteCells l ++ [Value.int .u8 (c.toNat : Int)] = Lib.byteCells (l ++ [c]) := by simp [Lib.byteCells]
theorem bc_str (l t : List UInt8) : Lib.byteCells l ++ strCells ⟨t.toArray⟩ = Lib.byteCells (l ++ t) := by simp [Lib.byteCells, strCells]
theorem bc_len (l : List UInt8) : (Lib.byteCells l).length = l.length := by simp [Lib.byteCells]

theorem wb (B b : Nat) (used : Bool) (v : Value) (l : List UInt8) (c : UInt8) (n : Int) (hn : (c.toNat : Int) = n) (w : World) (h : BA B b used v (Lib.byteCells l) w) (hlen : l.length + 1 ≤ 140737488355328) (hBw : B ≤ w.heap.size) :
    Calls Tryd.prog 88 #[.pointer (some ⟨b, 0, none⟩), .int .u8 n] w fun e w' => ∃ v', e = .returned .nilIface ∧ BA B b true v' (Lib.byteCells (l ++ [c])) w' ∧ Kp b v v' w w' ∧ Below B w w' := by
  subst hn
  refine (writeByte_ba B b used v _ _ w h (by rw [bc_len]; exact hlen) hBw).mono ?_
  rintro e w' ⟨v', he, h1, h2⟩
  exact ⟨v', he, by rw [← bc_snoc]; exact h1, h2, h2.below h hBw⟩

set_option maxHeartbeats 2000000 in
set_option maxRecDepth 100000 in
theorem writeQuoted_ba (B b : Nat) (used : Bool) (v : Value) (l t : List UInt8) (w : World) (h : BA B b used v (Lib.byteCells l) w) (hlen : l.length + (quoteB t).length ≤ 1073741824) (hBw : B ≤ w.heap.size) :
    Calls Tryd.prog 87 #[.pointer (some ⟨b, 0, none⟩), .string ⟨t.toArray⟩] w fun e w' => ∃ v', e = .returned (.tuple #[]) ∧ BA B b true v' (Lib.byteCells (l ++ quoteB t)) w' ∧ Below B w w' := by
  obtain ⟨s, hs0, hs, hsz⟩ : ∃ s : ByteArray, (⟨t.toArray⟩ : ByteArray) = s ∧ s.data.toList = t ∧ s.size = t.length := ⟨_, rfl, rfl, by show t.toArray.size = _; simp⟩
  rw [hs0]
  clear hs0
  have hq : (quoteB t).length = (escT t).length + 2 := by simp [quoteB]
  have hmx : s.size ≤ 1073741824 := by have := len_quoteB t; omega
  have Hs := Lib.hid hs
  have HSZ := Lib.hid hsz
  clear hs hsz
  have H := Lib.hid h
  clear h
  go_enter Tryd.func87, Tryd.ntmps87
  go_wp2_with (fail)
  refine (wb B b used v l 34 34 rfl _ H.out (by omega) hBw).mono ?_
  rintro e w1 ⟨v1, rfl, h1, _, hb1⟩
  have H1 := Lib.hid h1
  have HB1 := Lib.hid hb1
  clear h1 hb1
  go_wp2_with (fail)
  go_loopw [4, 9] (fun _ iv wr => ∃ (q : Nat) (vr : Value) (dn : List UInt8), iv = .int .i64 (q : Int) ∧ q ≤ s.size ∧ dn ++ escT (s.data.toList.drop q) = l ++ 34 :: escT t ∧ BA B b true vr (Lib.byteCells dn) wr ∧ Below B w wr) (fun _ iv _ => s.size - (match iv with | .int _ n => n.toNat | _ => 0))
  case atStart => exact ⟨0, v1, l ++ [34], rfl, Nat.zero_le _, by rw [List.drop_zero, Hs.out]; simp, H1.out, HB1.out⟩
  case round =>
    obtain ⟨q, vr, dn, rfl, hq', hdn, hba, hbel⟩ := hrel
    have HBA := Lib.hid hba
    have hbs := hbel.size
    have hBr : B ≤ wr.heap.size := by omega
    have hdl : dn.length + (escT (s.data.toList.drop q)).length + 1 = l.length + (quoteB t).length := by
      have := congrArg List.length hdn
      simp only [List.length_append, List.length_cons] at this
      omega
    have HBL := Lib.hid hbel
    have HDN := Lib.hid hdn
    clear hdn hba hbel
    by_cases hlt : q < s.size
    · have hget := Lib.hid (drop_at s q hlt)
      have hti : decide ((q : Int) < (s.size : Int)) = true := by simp; omega
      have c0 := byte_lo s[q]
      have c1 := byte_hi s[q]
      have hme := fun W => mustEscape_any (s[q].toNat : Int) W c0 c1
      rw [hget.out] at hdl
      cases hesc : escB (s[q].toNat : Int) with
      | false =>
        rw [hesc] at hme
        rw [escT_no hesc, List.length_cons] at hdl
        have Hme := Lib.hid hme
        clear hme
        go_wp2_with (go_at_call 113; refine (Hme.out _).mono ?_; rintro e1 w1' ⟨rfl, rfl⟩)
        refine (wb B b true vr dn s[q] (s[q].toNat : Int) rfl _ HBA.out (by omega) hBr).mono ?_
        rintro e2 w2 ⟨v2, rfl, h2, _, hb2⟩
        have H2 := Lib.hid h2
        have HB2 := Lib.hid hb2
        clear h2 hb2
        go_wp2_with (fail)
        refine ⟨⟨q + 1, v2, dn ++ [s[q]], by simp, hlt, ?_, H2.out, HBL.out.trans HB2.out⟩, by simp; omega⟩
        have h := HDN.out
        rw [hget.out, escT_no hesc] at h
        simpa using h
      | true =>
        rw [hesc] at hme
        rw [escT_yes hesc, List.length_cons, List.length_cons] at hdl
        have Hme := Lib.hid hme
        clear hme
        go_wp2_with (go_at_call 113; refine (Hme.out _).mono ?_; rintro e1 w1' ⟨rfl, rfl⟩)
        refine (wb B b true vr dn 92 92 rfl _ HBA.out (by omega) hBr).mono ?_
        rintro e2 w2 ⟨v2, rfl, h2, _, hb2⟩
        have H2 := Lib.hid h2
        have hbs2 := hb2.size
        have HB2 := Lib.hid hb2
        clear h2 hb2
        go_wp2_with (fail)
        refine (wb B b true v2 (dn ++ [92]) s[q] (s[q].toNat : Int) rfl _ H2.out (by simp; omega) (by omega)).mono ?_
        rintro e3 w3 ⟨v3, rfl, h3, _, hb3⟩
        have H3 := Lib.hid h3
        have HB3 := Lib.hid hb3
        clear h3 hb3
        go_wp2_with (fail)
        refine ⟨⟨q + 1, v3, dn ++ [92] ++ [s[q]], by simp, hlt, ?_, H3.out, (HBL.out.trans HB2.out).trans HB3.out⟩, by simp; omega⟩
        have h := HDN.out
        rw [hget.out, escT_yes hesc] at h
        simpa using h
    · have hti : decide ((q : Int) < (s.size : Int)) = false := by simp; omega
      have hend := drop_end s q (by omega)
      have h := HDN.out
      rw [hend] at h
      simp only [escT, List.append_nil] at h
      have hh := Lib.hid h
      clear h hend
      go_wp2_with (fail)
      refine (wb B b true vr dn 34 34 rfl _ HBA.out (by omega) hBr).mono ?_
      rintro e2 w2 ⟨v2, rfl, h2, _, hb2⟩
      have H2 := Lib.hid h2
      have HB2 := Lib.hid hb2
      clear h2 hb2
      go_wp2_with (fail)
      go_end0
      refine ⟨v2, rfl, ?_, HBL.out.trans HB2.out⟩
      have := H2.out
      rw [hh.out] at this
      rw [show l ++ quoteB t = (l ++ 34 :: escT t) ++ [34] from by simp [quoteB]]
      exact this
end Go.Proofs.YtpflfbfbjmoggaaDoor
