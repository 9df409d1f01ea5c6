/- tellaw1.SexprWords: the walk. What is laid: the two sentinel errors, the table of powers of ten. -/
import Derived.Test.YtpflfbfbjmoggaaDoorPin
import Derived.Test.YtpflfbfbjmoggaaDoorRpi
import Derived.Test.YtpflfbfbjmoggaaDoorIds
import Derived.Test.YtpflfbfbjmoggaaDoorDgs
import Derived.Test.YtpflfbfbjmoggaaDoorCheck
set_option linter.unusedVariables false
set_option linter.unusedSimpArgs false
namespace Go.Proofs.YtpflfbfbjmoggaaDoor
open Go.RowKit Sx Go.Lib

theorem sParse_any (s : ByteArray) (w : World) (hs : s.size ≤ 281474976710656) (hc : SC w) :
    Calls Tryd.prog 13 #[.string s] w fun e w' => e = .returned (valOf (pI s.data.toList)) ∧ Below w.heap.size w w' := by
  cases h : pI s.data.toList with
  | none => exact sParse_no s w hs hc h
  | some v => exact sParse_yes s v w hs hc h
theorem rParse_any (s : ByteArray) (w : World) (hs : s.size ≤ 281474976710656) :
    Calls Tryd.prog 29 #[.string s] w fun e w' => e = .returned (valOf (pI s.data.toList)) ∧ w = w' := by
  by_cases hp : 1 ≤ s.size
  · have hd := drop_at s 0 hp
    rw [List.drop_zero] at hd
    by_cases h45 : s[0] = 45
    · have e : (s.extract 1 s.size).data.toList = s.data.toList.drop 1 := by
        rw [extract_eq]
        show ((s.data.toList.drop 1).take (s.size - 1)).toArray.toList = _
        rw [List.take_of_length_le (by simp)]
      have hz : (s.extract 1 s.size).size ≤ 281474976710656 := by
        have h1 : (s.extract 1 s.size).data.toList.length = (s.extract 1 s.size).size := by simp
        have h2 : s.data.toList.length = s.size := by simp
        rw [e, List.length_drop, h2] at h1
        omega
      refine (rpi_neg s _ w hs hp h45 rfl hz).mono ?_
      rintro e' w' ⟨rfl, rfl⟩
      exact ⟨by rw [e, hd, h45]; rw [pI_neg]; simp, rfl⟩
    · have := rpi_pos s w hs (fun _ => h45)
      rw [← pI_pos (by rw [hd]; simp; exact h45)] at this
      exact this
  · have := rpi_pos s w hs (fun h => absurd h (by omega))
    have h2 : s.data.toList.length = s.size := by simp
    have hl : s.data.toList = [] := List.eq_nil_of_length_eq_zero (by omega)
    rw [← pI_pos (by rw [hl]; simp)] at this
    exact this

set_option maxHeartbeats 2000000 in
set_option maxRecDepth 100000 in
theorem words_walk (s : ByteArray) (n : Int) (w : World) (hs : s.size ≤ 281474976710656) (h0 : -9223372036854775808 ≤ n) (h1 : n ≤ 9223372036854775807) (hc : SC w) :
    Calls Tryd.prog 7 #[.string s, .int .i64 n] w fun e w' => e = .returned (.bool true) ∧ Below w.heap.size w w' := by
  obtain ⟨a, ha⟩ : ∃ a, (pI s.data.toList).getD 0 = a := ⟨_, rfl⟩
  obtain ⟨b, hb⟩ : ∃ b, (pI s.data.toList).isSome = b := ⟨_, rfl⟩
  have hv : valOf (pI s.data.toList) = .tuple #[.int .i64 a, .bool b] := by rw [valOf, ha, hb]
  have hP : ∀ W, SC W → Calls Tryd.prog 13 #[.string s] W fun e w' => e = .returned (.tuple #[.int .i64 a, .bool b]) ∧ Below W.heap.size W w' := fun W hW => by
    rw [← hv]; exact sParse_any s W hs hW
  have hR : ∀ W, Calls Tryd.prog 29 #[.string s] W fun e w' => e = .returned (.tuple #[.int .i64 a, .bool b]) ∧ W = w' := fun W => by
    rw [← hv]; exact rParse_any s W hs
  obtain ⟨d, hd⟩ : ∃ d : ByteArray, (⟨(itoa n).toArray⟩ : ByteArray) = d := ⟨_, rfl⟩
  have hdl : d.data.toList = itoa n := by rw [← hd]
  have hds : d.size ≤ 281474976710656 := by
    have h2 : d.data.toList.length = d.size := by simp
    rw [hdl] at h2
    have h3 : (itoa n).length ≤ 21 := by
      unfold itoa
      split
      · have := dec_len (show n.natAbs < 18446744073709551616 by omega)
        simp; omega
      · have := dec_len (show n.toNat < 18446744073709551616 by omega)
        omega
    omega
  have hD : ∀ W, Calls Tryd.prog 30 #[.int .i64 n] W fun e w' => e = .returned (.string d) ∧ Below W.heap.size W w' := fun W => by
    rw [← hd]; exact digits_any n W h0 h1
  have hQ : ∀ W, SC W → Calls Tryd.prog 13 #[.string d] W fun e w' => e = .returned (.tuple #[.int .i64 n, .bool true]) ∧ Below W.heap.size W w' := fun W hW => by
    refine sParse_yes d n W hds hW ?_
    rw [hdl]; exact pI_itoa n h0 h1
  obtain ⟨V, hV⟩ : ∃ V, identB s.data.toList = V := ⟨_, rfl⟩
  have hI : ∀ W, Calls Tryd.prog 15 #[.string s] W fun e w' => e = .returned (.bool V) ∧ W = w' := fun W => by rw [← hV]; exact ident_any s W hs
  have hJ : ∀ W, Calls Tryd.prog 31 #[.string s] W fun e w' => e = .returned (.bool V) ∧ W = w' := fun W => by rw [← hV]; exact rIdent_any s W hs
  have HP := Lib.hid hP
  have HR := Lib.hid hR
  have HD := Lib.hid hD
  have HQ := Lib.hid hQ
  have HI := Lib.hid hI
  have HJ := Lib.hid hJ
  have HC := Lib.hid hc
  clear hP hR hD hQ hI hJ hc hV hd hdl hds ha hb hv hs h0 h1
  go_enter Tryd.func7, Tryd.ntmps7
  go_wp2_with (fail)
  refine (HP.out _ HC.out).mono ?_
  rintro e w1 ⟨rfl, hb1⟩
  have HB1 := Lib.hid hb1
  clear hb1
  go_wp2_with (fail)
  refine (HR.out _).mono ?_
  rintro e w1' ⟨rfl, rfl⟩
  go_wp2_with (fail)
  refine (HD.out _).mono ?_
  rintro e w2 ⟨rfl, hb2⟩
  have HB2 := Lib.hid (HB1.out.trans (hb2.mono HB1.out.size))
  clear hb2
  go_wp2_with (fail)
  refine (HQ.out _ (HC.out.below HB2.out)).mono ?_
  rintro e w3 ⟨rfl, hb3⟩
  have HB3 := Lib.hid (HB2.out.trans (hb3.mono HB2.out.size))
  clear hb3
  have hck : ∀ X, Calls Tryd.prog 14 #[] X fun e u => e = .returned (.bool true) ∧ Below X.heap.size X u := fun X => check_any X
  have HCk := Lib.hid hck
  clear hck
  go_wp2_with (first
    | (go_at_call 14; refine (HCk.out _).mono ?_; rintro e w4 ⟨rfl, hb4⟩; have HB4 := Lib.hid (HB3.out.trans (hb4.mono HB3.out.size)); clear hb4)
    | (go_at_call 15; refine (HI.out _).mono ?_; rintro e w5 ⟨rfl, rfl⟩)
    | (go_at_call 31; refine (HJ.out _).mono ?_; rintro e w5 ⟨rfl, rfl⟩))
  go_ret
  exact ⟨rfl, HB4.out⟩
end Go.Proofs.YtpflfbfbjmoggaaDoor
