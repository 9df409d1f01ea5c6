/- sexpr.ParseInt at every string: the library's reader and writer, by the shelf. What is laid: the two sentinel errors, the table of powers of ten. -/
import Derived.Test.YtpflfbfbjmoggaaDoorShc
import Derived.Test.YtpflfbfbjmoggaaDoorInt
import Derived.Test.YtpflfbfbjmoggaaDoorUtil2
import Derived.Lib.SmallJoins
import Derived.Lib.AppendIntMem
import Derived.Lib.AtoiErrMem
set_option linter.unusedVariables false
set_option linter.unusedSimpArgs false
namespace Go.Proofs.YtpflfbfbjmoggaaDoor
open Go.RowKit Sx Go.Lib

theorem cell_lt {w : World} {p : Addr} {v : Value} (h : w.cell? p = some v) : p.block < w.heap.size := by
  rcases Nat.lt_or_ge p.block w.heap.size with hh | hh
  · exact hh
  · exfalso
    have : w.heap[p.block]? = none := Array.getElem?_eq_none hh
    simp [World.cell?, this] at h

theorem gPow : Tryd.prog.globalNamed "internal/strconv.uint64pow10" = some 6 := by kernel_rfl

/-- what the library's number functions read -/
structure SC (w : World) : Prop where
  syn : ∃ te pe, w.cell? ⟨4, 0, none⟩ = some (.iface te pe)
  rng : ∃ te pe, w.cell? ⟨5, 0, none⟩ = some (.iface te pe)
  tab : Lib.TabIs Tryd.prog w "internal/strconv.uint64pow10" .u64 Lib.pow10Tab
theorem SC.below {w w' : World} (h : SC w) (hb : Below w.heap.size w w') : SC w' := by
  obtain ⟨⟨a, b, h1⟩, ⟨c, d, h2⟩, h3⟩ := h
  exact ⟨⟨a, b, (hb.cell (cell_lt h1)).trans h1⟩, ⟨c, d, (hb.cell (cell_lt h2)).trans h2⟩, Go.Joins.tab_stays gPow h3 hb (Nat.le_refl _)⟩

theorem str_eq_iff {s : ByteArray} {l : List UInt8} : (⟨l.toArray⟩ : ByteArray) = s ↔ l = s.data.toList := by
  constructor
  · intro h; rw [← h]
  · intro h; rw [h]

set_option maxHeartbeats 1000000 in
set_option maxRecDepth 100000 in
theorem sParse_yes (s : ByteArray) (v : Int) (w : World) (hs : s.size ≤ 281474976710656) (hc : SC w) (h : pI s.data.toList = some v) :
    Calls Tryd.prog 13 #[.string s] w fun e w' => e = .returned (.tuple #[.int .i64 v, .bool true]) ∧ Below w.heap.size w w' := by
  obtain ⟨h1, h2, h3, h4⟩ := pI_ok h
  have hP : ∀ W, Calls Tryd.prog 52 #[.string s, .int .i64 10, .int .i64 64] W fun e w' => e = .returned (.tuple #[.int .i64 v, .nilIface]) ∧ Below W.heap.size W w' := fun W => by
    refine (Tryd.strconv_ParseInt_10_at64_ok s (by omega) v h1 W).mono ?_
    rintro e w' ⟨rfl, rfl | ⟨t, rfl⟩⟩
    · exact ⟨rfl, Below.refl _ _⟩
    · exact ⟨rfl, bytesWorld_below _ _ _⟩
  have hs2 : (⟨(itoa v).toArray⟩ : ByteArray) = s := str_eq_iff.2 h2
  have hF : ∀ W, SC W → Calls Tryd.prog 53 #[.int .i64 v, .int .i64 10] W fun e w' => e = .returned (.string s) ∧ Below W.heap.size W w' := fun W hW => by
    refine (Tryd.strconv_FormatInt_10 v h3 h4 W hW.tab).mono ?_
    rintro e w' ⟨rfl, k, os, rfl⟩
    exact ⟨by rw [hs2], below_grow _ _ (Nat.le_refl _) _ _⟩
  have HP := Lib.hid hP
  have HF := Lib.hid hF
  have HC := Lib.hid hc
  clear hP hF hc h h1 h2 h3 h4 hs2 hs
  go_enter Tryd.func13, Tryd.ntmps13
  go_wp2_with (fail)
  refine (HP.out _).mono ?_
  rintro e w1 ⟨rfl, hb1⟩
  have HB1 := Lib.hid hb1
  clear hb1
  go_wp2_with (go_at_call 53; refine (HF.out _ (HC.out.below HB1.out)).mono ?_; rintro e w2 ⟨rfl, hb2⟩; have HB2 := Lib.hid hb2; clear hb2)
  go_ret2
  exact ⟨rfl, HB1.out.trans (HB2.out.mono HB1.out.size)⟩

set_option maxHeartbeats 1000000 in
set_option maxRecDepth 100000 in
theorem sParse_no (s : ByteArray) (w : World) (hs : s.size ≤ 281474976710656) (hc : SC w) (h : pI s.data.toList = none) :
    Calls Tryd.prog 13 #[.string s] w fun e w' => e = .returned (.tuple #[.int .i64 0, .bool false]) ∧ Below w.heap.size w w' := by
  have bad : (∀ v, ¬ parseIntB 64 s.data.toList = .ok v) → ∃ n : Int, ∀ W, SC W → Calls Tryd.prog 52 #[.string s, .int .i64 10, .int .i64 64] W fun e w' => (∃ te pe, e = .returned (.tuple #[.int .i64 n, .iface te pe])) ∧ Below W.heap.size W w' := by
    intro hno
    rcases hq : parseIntB 64 s.data.toList with v | _ | _
    · exact absurd hq (hno v)
    · refine ⟨0, fun W hW => ?_⟩
      obtain ⟨te, pe, h1⟩ := hW.syn
      refine (Tryd.strconv_ParseInt_10_at64_syntax s hs hq _ W h1 (.inr ⟨te, pe, rfl⟩)).mono ?_
      rintro e w' ⟨N, rfl, _, _, hb⟩
      exact ⟨⟨_, _, rfl⟩, hb⟩
    · refine ⟨Lib.intSat 64 s.data.toList, fun W hW => ?_⟩
      obtain ⟨te, pe, h1⟩ := hW.rng
      refine (Tryd.strconv_ParseInt_10_at64_range s hs hq _ W h1 (.inr ⟨te, pe, rfl⟩)).mono ?_
      rintro e w' ⟨N, rfl, _, _, hb⟩
      exact ⟨⟨_, _, rfl⟩, hb⟩
  by_cases hv : ∃ v, parseIntB 64 s.data.toList = .ok v
  · obtain ⟨v, h1⟩ := hv
    obtain ⟨b1, b2⟩ := parseIntB_bounds h1
    have b1' : -9223372036854775808 ≤ v := by simpa using b1
    have b2' : v ≤ 9223372036854775807 := by simp at b2; omega
    have hne := pI_none h h1 b1' b2'
    obtain ⟨z, hz, hzs⟩ : ∃ z : ByteArray, (⟨(itoa v).toArray⟩ : ByteArray) = z ∧ ¬ z = s := ⟨_, rfl, fun e => hne (str_eq_iff.1 e)⟩
    have hP : ∀ W, Calls Tryd.prog 52 #[.string s, .int .i64 10, .int .i64 64] W fun e w' => e = .returned (.tuple #[.int .i64 v, .nilIface]) ∧ Below W.heap.size W w' := fun W => by
      refine (Tryd.strconv_ParseInt_10_at64_ok s (by omega) v h1 W).mono ?_
      rintro e w' ⟨rfl, rfl | ⟨t, rfl⟩⟩
      · exact ⟨rfl, Below.refl _ _⟩
      · exact ⟨rfl, bytesWorld_below _ _ _⟩
    have hF : ∀ W, SC W → Calls Tryd.prog 53 #[.int .i64 v, .int .i64 10] W fun e w' => e = .returned (.string z) ∧ Below W.heap.size W w' := fun W hW => by
      refine (Tryd.strconv_FormatInt_10 v b1' b2' W hW.tab).mono ?_
      rintro e w' ⟨rfl, k, os, rfl⟩
      exact ⟨by rw [hz], below_grow _ _ (Nat.le_refl _) _ _⟩
    have HP := Lib.hid hP
    have HF := Lib.hid hF
    have HC := Lib.hid hc
    have q1 : ¬ z.toList = s.toList := fun e => hzs (by rw [toList_data, toList_data] at e; exact ByteArray.ext (Array.ext' e))
    have q2 : (z.toList == s.toList) = false := by simpa using q1
    clear hP hF hc h h1 b1 b2 b1' b2' hz hs bad hne
    go_enter Tryd.func13, Tryd.ntmps13
    go_wp2_with (fail)
    refine (HP.out _).mono ?_
    rintro e w1 ⟨rfl, hb1⟩
    have HB1 := Lib.hid hb1
    clear hb1
    go_wp2_with (go_at_call 53; refine (HF.out _ (HC.out.below HB1.out)).mono ?_; rintro e w2 ⟨rfl, hb2⟩; have HB2 := Lib.hid hb2; clear hb2)
    go_ret2
    exact ⟨rfl, HB1.out.trans (HB2.out.mono HB1.out.size)⟩
  · obtain ⟨n, hP⟩ := bad (fun v hq => hv ⟨v, hq⟩)
    have HP := Lib.hid (hP w hc)
    clear hP hc h hs bad hv
    go_enter Tryd.func13, Tryd.ntmps13
    go_wp2_with (fail)
    refine HP.out.mono ?_
    rintro e w1 ⟨⟨te, pe, rfl⟩, hb1⟩
    have HB1 := Lib.hid hb1
    clear hb1
    go_wp2_with (fail)
    go_ret2
    exact ⟨rfl, HB1.out⟩
end Go.Proofs.YtpflfbfbjmoggaaDoor
