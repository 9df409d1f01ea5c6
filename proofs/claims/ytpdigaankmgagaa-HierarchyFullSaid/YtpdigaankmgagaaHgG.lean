/- HierarchyFull: its declarations, its walk. -/
import Derived.Test.YtpdigaankmgagaaHgF
import Derived.Test.YtpdigaankmgagaaDgs
import Derived.Test.YtpdigaankmgagaaMod
set_option linter.unusedVariables false
set_option linter.unusedSimpArgs false
namespace Go.Proofs.Ytpdigaankmgagaa.Sx
open Go.RowKit Go.Lib
def dg (i : Nat) : List UInt8 := if i < 10 then [UInt8.ofNat (48 + i)] else [UInt8.ofNat (48 + i / 10), UInt8.ofNat (48 + i % 10)]
theorem itoa_dg (i : Nat) (h : i < 100) : itoa (i : Int) = dg i := by
  rw [itoa, if_neg (by omega), Int.toNat_natCast, dg, decDigits]
  split
  · rfl
  · rw [decDigits, dif_pos (by omega)]
    rfl
/-- declaration number i of the law -/
def nmT (i : Nat) : List UInt8 := 84 :: dg i
def dT (i : Nat) : De := ⟨nmT i, 0, ⟨0, [], .nil, 0⟩, false, []⟩
def dsAt (i : Nat) : List De := ds0 ++ (List.range (min i 56)).map dT
theorem nm_ok : ∀ i, i < 58 → tnB (nmT i) = true ∧ (nmT i).length ≤ 24 := by decide +kernel
theorem nm_new : ∀ i, i < 58 → (findD (dsAt i) (nmT i)).isNone = true := by decide +kernel
theorem nm_any : ∀ i, i < 59 → (findD (dsAt i) []).isNone = true := by decide +kernel
theorem ds_len (i : Nat) : (dsAt i).length = 4 + min i 56 := by
  rw [dsAt, List.length_append, List.length_map, List.length_range]
  rfl
theorem vd_T (i : Nat) (h : i < 58) (ar : Int) (ha : ar = 0 ∨ ar = 1) : vdB ⟨nmT i, ar, ⟨0, [], .nil, 0⟩, false, []⟩ = true := by
  rw [vdB, vsB]
  simp only [(nm_ok i h).1, vt_any]
  rcases ha with rfl | rfl <;> rfl
theorem de_T (i : Nat) (h : i < 58) : declE (dsAt i) (dT i) = if i < 56 then 0 else 8 := by
  have h1 : findD (dsAt i) (nmT i) = none := by simpa using nm_new i h
  have h2 : findD (dsAt i) [] = none := by simpa using nm_any i (by omega)
  rw [declE, if_neg (by rw [show dT i = ⟨nmT i, 0, ⟨0, [], .nil, 0⟩, false, []⟩ from rfl, vd_T i h 0 (.inl rfl)]; simp), if_neg (by show ¬ (6 : Int) < 0; decide)]
  simp only [dT, h1, ds_len]
  by_cases h6 : i < 56
  · have hc : concB (dsAt i) [] = false := by simp [concB, h2]
    have he : ∀ k, ev1 k 0 [] .nil = true := fun k => rfl
    rw [if_pos h6, if_neg (by omega)]
    simp [he, hc]
  · rw [if_neg h6, if_pos (by omega)]
theorem dd_T (i : Nat) (h : i < 58) : declD (dsAt i) (dT i) = dsAt (i + 1) := by
  have h1 : findD (dsAt i) (nmT i) = none := by simpa using nm_new i h
  rw [declD, de_T i h]
  by_cases h6 : i < 56
  · rw [if_pos ⟨by rw [if_pos h6], h1⟩, dsAt, dsAt, Nat.min_eq_left (by omega), Nat.min_eq_left (by omega), List.range_succ, List.map_append, List.append_assoc]
    rfl
  · rw [if_neg (fun hh => by rw [if_neg h6] at hh; exact absurd hh.1 (by decide)), dsAt, dsAt, Nat.min_eq_right (by omega), Nat.min_eq_right (by omega)]
theorem f_first (i : Nat) (h : 0 < i) : findD (dsAt i) (nmT 0) = some (dT 0) := by
  have h0 : findD ds0 (nmT 0) = none := by decide
  rw [findD, dsAt, List.find?_append]
  rw [findD] at h0
  rw [h0]
  obtain ⟨j, hj⟩ : ∃ j, min i 56 = j + 1 := ⟨min i 56 - 1, by omega⟩
  rw [hj, List.range_succ_eq_map, List.map_cons, List.find?_cons]
  simp [dT]
theorem de_same (i : Nat) (h : 0 < i) : declE (dsAt i) (dT 0) = 0 := by
  rw [declE, if_neg (by rw [show dT 0 = ⟨nmT 0, 0, ⟨0, [], .nil, 0⟩, false, []⟩ from rfl, vd_T 0 (by decide) 0 (.inl rfl)]; simp), if_neg (by show ¬ (6 : Int) < 0; decide)]
  simp only [show (dT 0).name = nmT 0 from rfl, f_first i h]
  rw [if_pos (by simp [sdB, cmp1_self])]
theorem dd_same (i : Nat) (h : 0 < i) : declD (dsAt i) (dT 0) = dsAt i := by
  rw [declD, if_neg (fun hh => by rw [show (dT 0).name = nmT 0 from rfl, f_first i h] at hh; cases hh.2)]
def dT1 : De := ⟨nmT 0, 1, ⟨0, [], .nil, 0⟩, false, []⟩
theorem de_other (i : Nat) (h : 0 < i) : declE (dsAt i) dT1 = 6 := by
  rw [declE, if_neg (by rw [show dT1 = ⟨nmT 0, 1, ⟨0, [], .nil, 0⟩, false, []⟩ from rfl, vd_T 0 (by decide) 1 (.inr rfl)]; simp), if_neg (by show ¬ (6 : Int) < 1; decide)]
  simp only [show dT1.name = nmT 0 from rfl, f_first i h]
  rw [if_neg (by simp [sdB, dT, dT1])]
theorem dd_other (i : Nat) (h : 0 < i) : declD (dsAt i) dT1 = dsAt i := by
  rw [declD, if_neg (fun hh => by rw [show dT1.name = nmT 0 from rfl, f_first i h] at hh; cases hh.2)]
end Go.Proofs.Ytpdigaankmgagaa.Sx
namespace Go.Proofs.Ytpdigaankmgagaa
open Go.RowKit Sx

theorem goodT (i : Nat) (h : i < 58) : GoodD 1 (dT i) := ⟨rfl, by show fsize Fo.nil ≤ _; decide, rfl, by have := (nm_ok i h).2; show (nmT i).length ≤ _; omega⟩
theorem goodAt (i : Nat) : ∀ d ∈ dsAt i, GoodD 1 d := by
  intro d hd
  rcases List.mem_append.1 hd with hd | hd
  · exact good0 d hd
  · obtain ⟨j, hj, rfl⟩ := List.mem_map.1 hd
    have := List.mem_range.1 hj
    exact goodT j (by omega)
theorem app_T (i : Nat) (h : i < 58) : (⟨#[84]⟩ : ByteArray) ++ ⟨(Go.Lib.itoa (i : Int)).toArray⟩ = ⟨(nmT i).toArray⟩ := by
  apply ByteArray.ext
  rw [ByteArray.data_append, itoa_dg i (by omega), nmT]
  simp
theorem eT0 : dT 0 = ⟨[84, 48], 0, ⟨0, [], .nil, 0⟩, false, []⟩ := rfl
theorem eT1 : dT1 = ⟨[84, 48], 1, ⟨0, [], .nil, 0⟩, false, []⟩ := rfl
theorem goodT1 : GoodD 1 dT1 := ⟨rfl, by show fsize Fo.nil ≤ _; decide, rfl, by decide⟩
/-- Declare of declaration number i -/
theorem hDecT (i : Nat) (h : i < 58) (B p b : Nat) (v : Value) (l : List (List UInt8 × Value)) (w : World) (H : Hier w B p b v l (dsAt i)) (hBw : B ≤ w.heap.size) :
    Calls Try.prog 7 #[.pointer (some ⟨p, 0, none⟩), .agg #[.string ⟨(nmT i).toArray⟩, .int .i64 0, .int .i64 0, .string ⟨#[]⟩, .int .i64 0, .slice none 0 0, .bool false, .slice none 0 0]] w fun e w' =>
      e = .returned (.int .i64 (if i < 56 then 0 else 8)) ∧ ∃ v' l', Hier w' B p b v' l' (dsAt (i + 1)) ∧ Below B w w' := by
  refine (hDeclare0 1 B p b v l (dsAt i) (dT i) none 0 w H (goodAt i) (goodT i h) hBw (by rw [ds_len]; omega) (by decide) (by decide) ⟨Nat.le_refl _, [], reads_nil _ _, rfl⟩ (by show ([] : List UInt8).length ≤ _; decide) trivial).mono ?_
  rintro e w' ⟨v', l', rfl, h1, h2⟩
  rw [de_T i h]
  rw [dd_T i h] at h1
  exact ⟨rfl, v', l', h1, h2.below H hBw⟩
/-- Declare of what is there -/
theorem hDecS (i : Nat) (h : 0 < i) (B p b : Nat) (v : Value) (l : List (List UInt8 × Value)) (w : World) (H : Hier w B p b v l (dsAt i)) (hBw : B ≤ w.heap.size) :
    Calls Try.prog 7 #[.pointer (some ⟨p, 0, none⟩), .agg #[.string ⟨#[84, 48]⟩, .int .i64 0, .int .i64 0, .string ⟨#[]⟩, .int .i64 0, .slice none 0 0, .bool false, .slice none 0 0]] w fun e w' =>
      e = .returned (.int .i64 0) ∧ ∃ v' l', Hier w' B p b v' l' (dsAt i) ∧ Below B w w' := by
  refine (hDeclare0 1 B p b v l (dsAt i) (dT 0) none 0 w H (goodAt i) (goodT 0 (by decide)) hBw (by rw [ds_len]; omega) (by decide) (by decide) ⟨Nat.le_refl _, [], reads_nil _ _, rfl⟩ (by decide) trivial).mono ?_
  rintro e w' ⟨v', l', rfl, h1, h2⟩
  rw [de_same i h]
  rw [dd_same i h] at h1
  exact ⟨rfl, v', l', h1, h2.below H hBw⟩
theorem hDecO (i : Nat) (h : 0 < i) (B p b : Nat) (v : Value) (l : List (List UInt8 × Value)) (w : World) (H : Hier w B p b v l (dsAt i)) (hBw : B ≤ w.heap.size) :
    Calls Try.prog 7 #[.pointer (some ⟨p, 0, none⟩), .agg #[.string ⟨#[84, 48]⟩, .int .i64 1, .int .i64 0, .string ⟨#[]⟩, .int .i64 0, .slice none 0 0, .bool false, .slice none 0 0]] w fun e w' =>
      e = .returned (.int .i64 6) ∧ ∃ v' l', Hier w' B p b v' l' (dsAt i) ∧ Below B w w' := by
  refine (hDeclare0 1 B p b v l (dsAt i) dT1 none 0 w H (goodAt i) goodT1 hBw (by rw [ds_len]; omega) (by decide) (by decide) ⟨Nat.le_refl _, [], reads_nil _ _, rfl⟩ (by decide) trivial).mono ?_
  rintro e w' ⟨v', l', rfl, h1, h2⟩
  rw [de_other i h]
  rw [dd_other i h] at h1
  exact ⟨rfl, v', l', h1, h2.below H hBw⟩

set_option maxHeartbeats 8000000 in
set_option maxRecDepth 100000 in
theorem full_walk (n : Int) (w : World) : Calls Try.prog 3 #[.int .i64 n] w fun e w' => e = .returned (.bool true) ∧ BH w w' := by
  have hm2 := tmod_bounds n 5 (by decide)
  have hm0 : 0 ≤ modI n 5 := by unfold modI; split <;> omega
  have hm1 : modI n 5 < 5 := by unfold modI; split <;> omega
  obtain ⟨m, hm⟩ : ∃ m : Nat, modI n 5 = (m : Int) := ⟨(modI n 5).toNat, by omega⟩
  have hm5 : m < 5 := by omega
  have HM := Lib.hid hm
  have H5 := Lib.hid hm5
  clear hm hm0 hm1 hm2
  go_enter Try.func3, Try.ntmps3
  go_wp2_with (fail)
  refine (hnew_any _).mono ?_
  rintro e u1 ⟨p, b, v, l, rfl, hH, hb⟩
  have HH := Lib.hid hH
  have HB := Lib.hid hb
  clear hH hb
  go_wp2_with (fail)
  refine (check3_any _).mono ?_
  rintro e u2 ⟨rfl, hb⟩
  have HH2 := Lib.hid (HH.out.bh hb)
  have HB2 := Lib.hid (BH.trans HB.out hb)
  clear hb HH HB
  go_wp2_with (fail)
  refine (mod_any n 5 _ (by decide) (by decide)).mono ?_
  rintro e u3 ⟨rfl, rfl⟩
  rw [HM.out]
  have hw5 : wrap64 (54 + (m : Int)) = 54 + (m : Int) := wrap64_in (by omega) (by omega)
  have hcl : (m : Int) < 5 := by omega
  have hc0 : (0 : Int) ≤ (m : Int) := by omega
  go_wp2_with (fail)
  clear hw5 hcl hc0
  go_loopw [5, 6] (fun iv sv wr => ∃ (i : Nat) (v : Value) (l : List (List UInt8 × Value)), iv = .int .i64 (i : Int) ∧ i ≤ 54 + m ∧ Hier wr w.heap.size p b v l (dsAt i) ∧ BH w wr) (fun iv _ _ => 54 + m - (match iv with | .int _ n => n.toNat | _ => 0))
  case atStart => exact ⟨0, v, l, rfl, Nat.zero_le _, HH2.out, HB2.out⟩
  case round =>
    obtain ⟨i, v3, l3, rfl, hil, hHi, hbi⟩ := hrel
    have HHi := Lib.hid hHi
    have HBi := Lib.hid hbi
    have HIL := Lib.hid hil
    clear hHi hbi hil HH2 HB2
    by_cases hlt : i < 54 + m
    · have h58 : i < 58 := by omega
      have HLT := Lib.hid hlt
      have H58 := Lib.hid h58
      obtain ⟨s1, hs1⟩ : ∃ s1 : ByteArray, (⟨(Go.Lib.itoa (i : Int)).toArray⟩ : ByteArray) = s1 := ⟨_, rfl⟩
      have HS := Lib.hid hs1
      have hsz : s1.size ≤ 2 := by rw [← hs1, itoa_dg i (by omega)]; show (dg i).length ≤ 2; unfold dg; split <;> simp
      have HA := Lib.hid (show (⟨#[84]⟩ : ByteArray) ++ s1 = ⟨(nmT i).toArray⟩ by rw [← hs1]; exact app_T i h58)
      have HSZ := Lib.hid hsz
      have hge : decide ((i : Int) < 54 + (m : Int)) = true := by rw [decide_eq_true_eq]; omega
      have hw4 : wrap64 ((i : Int) + 4) = (i : Int) + 4 := wrap64_in (by omega) (by omega)
      have hi1 : wrap64 ((i : Int) + 1) = (i : Int) + 1 := wrap64_in (by omega) (by omega)
      have hi0 : (0 : Int) ≤ (i : Int) := by omega
      have hsl : ¬ 9223372036854775807 < 1 + s1.size := by omega
      clear hs1 hlt h58 hm5 hsz
      by_cases h6 : i < 56
      · have h6d : decide (60 ≤ (i : Int) + 4) = false := by rw [decide_eq_false_iff_not]; omega
        have H6 := Lib.hid h6
        clear h6
        go_wp2_with (fail)
        refine (digits_any (i : Int) wr (by omega) (by have := H58.out; omega)).mono ?_
        rintro e u5 ⟨rfl, hb⟩
        rw [HS.out]
        have HHd := Lib.hid (HHi.out.bh hb)
        have HBd := Lib.hid (BH.trans HBi.out hb)
        clear hb
        go_wp2_with (fail)
        rw [HA.out]
        refine (hDecT i H58.out w.heap.size p b v3 l3 u5 HHd.out (Below.size HBd.out)).mono ?_
        rintro e u6 ⟨rfl, v6, l6, h1, h2⟩
        rw [if_pos H6.out]
        have HHe := Lib.hid h1
        have HBe := Lib.hid (Below.trans (show Below w.heap.size w u5 from HBd.out) h2)
        clear h1 h2
        go_wp2_with (fail)
        have hlt2 := HLT.out
        exact ⟨⟨i + 1, v6, l6, by (have hq := H58.out); rw [wrap64_in (by omega) (by omega)]; rfl, hlt2, HHe.out, HBe.out⟩, by simp; omega⟩
      · have h6d : decide (60 ≤ (i : Int) + 4) = true := by rw [decide_eq_true_eq]; omega
        have h6i : (60 : Int) ≤ (i : Int) + 4 := by omega
        have H6 := Lib.hid h6
        clear h6
        go_wp2_with (fail)
        refine (digits_any (i : Int) wr (by omega) (by have := H58.out; omega)).mono ?_
        rintro e u5 ⟨rfl, hb⟩
        rw [HS.out]
        have HHd := Lib.hid (HHi.out.bh hb)
        have HBd := Lib.hid (BH.trans HBi.out hb)
        clear hb
        go_wp2_with (fail)
        rw [HA.out]
        refine (hDecT i H58.out w.heap.size p b v3 l3 u5 HHd.out (Below.size HBd.out)).mono ?_
        rintro e u6 ⟨rfl, v6, l6, h1, h2⟩
        rw [if_neg H6.out]
        have HHe := Lib.hid h1
        have HBe := Lib.hid (Below.trans (show Below w.heap.size w u5 from HBd.out) h2)
        clear h1 h2
        go_wp2_with (fail)
        have hlt2 := HLT.out
        exact ⟨⟨i + 1, v6, l6, by (have hq := H58.out); rw [wrap64_in (by omega) (by omega)]; rfl, hlt2, HHe.out, HBe.out⟩, by simp; omega⟩
    · have hge : decide ((i : Int) < 54 + (m : Int)) = false := by rw [decide_eq_false_iff_not]; omega
      have hie : i = 54 + m := by have := HIL.out; omega
      have HI := Lib.hid hie
      have h0 : 0 < i := by omega
      have H0 := Lib.hid h0
      clear hlt hie h0 hm5
      go_wp2_with (fail)
      refine (hDecS i H0.out w.heap.size p b v3 l3 wr HHi.out (Below.size HBi.out)).mono ?_
      rintro e u6 ⟨rfl, v6, l6, h1, h2⟩
      have HHe := Lib.hid h1
      have HBe := Lib.hid (Below.trans (show Below w.heap.size w wr from HBi.out) h2)
      clear h1 h2
      go_wp2_with (fail)
      refine (hDecO i H0.out w.heap.size p b v6 l6 u6 HHe.out (Below.size HBe.out)).mono ?_
      rintro e u7 ⟨rfl, v7, l7, h1, h2⟩
      have HHf := Lib.hid h1
      have HBf := Lib.hid (Below.trans (show Below w.heap.size w u6 from HBe.out) h2)
      clear h1 h2
      go_wp2_with (fail)
      refine (hDecls_len 1 w.heap.size p b v7 l7 (dsAt i) u7 HHf.out (goodAt i) (Below.size HBf.out) (by rw [ds_len]; omega) (by decide) (by decide)).mono ?_
      rintro e u8 ⟨A8, c8, rfl, hb⟩
      have HB8 := Lib.hid (Below.trans (show Below w.heap.size w u7 from HBf.out) (hb.mono (Below.size HBf.out)))
      clear hb
      have hL : (dsAt i).length = if m < 2 then 58 + m else 60 := by rw [ds_len, HI.out]; split <;> omega
      rw [hL]
      have hm5 := H5.out
      clear hL HI H0 HHi HBi HHe HBe HHf HBf HIL
      obtain rfl | rfl | rfl | rfl | rfl : m = 0 ∨ m = 1 ∨ m = 2 ∨ m = 3 ∨ m = 4 := by omega
      all_goals
        go_wp2_with (fail)
        go_ret
        exact ⟨rfl, HB8.out⟩
end Go.Proofs.Ytpdigaankmgagaa
