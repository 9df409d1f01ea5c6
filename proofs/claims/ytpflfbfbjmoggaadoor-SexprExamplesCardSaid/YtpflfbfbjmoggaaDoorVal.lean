/- sexpr.Valid at nodes that can be written: true. No condition but that the nodes nest no deeper than the limit. -/
import Derived.Test.YtpflfbfbjmoggaaDoorLeaf
import Derived.Test.YtpflfbfbjmoggaaDoorId
import Derived.Test.YtpflfbfbjmoggaaDoorRt2
set_option linter.unusedVariables false
set_option linter.unusedSimpArgs false
namespace Go.Proofs.YtpflfbfbjmoggaaDoor
open Go.RowKit Sx

theorem at_mem (s : ByteArray) (q : Nat) (h : q < s.size) : s[q] ∈ s.data.toList := List.mem_of_mem_drop (i := q) (by rw [drop_at s q h]; simp)

set_option maxHeartbeats 1000000 in
theorem isWord_yes (s : ByteArray) (w : World) (h : okW s.data.toList = true) :
    Calls Tryd.prog 92 #[.string s] w fun e w' => e = .returned (.bool true) ∧ w = w' := by
  simp only [okW, Bool.and_eq_true, Bool.not_eq_true', List.all_eq_true, decide_eq_true_eq] at h
  have hl : s.data.toList.length = s.size := by simp
  have h1 : 1 ≤ s.size := by
    rcases Nat.eq_zero_or_pos s.size with hz | hz
    · have : s.data.toList = [] := List.eq_nil_of_length_eq_zero (by omega)
      rw [this] at h; simp at h
    · exact hz
  have h24 : s.size ≤ 24 := by omega
  have hw := h.1.2
  have h0 := toList_ne s h1
  have h6 : s.toList.isEmpty = false := by cases h : s.toList with
    | nil => exact absurd h h0
    | cons a b => rfl
  have h2 : ¬ (24 : Int) < (s.size : Int) := by omega
  have Hw := Lib.hid hw
  clear hw h hl
  go_enter Tryd.func92, Tryd.ntmps92
  go_wp2_with (fail)
  go_loopw [3, 13] (fun _ i wr => ∃ q : Nat, i = .int .i64 (q : Int) ∧ q ≤ s.size ∧ wr = w) (fun _ i _ => s.size - (match i with | .int _ n => n.toNat | _ => 0))
  case atStart => exact ⟨0, rfl, Nat.zero_le _, rfl⟩
  case round =>
    obtain ⟨q, rfl, hq, rfl⟩ := hrel
    by_cases hlt : q < s.size
    · have hti : decide ((q : Int) < (s.size : Int)) = true := by simp; omega
      have hq5 := Hw.out s[q] (at_mem s q hlt)
      have b0 := byte_lo s[q]
      have b1 := byte_hi s[q]
      have Hc := Lib.hid (fun W => isWordByte_yes (s[q].toNat : Int) W b0 b1 hq5)
      clear hq5
      go_wp2_with (go_at_call 82; refine (Hc.out _).mono ?_; rintro e1 w1 ⟨rfl, rfl⟩)
      refine ⟨⟨q + 1, by simp, hlt, trivial⟩, by simp; omega⟩
    · have hti : decide ((q : Int) < (s.size : Int)) = false := by simp; omega
      go_wp2_with (fail)
      go_ret
      exact ⟨rfl, rfl⟩

set_option maxHeartbeats 1000000 in
theorem isStringValue_yes (s : ByteArray) (w : World) (h : okS s.data.toList = true) :
    Calls Tryd.prog 93 #[.string s] w fun e w' => e = .returned (.bool true) ∧ w = w' := by
  simp only [okS, Bool.and_eq_true, List.all_eq_true, decide_eq_true_eq] at h
  have hl : s.data.toList.length = s.size := by simp
  have h24 : s.size ≤ 24 := by omega
  have h2 : ¬ (2000 : Int) < (s.size : Int) := by omega
  have Hw := Lib.hid h.1
  clear h hl
  go_enter Tryd.func93, Tryd.ntmps93
  go_wp2_with (fail)
  go_loopw [3, 9] (fun _ i wr => ∃ q : Nat, i = .int .i64 (q : Int) ∧ q ≤ s.size ∧ wr = w) (fun _ i _ => s.size - (match i with | .int _ n => n.toNat | _ => 0))
  case atStart => exact ⟨0, rfl, Nat.zero_le _, rfl⟩
  case round =>
    obtain ⟨q, rfl, hq, rfl⟩ := hrel
    by_cases hlt : q < s.size
    · have hti : decide ((q : Int) < (s.size : Int)) = true := by simp; omega
      have hq5 := Hw.out s[q] (at_mem s q hlt)
      have b0 := byte_lo s[q]
      have b1 := byte_hi s[q]
      have hc := fun W => isStringByte_any (s[q].toNat : Int) W b0 b1
      rw [hq5] at hc
      have Hc := Lib.hid hc
      clear hc hq5
      go_wp2_with (go_at_call 123; refine (Hc.out _).mono ?_; rintro e1 w1 ⟨rfl, rfl⟩)
      refine ⟨⟨q + 1, by simp, hlt, trivial⟩, by simp; omega⟩
    · have hti : decide ((q : Int) < (s.size : Int)) = false := by simp; omega
      go_wp2_with (fail)
      go_ret
      exact ⟨rfl, rfl⟩

set_option maxHeartbeats 4000000 in
set_option maxRecDepth 100000 in
theorem validWithin_yes (N : Nat) : ∀ (k o : Int) (t : List UInt8) (kids : Fo) (A : Option Addr) (c : Nat) (ys : List Value) (S : Nat → Prop) (room : Nat) (w : World), fsize kids ≤ N → fsize kids ≤ 1073741824 → readsAt w S A kids.len ys → rowOf w S kids ys →
    vF (.one k t kids o) → dep (.one k t kids o) ≤ room → room ≤ 40 →
    Calls Tryd.prog 59 #[.agg #[.int .i64 k, .string ⟨t.toArray⟩, .slice A kids.len c, .int .i64 o], .int .i64 (room : Int)] w fun e w' => e = .returned (.bool true) ∧ Below w.heap.size w w' := by
  induction N using Nat.strongRecOn with
  | ind N ih =>
  intro k o t kids A c ys S room w hN hN2 hra hxa hv hd hroom
  have IH := Lib.hid ih
  clear ih
  rcases hv.1 with ⟨rfl, rfl, hw⟩ | ⟨rfl, rfl, hs⟩ | ⟨rfl, rfl, hk⟩
  · have Hw := Lib.hid (fun W => isWord_yes ⟨t.toArray⟩ W (by simpa using hw))
    have hbx := heap_alloc_new w (.cells #[.int .i64 1, .string ⟨t.toArray⟩, .slice A 0 c, .int .i64 o] 31 (0, 0))
    obtain ⟨b0, b1, b2, b3, z0, z1, z2, z3⟩ := row4 hbx
    clear hra hxa hv hd hbx hw
    simp only [Fo.len] at *
    go_enter Tryd.func59, Tryd.ntmps59
    go_wp2_with (go_at_call 92; refine (Hw.out _).mono ?_; rintro e1 w1 ⟨rfl, rfl⟩)
    go_ret
    exact ⟨rfl, (Below.refl _ _).alloc (Nat.le_refl _) _⟩
  · have Hw := Lib.hid (fun W => isStringValue_yes ⟨t.toArray⟩ W (by simpa using hs))
    have hbx := heap_alloc_new w (.cells #[.int .i64 2, .string ⟨t.toArray⟩, .slice A 0 c, .int .i64 o] 31 (0, 0))
    obtain ⟨b0, b1, b2, b3, z0, z1, z2, z3⟩ := row4 hbx
    clear hra hxa hv hd hbx hs
    simp only [Fo.len] at *
    go_enter Tryd.func59, Tryd.ntmps59
    go_wp2_with (go_at_call 93; refine (Hw.out _).mono ?_; rintro e1 w1 ⟨rfl, rfl⟩)
    go_ret
    exact ⟨rfl, (Below.refl _ _).alloc (Nat.le_refl _) _⟩
  · have hdk : dep kids + 1 ≤ room := by simp only [Fo.one, dep, if_true] at hd; omega
    obtain ⟨rm, rfl⟩ : ∃ rm, room = rm + 1 := ⟨room - 1, by omega⟩
    obtain ⟨R, hR⟩ : ∃ R : Int, ((rm + 1 : Nat) : Int) = R := ⟨_, rfl⟩
    have hr0 : (R == 0) = false := by rw [← hR]; simp; omega
    have hwr : IntKind.i64.wrap (R - 1) = (rm : Int) := (IntKind.wrap_i64 _).trans (by omega)
    have hwr2 : wrap64 (R - 1) = (rm : Int) := (wrap64_in (by omega) (by omega)).trans (by omega)
    rw [hR]
    have HRR := Lib.hid hR
    clear hR
    have hwr' := Lib.hid (And.intro hwr hwr2)
    clear hwr hwr2
    have HV := Lib.hid hk
    have hrow := rowAt_start hra hxa
    have hlen := len_le_fsize kids
    obtain ⟨L, hLL⟩ : ∃ L, kids.len = L := ⟨_, rfl⟩
    have hA : 0 < L → ∃ g off : Nat, A = some ⟨g, off, none⟩ ∧ g < w.heap.size := fun h => by rw [← hLL] at h; obtain ⟨g, off, h, _, hl, _⟩ := hra h; exact ⟨g, off, h, hl⟩
    clear hra hv hd hk
    rw [hLL]
    have HL := Lib.hid hLL
    have HX := Lib.hid hxa
    have HR := Lib.hid hrow
    clear hxa hrow
    have hlen' : L ≤ fsize kids := by have := HL.out; omega
    clear hlen hLL
    go_enter Tryd.func59, Tryd.ntmps59
    go_wp2_with (fail)
    go_loopw [4, 6, 43] (fun _ _ iv wr => ∃ (i : Nat) (r : Fo) (xs : List Value), iv = .int .i64 (i : Int) ∧ i + r.len = L ∧ vF r ∧ dep r ≤ rm ∧ fsize r ≤ fsize kids ∧ rowOf w S r xs ∧ rowAt w A i xs ∧ Below w.heap.size w wr) (fun _ _ iv _ => L - (match iv with | .int _ n => n.toNat | _ => 0))
    case atStart => exact ⟨0, kids, ys, rfl, by rw [HL.out]; omega, HV.out, by omega, Nat.le_refl _, HX.out, HR.out, (Below.refl _ _).alloc (Nat.le_refl _) _⟩
    case round =>
      obtain ⟨i, r, xs, rfl, hi, hvr, hdr, hsz, hx, hcx, hbel⟩ := hrel
      have hbs := hbel.size
      cases r with
      | nil =>
        simp only [Fo.len] at hi
        have hge : decide (i < L) = false := by simp; omega
        have Hi := Lib.hid hi
        clear hi
        go_wp2_with (fail)
        go_ret
        exact ⟨rfl, hbel⟩
      | cons k1 t1 kids1 o1 r1 =>
        obtain ⟨A1, c1, ys1, zs, rfl, hc1, hr1, hk1, hrest1⟩ := hx
        have hv1 : vF (.one k1 t1 kids1 o1) := ⟨hvr.1, trivial⟩
        have hd1 : dep (.one k1 t1 kids1 o1) ≤ rm := by
          simp only [Fo.one, dep] at hdr ⊢
          omega
        have Hvr := Lib.hid hvr.2
        have hdr2 : dep r1 ≤ rm := by simp only [dep] at hdr; omega
        simp only [Fo.len, fsize] at hi hsz
        obtain ⟨g, off, rfl, hgl⟩ := hA (by omega)
        have hge : decide ((i : Int) < (L : Int)) = true := by simp; omega
        have a0 := (hbel.cell (p := ⟨g, _, none⟩) (by exact hgl)).trans (hcx g off rfl 0 _ rfl)
        have a1 := (hbel.cell (p := ⟨g, _, none⟩) (by exact hgl)).trans (hcx g off rfl 1 _ rfl)
        have a2 := (hbel.cell (p := ⟨g, _, none⟩) (by exact hgl)).trans (hcx g off rfl 2 _ rfl)
        have a3 := (hbel.cell (p := ⟨g, _, none⟩) (by exact hgl)).trans (hcx g off rfl 3 _ rfl)
        simp only [Nat.add_zero] at a0
        have hiL : (i : Int) < (L : Int) := by omega
        have hi0 : (0 : Int) ≤ (i : Int) := by omega
        have hne : ¬ g = wr.heap.size := by omega
        have Hi := Lib.hid hi
        clear hi hvr hdr
        have hbn := heap_alloc_new wr (.cells #[.int .i64 k1, .string ⟨t1.toArray⟩, .slice A1 kids1.len c1, .int .i64 o1] 31 (0, 0))
        obtain ⟨p0, p1, p2, p3, z0, z1, z2, z3⟩ := row4 hbn
        have hB1 : Below w.heap.size w (wr.alloc (.cells #[.int .i64 k1, .string ⟨t1.toArray⟩, .slice A1 kids1.len c1, .int .i64 o1] 31 (0, 0))) := hbel.alloc hbs _
        clear hbn
        obtain ⟨hwr, hwr2⟩ := hwr'.out
        go_wp2_with (fail)
        refine (IH.out (fsize kids1) (by omega) k1 o1 t1 kids1 A1 c1 ys1 S rm _ (Nat.le_refl _) (by omega) (hr1.keep hB1.size fun x hx hl => ⟨hB1.block x hl, hx⟩) (hk1.keep hB1.size (fun x hx hl => ⟨hB1.block x hl, hx⟩) _) hv1 (by omega) (by omega)).mono ?_
        rintro e1 w1 ⟨rfl, hb1⟩
        go_wp2_with (fail)
        have hi := Hi.out
        exact ⟨⟨i + 1, r1, zs, rfl, by omega, Hvr.out, hdr2, by omega, hrest1, rowAt_next hcx, hB1.trans (hb1.mono hB1.size)⟩, by simp; omega⟩

theorem valid_yes (k o : Int) (t : List UInt8) (kids : Fo) (A : Option Addr) (c : Nat) (ys : List Value) (S : Nat → Prop) (w : World) (hN : fsize kids ≤ 1073741824) (hr : readsAt w S A kids.len ys) (hx : rowOf w S kids ys) (hv : vF (.one k t kids o)) (hd : dep (.one k t kids o) ≤ 40) :
    Calls Tryd.prog 22 #[.agg #[.int .i64 k, .string ⟨t.toArray⟩, .slice A kids.len c, .int .i64 o]] w fun e w' => e = .returned (.bool true) ∧ Below w.heap.size w w' := by
  have hbx := heap_alloc_new w (.cells #[.int .i64 k, .string ⟨t.toArray⟩, .slice A kids.len c, .int .i64 o] 31 (0, 0))
  obtain ⟨b0, b1, b2, b3, z0, z1, z2, z3⟩ := row4 hbx
  have B1 : Below w.heap.size w (w.alloc (.cells #[.int .i64 k, .string ⟨t.toArray⟩, .slice A kids.len c, .int .i64 o] 31 (0, 0))) := (Below.refl _ _).alloc (Nat.le_refl _) _
  have hR := Lib.hid (hr.keep (S' := S) B1.size fun x hx hl => ⟨B1.block x hl, hx⟩)
  have hX := Lib.hid (hx.keep (S' := S) B1.size (fun x hx hl => ⟨B1.block x hl, hx⟩) _)
  have HB := Lib.hid B1
  have HV := Lib.hid hv
  have HD := Lib.hid hd
  clear hr hx B1 hbx hv hd
  go_enter Tryd.func22, Tryd.ntmps22
  go_wp2_with (fail)
  refine (validWithin_yes _ k o t kids A c ys S 40 _ (Nat.le_refl _) hN hR.out hX.out HV.out HD.out (Nat.le_refl _)).mono ?_
  rintro e1 w1 ⟨rfl, hb1⟩
  go_wp2_with (fail)
  go_ret
  exact ⟨rfl, HB.out.trans (hb1.mono (by simp))⟩
end Go.Proofs.YtpflfbfbjmoggaaDoor
