/- telref1.FormatNode: the text of a node. No condition but that the text is of bounded length. -/
import Derived.Test.YtpflfbfbjmoggaaDoorQte
set_option linter.unusedVariables false
set_option linter.unusedSimpArgs false
namespace Go.Proofs.YtpflfbfbjmoggaaDoor
open Go.RowKit Sx

set_option maxHeartbeats 2000000 in
set_option maxRecDepth 100000 in
theorem format_any (N : Nat) : ∀ (k o : Int) (t : List UInt8) (kids : Fo) (A : Option Addr) (c : Nat) (ys : List Value) (S : Nat → Prop) (w : World), fsize kids ≤ N → fsize kids ≤ 1073741824 → kids.len ≤ c → readsAt w S A kids.len ys → rowOf w S kids ys →
    (fmt1 k t (fmtF false kids)).length ≤ 8388608 →
    Calls Tryd.prog 19 #[.agg #[.int .i64 k, .string ⟨t.toArray⟩, .slice A kids.len c, .int .i64 o]] w fun e w' => e = .returned (.string ⟨(fmt1 k t (fmtF false kids)).toArray⟩) ∧ Below w.heap.size w w' := by
  induction N using Nat.strongRecOn with
  | ind N ih =>
  intro k o t kids A c ys S w hN hN2 hc hra hxa hL
  have IH := Lib.hid ih
  clear ih
  by_cases hk1 : k = 1
  · subst hk1
    have hbx := heap_alloc_new w (.cells #[.int .i64 1, .string ⟨t.toArray⟩, .slice A kids.len c, .int .i64 o] 39 (0, 0))
    obtain ⟨b0, b1, b2, b3, z0, z1, z2, z3⟩ := row4 hbx
    go_enter Tryd.func19, Tryd.ntmps19
    go_wp2_with (fail)
    go_ret
    exact ⟨rfl, (Below.refl _ _).alloc (Nat.le_refl _) _⟩
  by_cases hk2 : k = 2
  · subst hk2
    have hbx := heap_alloc_new w (.cells #[.int .i64 2, .string ⟨t.toArray⟩, .slice A kids.len c, .int .i64 o] 39 (0, 0))
    obtain ⟨b0, b1, b2, b3, z0, z1, z2, z3⟩ := row4 hbx
    have hlq := len_quoteB t
    have hL' : (quoteB t).length ≤ 8388608 := hL
    go_enter Tryd.func19, Tryd.ntmps19
    go_wp2_with (fail)
    refine (quote_any t _ (by omega)).mono ?_
    rintro e w1 ⟨rfl, hb1⟩
    go_wp2_with (fail)
    go_ret
    exact ⟨rfl, ((Below.refl _ _).alloc (Nat.le_refl _) _).trans (hb1.mono (by simp))⟩
  have hk1' : (k == 1) = false := by simp [hk1]
  have hk2' : (k == 2) = false := by simp [hk2]
  have hf : fmt1 k t (fmtF false kids) = 40 :: (fmtF false kids ++ [41]) := by rw [fmt1, if_neg hk1, if_neg hk2]
  rw [hf] at hL ⊢
  simp only [List.length_cons, List.length_append, List.length_nil] at hL
  have hrow := rowAt_start hra hxa
  have hlen := len_le_fsize kids
  obtain ⟨L, hLL⟩ : ∃ L, kids.len = L := ⟨_, rfl⟩
  have hA : 0 < L → ∃ g off : Nat, A = some ⟨g, off, none⟩ ∧ g < w.heap.size := fun h => by rw [← hLL] at h; obtain ⟨g, off, h, _, hl, _⟩ := hra h; exact ⟨g, off, h, hl⟩
  clear hra
  rw [hLL] at hc ⊢
  have HL := Lib.hid hLL
  have HX := Lib.hid hxa
  have HR := Lib.hid hrow
  clear hxa hrow
  obtain ⟨F, hF⟩ : ∃ F, fmtF false kids = F := ⟨_, rfl⟩
  rw [hF] at hL ⊢
  have HF := Lib.hid hF
  clear hF
  have hbx := heap_alloc_new w (.cells #[.int .i64 k, .string ⟨t.toArray⟩, .slice A L c, .int .i64 o] 39 (0, 0))
  have HB := Lib.hid hbx
  obtain ⟨b0, b1, b2, b3, z0, z1, z2, z3⟩ := row4 hbx
  clear hbx
  have hlen' : L ≤ fsize kids := by have := HL.out; omega
  clear hlen hLL
  go_enter Tryd.func19, Tryd.ntmps19
  go_wp2_with (fail)
  go_loopw [3, 4] (fun sv iv wr => ∃ (s : ByteArray) (i : Nat) (r : Fo) (xs : List Value), sv = .string s ∧ iv = .int .i64 (i : Int) ∧ i + r.len = L ∧ s.data.toList ++ fmtF (decide (0 < i)) r = 40 :: F ∧ fsize r ≤ fsize kids ∧ rowOf w S r xs ∧ rowAt w A i xs ∧ Below (w.heap.size + 1) (w.alloc (.cells #[.int .i64 k, .string ⟨t.toArray⟩, .slice A L c, .int .i64 o] 39 (0, 0))) wr) (fun _ iv _ => L - (match iv with | .int _ n => n.toNat | _ => 0))
  case atStart => exact ⟨⟨#[40]⟩, 0, kids, ys, rfl, rfl, by rw [HL.out]; omega, by rw [show decide (0 < 0) = false from rfl, HF.out]; rfl, Nat.le_refl _, HX.out, HR.out, Below.refl _ _⟩
  case round =>
    obtain ⟨s, i, r, xs, rfl, rfl, hi, hs, hsz, hx, hcx, hbel⟩ := hrel
    have hs' := Lib.hid hs
    have hlr0 : s.size + (fmtF (decide (0 < i)) r).length ≤ 8388607 := by
      have := congrArg List.length hs
      simp only [List.length_append, List.length_cons] at this
      have e : s.data.toList.length = s.size := by simp
      omega
    have hlr : (fmtF (decide (0 < i)) r).length ≤ 8388608 := by omega
    have hss : (s.size : Int) ≤ 8388608 := by omega
    have hs1 : ((ByteArray.mk #[32]).size : Int) ≤ 8388608 := by decide
    have hs2 : ((ByteArray.mk #[41]).size : Int) ≤ 8388608 := by decide
    have hs3 : ((s ++ ByteArray.mk #[32]).size : Int) ≤ 8388608 := by rw [ByteArray.size_append]; have : (ByteArray.mk #[32]).size = 1 := rfl; omega
    clear hs b0 b1 b2 b3 z0 z1 z2 z3
    have hbx := (hbel.block w.heap.size (by omega)).trans HB.out
    obtain ⟨b0, b1, b2, b3, z0, z1, z2, z3⟩ := row4 hbx
    clear hbx
    have hbelH := Lib.hid hbel
    have hbs := hbel.size
    have hbs' : w.heap.size + 1 ≤ wr.heap.size := by simpa using hbs
    clear hbel hbs
    cases r with
    | nil =>
      simp only [Fo.len, fsize] at hi
      have hge : decide (i < L) = false := by simp; omega
      have Hi := Lib.hid hi
      clear hi
      go_wp2_with (fail)
      go_ret
      have h := hs'.out
      simp only [fmtF, List.append_nil] at h
      refine ⟨congrArg (fun x => Ending.returned (.string x)) (ba_eq (by simp [h])), ?_⟩
      exact ((Below.refl _ _).alloc (Nat.le_refl _) _).trans (hbelH.out.mono (by omega))
    | cons k1 t1 kids1 o1 r1 =>
      obtain ⟨A1, c1, ys1, zs, rfl, hc1, hr1, hk1, hrest1⟩ := hx
      obtain ⟨hlc, hlc2⟩ := fmtF_cons_len (decide (0 < i)) k1 t1 kids1 o1 r1
      have hcs : ((ByteArray.mk (fmt1 k1 t1 (fmtF false kids1)).toArray).size : Int) ≤ 8388608 := by
        have : (ByteArray.mk (fmt1 k1 t1 (fmtF false kids1)).toArray).size = (fmt1 k1 t1 (fmtF false kids1)).length := by show (fmt1 k1 t1 (fmtF false kids1)).toArray.size = _; simp
        omega
      simp only [Fo.len, fsize] at hi hsz
      obtain ⟨g, off, rfl, hgl⟩ := hA (by omega)
      have hge : decide ((i : Int) < (L : Int)) = true := by simp; omega
      have hwr : ∀ (p : Addr), p.block < w.heap.size → wr.cell? p = w.cell? p := fun p hp => World.cell?_of_block ((hbelH.out.block p.block (by omega)).trans (Below.heap_alloc w _ _ hp))
      have a0 := (hwr ⟨g, _, none⟩ (by exact hgl)).trans (hcx g off rfl 0 _ rfl)
      have a1 := (hwr ⟨g, _, none⟩ (by exact hgl)).trans (hcx g off rfl 1 _ rfl)
      have a2 := (hwr ⟨g, _, none⟩ (by exact hgl)).trans (hcx g off rfl 2 _ rfl)
      have a3 := (hwr ⟨g, _, none⟩ (by exact hgl)).trans (hcx g off rfl 3 _ rfl)
      have hwrH := Lib.hid hwr
      clear hwr
      simp only [Nat.add_zero] at a0
      have hiL : (i : Int) < (L : Int) := by omega
      have hi0 : (0 : Int) ≤ (i : Int) := by omega
      have Hi := Lib.hid hi
      clear hi
      have hsW : w.heap.size ≤ wr.heap.size := by omega
      have hkW : ∀ x, S x → x < w.heap.size → wr.heap[x]? = w.heap[x]? ∧ S x := fun x hx hl => ⟨(hbelH.out.block x (by omega)).trans (Below.heap_alloc w _ x hl), hx⟩
      by_cases h0 : 0 < i
      · have hg0 : decide ((0 : Int) < (i : Int)) = true := by simp; omega
        go_wp2_with (fail)
        refine (IH.out (fsize kids1) (by omega) k1 o1 t1 kids1 A1 c1 ys1 S _ (Nat.le_refl _) (by omega) hc1 (hr1.keep hsW hkW) (hk1.keep hsW hkW _) (by omega)).mono ?_
        rintro e1 w1 ⟨rfl, hb1⟩
        go_wp2_with (fail)
        have hi := Hi.out
        refine ⟨⟨_, i + 1, r1, zs, rfl, rfl, by omega, ?_, by omega, hrest1, rowAt_next hcx, hbelH.out.trans (hb1.mono hbs')⟩, by simp; omega⟩
        have h := hs'.out
        rw [show decide (0 < i) = true from by simp; omega] at h
        rw [show decide (0 < i + 1) = true from by simp]
        simp only [fmtF] at h
        simpa using h
      · have hg0 : decide (0 < i) = false := by simp; omega
        go_wp2_with (fail)
        refine (IH.out (fsize kids1) (by omega) k1 o1 t1 kids1 A1 c1 ys1 S _ (Nat.le_refl _) (by omega) hc1 (hr1.keep hsW hkW) (hk1.keep hsW hkW _) (by omega)).mono ?_
        rintro e1 w1 ⟨rfl, hb1⟩
        go_wp2_with (fail)
        have hi := Hi.out
        refine ⟨⟨_, i + 1, r1, zs, rfl, rfl, by omega, ?_, by omega, hrest1, rowAt_next hcx, hbelH.out.trans (hb1.mono hbs')⟩, by simp; omega⟩
        have h := hs'.out
        rw [show decide (0 < i) = false from by simp; omega] at h
        rw [show decide (0 < i + 1) = true from by simp]
        simp only [fmtF] at h
        simpa using h
end Go.Proofs.YtpflfbfbjmoggaaDoor
