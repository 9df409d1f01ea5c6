/- typeterm.collectNames: the walk. No condition but a bounded size. -/
import Derived.Test.YtnidngpenhblcaaDoorTsr
import Derived.Test.YtnidngpenhblcaaDoorTfc
set_option linter.unusedVariables false
set_option linter.unusedSimpArgs false
namespace Go.Proofs.YtnidngpenhblcaaDoor
open Go.RowKit Go.Sort Sx

/-- what the loop holds of the set -/
structure FRs (B b g0 : Nat) (v v' : Value) (l' : List (List UInt8)) (w wr : World) : Prop where
  sa : SAs B b v' l' wr
  kq : Kq b v v' w wr
  row : v'.ownBlock ≠ some g0

set_option maxHeartbeats 8000000 in
theorem collectNames_any (N : Nat) : ∀ (k o : Int) (t : List UInt8) (kids : Fo) (A : Option Addr) (c B b : Nat) (v : Value) (l : List (List UInt8)) (w : World), fsize kids ≤ N → fsize kids ≤ 1073741824 → KB w B kids A c → SAs B b v l w → B ≤ w.heap.size →
    l.length + fsize kids + 1 ≤ 1099511627776 →
    Calls Tryd.prog 44 #[.agg #[.int .i64 k, .string ⟨t.toArray⟩, .int .i64 o, .slice A kids.len c], .pointer (some ⟨b, 0, none⟩)] w fun e w' => ∃ v', e = .returned (.tuple #[]) ∧ SAs B b v' (l ++ nm1 k t kids) w' ∧ Kq b v v' w w' := by
  induction N using Nat.strongRecOn with
  | ind N ih =>
  intro k o t kids A c B b v l w hN hN2 hK hSA hBw hll
  have IH := Lib.hid ih
  have HK := Lib.hid hK
  clear ih hK
  have hlen := len_le_fsize kids
  obtain ⟨L, hL⟩ : ∃ L, kids.len = L := ⟨_, rfl⟩
  rw [hL] at hlen ⊢
  have HL := Lib.hid hL
  clear hL
  have HX := Lib.hid (heap_alloc_new w (.cells #[.int .i64 k, .string ⟨t.toArray⟩, .int .i64 o, .slice A L c] 25 (0, 0)))
  have HB0 := Lib.hid (show BH w (w.alloc (.cells #[.int .i64 k, .string ⟨t.toArray⟩, .int .i64 o, .slice A L c] 25 (0, 0))) from (Below.refl _ _).alloc (Nat.le_refl _) _)
  have hbl := hSA.lt
  have hvg : v.ownBlock ≠ some w.heap.size := fun e => by have := (hSA.2.1.lt _ e).2; omega
  have HVG := Lib.hid hvg
  have HSA := Lib.hid hSA
  clear hvg hSA
  obtain ⟨b0, b1, b2, b3⟩ := box4 w (.int .i64 k) (.string ⟨t.toArray⟩) (.int .i64 o) (.slice A L c) 25
  by_cases hk2 : k = 2
  · subst hk2
    have HL1 : Hid ((l ++ [t]).length ≤ l.length + 1) := Lib.hid (by simp)
    have Hl2 : Hid ((l ++ [t]) ++ nmL kids = l ++ nm1 2 t kids) := Lib.hid (by rw [nm1, if_pos rfl, List.append_assoc])
    go_enter Tryd.func44, Tryd.ntmps44
    go_wp2_with (fail)
    refine (addS_any B b v l _ _ (HSA.out.bh HB0.out) (by omega) (by simp; omega)).mono ?_
    rintro e w2 ⟨v2, rfl, hsa2, hkq2⟩
    have hFR : FRs B b w.heap.size v v2 (l ++ [t]) w w2 := ⟨hsa2, (Kq.bh HB0.out).trans hkq2, by
      rcases hkq2.own with e | ⟨gg, hgg, e⟩
      · rw [e]; exact HVG.out
      · rw [e]; intro e'; cases e'; simp at hgg; omega⟩
    have hX2 := Kq.keepS (B := B) (l := l) hkq2 HX.out (by omega) HVG.out
    have HFR := Lib.hid hFR
    have HX1 := Lib.hid hX2
    clear hsa2 hkq2 hFR hX2 b0 b1 b2 b3
    obtain ⟨b0, b1, b2, b3, _⟩ := row4 HX1.out
    go_wp2_with (fail)
    go_loopw [5, 16] (fun _ iv wr => ∃ (i : Nat) (r : Fo) (v' : Value) (l' : List (List UInt8)), iv = .int .i64 (i : Int) ∧ Suf i r kids ∧ FRs B b w.heap.size v v' l' w wr ∧ l' ++ nmL r = l ++ nm1 2 t kids ∧
      wr.heap[w.heap.size]? = some (.cells #[.int .i64 2, .string ⟨t.toArray⟩, .int .i64 o, .slice A L c] 25 (0, 0)) ∧ l'.length + fsize r ≤ l.length + fsize kids + 1) (fun _ iv _ => L - (match iv with | .int _ n => n.toNat | _ => 0))
    case atStart => exact ⟨0, kids, _, _, rfl, Suf.zero _, HFR.out, Hl2.out, HX1.out, by have := HL1.out; omega⟩
    case round =>
      obtain ⟨i, r, v', l', rfl, hsuf, hfr, hls, hbox, hll'⟩ := hrel
      have hlen' := hsuf.len
      rw [HL.out] at hlen'
      have HFr := Lib.hid hfr
      have HLs := Lib.hid hls
      have HBox := Lib.hid hbox
      clear b0 b1 b2 b3 hfr hls hbox
      obtain ⟨b0, b1, b2, b3, _⟩ := row4 HBox.out
      cases r with
      | nil =>
        simp only [Fo.len] at hlen'
        have hge : decide (i < L) = false := by rw [decide_eq_false_iff_not]; omega
        clear hlen' hsuf
        go_wp2_with (fail)
        go_end0
        have h := HLs.out
        simp only [nmL, List.append_nil] at h
        exact ⟨v', rfl, by rw [← h]; exact HFr.out.sa, HFr.out.kq⟩
      | cons k1 t1 kids1 o1 r1 =>
        have hBB : Below B w wr := HFr.out.kq.belowS HSA.out hBw
        obtain ⟨g, off, A1, c1, rfl, hgl, q0, q1, q2, q3, hk1⟩ := HK.out.get hsuf hBB
        obtain ⟨hkid, hil⟩ := hsuf.kid
        rw [HL.out] at hil
        have hge : decide ((i : Int) < (L : Int)) = true := by rw [decide_eq_true_eq]; omega
        have hiL : (i : Int) < (L : Int) := by omega
        have hi0 : (0 : Int) ≤ (i : Int) := by omega
        have hws := heap_lt HBox.out
        have hne : ¬ g = wr.heap.size := by omega
        have hbw := HFr.out.sa.lt
        have hgb : ¬ wr.heap.size = b := by omega
        have hwb : ¬ w.heap.size = b := by omega
        have hrw : v'.ownBlock ≠ some wr.heap.size := fun e => by have := (HFr.out.sa.2.1.lt _ e).2; omega
        rw [nmL_cons] at HLs
        have HS := Lib.hid hsuf
        have B5 : BH wr (wr.alloc (.cells #[.int .i64 k1, .string ⟨t1.toArray⟩, .int .i64 o1, .slice A1 kids1.len c1] 25 (0, 0))) := (Below.refl _ _).alloc (Nat.le_refl _) _
        have HB5 := Lib.hid B5
        have HK1 := Lib.hid (hk1.below (hBB.trans (Below.mono B5 (by have := hBB.size; omega))))
        have HSA1 := Lib.hid (HFr.out.sa.bh B5)
        obtain ⟨p0, p1, p2, p3⟩ := box4 wr (.int .i64 k1) (.string ⟨t1.toArray⟩) (.int .i64 o1) (.slice A1 kids1.len c1) 25
        have hBx := (Below.block B5 w.heap.size hws).trans HBox.out
        have HBx5 := Lib.hid hBx
        have Hll := Lib.hid hll'
        have HBB := Lib.hid hBB
        have HRW := Lib.hid hrw
        clear hk1 hsuf B5 hlen' hll' hBB hrw hBx b0 b1 b2 b3
        go_wp2_with (fail)
        refine (IH.out (fsize kids1) (by omega) k1 o1 t1 kids1 A1 c1 B b v' l' _ (Nat.le_refl _) (by omega) HK1.out HSA1.out (by have := HBB.out.size; simp; omega) (by have h := Hll.out; simp only [fsize] at h; omega)).mono ?_
        rintro e u ⟨v'', rfl, h1, h2⟩
        have HSa := Lib.hid h1
        have HKq := Lib.hid h2
        have HZw := Lib.hid (Kq.keepS (B := B) (l := l') h2 HBx5.out hwb HFr.out.row)
        clear h1 h2
        go_wp2_with (fail)
        refine ⟨⟨i + 1, r1, v'', _, rfl, HS.out.next, ⟨HSa.out, HFr.out.kq.trans ((Kq.bh HB5.out).trans HKq.out), ?_⟩, ?_, HZw.out, ?_⟩, by simp; omega⟩
        · rcases HKq.out.own with e | ⟨gg, hgg, e⟩
          · rw [e]; exact HFr.out.row
          · rw [e]; intro e'; cases e'; simp at hgg; omega
        · rw [List.append_assoc]; exact HLs.out
        · have hll3 := Hll.out
          have h5 := nm1_len k1 t1 kids1
          simp only [fsize] at hll3
          simp only [List.length_append]
          omega
  · have t2 : (k == 2) = false := by simp [hk2]
    have HL1 : Hid (l.length ≤ l.length + 1) := Lib.hid (by omega)
    have Hl2 : Hid (l ++ nmL kids = l ++ nm1 k t kids) := Lib.hid (by rw [nm1, if_neg hk2, List.nil_append])
    have HFR : Hid (FRs B b w.heap.size v v l w (w.alloc (.cells #[.int .i64 k, .string ⟨t.toArray⟩, .int .i64 o, .slice A L c] 25 (0, 0)))) := Lib.hid ⟨HSA.out.bh HB0.out, Kq.bh HB0.out, HVG.out⟩
    have HX1 := HX
    clear hk2
    go_enter Tryd.func44, Tryd.ntmps44
    go_wp2_with (fail)
    go_loopw [5, 16] (fun _ iv wr => ∃ (i : Nat) (r : Fo) (v' : Value) (l' : List (List UInt8)), iv = .int .i64 (i : Int) ∧ Suf i r kids ∧ FRs B b w.heap.size v v' l' w wr ∧ l' ++ nmL r = l ++ nm1 k t kids ∧
      wr.heap[w.heap.size]? = some (.cells #[.int .i64 k, .string ⟨t.toArray⟩, .int .i64 o, .slice A L c] 25 (0, 0)) ∧ l'.length + fsize r ≤ l.length + fsize kids + 1) (fun _ iv _ => L - (match iv with | .int _ n => n.toNat | _ => 0))
    case atStart => exact ⟨0, kids, _, _, rfl, Suf.zero _, HFR.out, Hl2.out, HX1.out, by have := HL1.out; omega⟩
    case round =>
      obtain ⟨i, r, v', l', rfl, hsuf, hfr, hls, hbox, hll'⟩ := hrel
      have hlen' := hsuf.len
      rw [HL.out] at hlen'
      have HFr := Lib.hid hfr
      have HLs := Lib.hid hls
      have HBox := Lib.hid hbox
      clear b0 b1 b2 b3 hfr hls hbox
      obtain ⟨b0, b1, b2, b3, _⟩ := row4 HBox.out
      cases r with
      | nil =>
        simp only [Fo.len] at hlen'
        have hge : decide (i < L) = false := by rw [decide_eq_false_iff_not]; omega
        clear hlen' hsuf
        go_wp2_with (fail)
        go_end0
        have h := HLs.out
        simp only [nmL, List.append_nil] at h
        exact ⟨v', rfl, by rw [← h]; exact HFr.out.sa, HFr.out.kq⟩
      | cons k1 t1 kids1 o1 r1 =>
        have hBB : Below B w wr := HFr.out.kq.belowS HSA.out hBw
        obtain ⟨g, off, A1, c1, rfl, hgl, q0, q1, q2, q3, hk1⟩ := HK.out.get hsuf hBB
        obtain ⟨hkid, hil⟩ := hsuf.kid
        rw [HL.out] at hil
        have hge : decide ((i : Int) < (L : Int)) = true := by rw [decide_eq_true_eq]; omega
        have hiL : (i : Int) < (L : Int) := by omega
        have hi0 : (0 : Int) ≤ (i : Int) := by omega
        have hws := heap_lt HBox.out
        have hne : ¬ g = wr.heap.size := by omega
        have hbw := HFr.out.sa.lt
        have hgb : ¬ wr.heap.size = b := by omega
        have hwb : ¬ w.heap.size = b := by omega
        have hrw : v'.ownBlock ≠ some wr.heap.size := fun e => by have := (HFr.out.sa.2.1.lt _ e).2; omega
        rw [nmL_cons] at HLs
        have HS := Lib.hid hsuf
        have B5 : BH wr (wr.alloc (.cells #[.int .i64 k1, .string ⟨t1.toArray⟩, .int .i64 o1, .slice A1 kids1.len c1] 25 (0, 0))) := (Below.refl _ _).alloc (Nat.le_refl _) _
        have HB5 := Lib.hid B5
        have HK1 := Lib.hid (hk1.below (hBB.trans (Below.mono B5 (by have := hBB.size; omega))))
        have HSA1 := Lib.hid (HFr.out.sa.bh B5)
        obtain ⟨p0, p1, p2, p3⟩ := box4 wr (.int .i64 k1) (.string ⟨t1.toArray⟩) (.int .i64 o1) (.slice A1 kids1.len c1) 25
        have hBx := (Below.block B5 w.heap.size hws).trans HBox.out
        have HBx5 := Lib.hid hBx
        have Hll := Lib.hid hll'
        have HBB := Lib.hid hBB
        have HRW := Lib.hid hrw
        clear hk1 hsuf B5 hlen' hll' hBB hrw hBx b0 b1 b2 b3
        go_wp2_with (fail)
        refine (IH.out (fsize kids1) (by omega) k1 o1 t1 kids1 A1 c1 B b v' l' _ (Nat.le_refl _) (by omega) HK1.out HSA1.out (by have := HBB.out.size; simp; omega) (by have h := Hll.out; simp only [fsize] at h; omega)).mono ?_
        rintro e u ⟨v'', rfl, h1, h2⟩
        have HSa := Lib.hid h1
        have HKq := Lib.hid h2
        have HZw := Lib.hid (Kq.keepS (B := B) (l := l') h2 HBx5.out hwb HFr.out.row)
        clear h1 h2
        go_wp2_with (fail)
        refine ⟨⟨i + 1, r1, v'', _, rfl, HS.out.next, ⟨HSa.out, HFr.out.kq.trans ((Kq.bh HB5.out).trans HKq.out), ?_⟩, ?_, HZw.out, ?_⟩, by simp; omega⟩
        · rcases HKq.out.own with e | ⟨gg, hgg, e⟩
          · rw [e]; exact HFr.out.row
          · rw [e]; intro e'; cases e'; simp at hgg; omega
        · rw [List.append_assoc]; exact HLs.out
        · have hll3 := Hll.out
          have h5 := nm1_len k1 t1 kids1
          simp only [fsize] at hll3
          simp only [List.length_append]
          omega
end Go.Proofs.YtnidngpenhblcaaDoor
