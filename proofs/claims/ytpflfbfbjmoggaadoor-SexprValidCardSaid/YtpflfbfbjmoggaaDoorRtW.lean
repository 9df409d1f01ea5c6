/- tellaw1.SexprRoundTrip: the walk. No condition but the two tables. -/
import Derived.Test.YtpflfbfbjmoggaaDoorFor
import Derived.Test.YtpflfbfbjmoggaaDoorSpcA
set_option linter.unusedVariables false
set_option linter.unusedSimpArgs false
namespace Go.Proofs.YtpflfbfbjmoggaaDoor
open Go.RowKit Sx

/-- a node's children lie somewhere -/
def NdT (W : World) (kids : Fo) (A : Option Addr) (c : Nat) (ys : List Value) : Prop := kids.len ≤ c ∧ readsAt W (fun _ => True) A kids.len ys ∧ rowOf W (fun _ => True) kids ys
theorem NdT.below {W W' : World} {kids : Fo} {A : Option Addr} {c : Nat} {ys : List Value} (h : NdT W kids A c ys) (hb : Below W.heap.size W W') : NdT W' kids A c ys :=
  ⟨h.1, h.2.1.keep hb.size fun x _ hl => ⟨hb.block x hl, trivial⟩, h.2.2.keep hb.size (fun x _ hl => ⟨hb.block x hl, trivial⟩) _⟩
theorem NdT.of {W W' : World} {S : Nat → Prop} {kids : Fo} {A : Option Addr} {c : Nat} {ys : List Value} (hc : kids.len ≤ c) (hr : readsAt W S A kids.len ys) (hk : rowOf W S kids ys) (hb : Below W.heap.size W W') : NdT W' kids A c ys :=
  ⟨hc, hr.keep hb.size fun x _ hl => ⟨hb.block x hl, trivial⟩, hk.keep hb.size (fun x _ hl => ⟨hb.block x hl, trivial⟩) _⟩
theorem NdT.pw {W X : World} {kids : Fo} {A : Option Addr} {c : Nat} {ys : List Value} (h : NdT W kids A c ys) (hp : PW W X) : NdT X kids A c ys := h.below hp
theorem PWtrans {a b c : World} (h : PW a b) (k : PW b c) : PW a c := Below.trans h (k.mono h.size)

theorem rt_text {k o : Int} {t : List UInt8} {kids : Fo} (hv : vF (.one k t kids o)) (hd : dep (.one k t kids o) ≤ 40) (hl : (fmt1 k t (fmtF false kids)).length ≤ 65000) :
    ∃ g1 o1 q, sameF kids g1 ∧ parseR (fmt1 k t (fmtF false kids)) = .ok (.one k t g1 o1) q := by
  obtain ⟨g, hg, ht⟩ := fmt_txt (.one k t kids o) 0 false hv
  have hdg := sameF_dep _ _ hg
  have ex : fmtF false (.one k t kids o) = fmt1 k t (fmtF false kids) := by simp [Fo.one, fmtF]
  rw [ex] at ht
  have e : parseR (fmt1 k t (fmtF false kids)) = elems ((fmt1 k t (fmtF false kids)).length + 1) 0 0 (fmt1 k t (fmtF false kids)) := by rw [parseR, if_neg (by omega)]
  have := elems_txt g 0 false _ [] 0 ((fmt1 k t (fmtF false kids)).length + 1) ht (.inl ⟨rfl, rfl, .inl rfl⟩) (by omega) (by rw [List.append_nil]; omega)
  rw [List.append_nil] at this
  cases g with
  | nil => exact hg.elim
  | cons k' t' g1 o1 rest =>
    obtain ⟨rfl, rfl, h1, h2⟩ := hg
    cases rest with
    | cons => exact h2.elim
    | nil => exact ⟨g1, o1, _, h1, e.trans this⟩

theorem text_len {W T : List (List UInt8)} (hW : ∀ u ∈ W, okW u = true) (hT : ∀ u ∈ T, okS u = true) {k o : Int} {t : List UInt8} {kids : Fo} (h : okF W T false 4 (.one k t kids o)) : (fmt1 k t (fmtF false kids)).length ≤ 13311 := by
  have h1 := len_of_ok hW hT _ 4 false h
  have h4 := fmtF_cons_len false k t kids o .nil
  simp only [Fo.one, Fo.len, Nat.zero_add, Nat.one_mul, lenB] at h1 h4
  omega

set_option maxHeartbeats 8000000 in
set_option maxRecDepth 100000 in
theorem roundTrip_walk (a0 : Option Addr) (len0 cap0 : Nat) (z0 : List Int) (w : World)
    (hl0 : len0 ≤ maxLen) (hI0 : Ints w a0 len0 z0) (W T : List (List UInt8)) (hW : ∀ u ∈ W, okW u = true) (hT : ∀ u ∈ T, okS u = true)
    (gw ow cw gs ot cs : Nat) (tW : TabW w 2 16 W gw ow cw) (tT : TabW w 1 6 T gs ot cs) :
    Calls Tryd.prog 4 #[.slice a0 len0 cap0] w fun e w' => e = .returned (.bool true) ∧ Below w.heap.size w w' := by
  have HI0 := Lib.hid hI0
  have TW := Lib.hid tW
  have TT := Lib.hid tT
  have HW := Lib.hid hW
  have HT := Lib.hid hT
  clear hI0 hW hT tW tT
  go_enter Tryd.func4, Tryd.ntmps4
  go_wp2_with (fail)
  refine (new_any _ _ _ _).mono ?_
  rintro e1 w1 ⟨rfl, rfl⟩
  go_wp2_with (fail)
  refine (any_false 4 _ _ _ _ _ _ _ _ _ _ _ _ _ _ (gen_new (Below.refl _ _) hl0 HI0.out TW.out TT.out) (by decide)).mono ?_
  rintro e2 w2 ⟨k, o, t, kids, A, c, ys, rfl, hc, hr, hk, hok, hG, hgb⟩
  have hB2 : Below w.heap.size w w2 := below_gb_of ((Below.refl _ _).alloc (Nat.le_refl _) _) hgb (Nat.le_refl _)
  have hsz := kids_small hok
  have hln := text_len HW.out HT.out hok
  have hvd := Lib.hid (vF_of_ok HW.out HT.out _ 4 hok)
  clear hgb hG hok
  have hN5 := heap_alloc_new w2 (.cells #[.int .i64 k, .string ⟨t.toArray⟩, .slice A kids.len c, .int .i64 o] 39)
  have B5 : Below w2.heap.size w2 (w2.alloc (.cells #[.int .i64 k, .string ⟨t.toArray⟩, .slice A kids.len c, .int .i64 o] 39)) := (Below.refl _ _).alloc (Nat.le_refl _) _
  have hNd : NdT (w2.alloc (.cells #[.int .i64 k, .string ⟨t.toArray⟩, .slice A kids.len c, .int .i64 o] 39)) kids A c ys := NdT.of hc hr hk B5
  have HF := Lib.hid (And.intro hN5 (And.intro hNd (hB2.trans (B5.mono hB2.size))))
  clear hN5 B5 hNd hc hr hk hB2
  go_upto_region 2 with (fail)
  refine gen_wp _ (fun X => X.heap[w2.heap.size]? = some (.cells #[.int .i64 k, .string ⟨t.toArray⟩, .slice A kids.len c, .int .i64 o] 39 (0, 0)) ∧ NdT X kids A c ys ∧ Below w.heap.size w X) HF.out ?_
  rintro W5 ⟨hN5, hNd, hB5⟩
  obtain ⟨g5, hg5⟩ : ∃ g5, w2.heap.size = g5 := ⟨_, rfl⟩
  rw [hg5] at hN5 ⊢
  clear hg5 HF
  obtain ⟨d0, d1, d2, d3, y0, y1, y2, y3⟩ := row4 hN5
  have HN5 := Lib.hid hN5
  have HNd := Lib.hid hNd
  have HB5 := Lib.hid hB5
  clear hN5 hNd hB5
  obtain ⟨s, hs0, hs, hss⟩ : ∃ s : ByteArray, (⟨(fmt1 k t (fmtF false kids)).toArray⟩ : ByteArray) = s ∧ s.data.toList = fmt1 k t (fmtF false kids) ∧ s.size = (fmt1 k t (fmtF false kids)).length := ⟨_, rfl, rfl, by show (fmt1 k t (fmtF false kids)).toArray.size = _; simp⟩
  have hno : ∀ X, PW W5 X → Calls Tryd.prog 18 #[.agg #[.int .i64 k, .string ⟨t.toArray⟩, .slice A kids.len c, .int .i64 o]] X fun e u => ∃ A' c' ys', e = .returned (.agg #[.int .i64 k, .string ⟨t.toArray⟩, .slice A' kids.len c', .int .i64 o]) ∧ PW W5 u ∧ NdT u kids A' c' ys' := by
    intro X hX
    have hnd := HNd.out.pw hX
    refine (node_any _ k o t kids A c ys _ X (Nat.le_refl _) (by omega) hnd.1 hnd.2.1 hnd.2.2).mono ?_
    rintro e u ⟨A', c', ys', rfl, h1, h2, h3, h4⟩
    exact ⟨A', c', ys', rfl, Below.trans hX (h4.mono hX.size), h1, h2.keep (Nat.le_refl _) (fun x _ _ => ⟨rfl, trivial⟩), h3.keep (Nat.le_refl _) (fun x _ _ => ⟨rfl, trivial⟩) _⟩
  have hfm : ∀ X, PW W5 X → Calls Tryd.prog 19 #[.agg #[.int .i64 k, .string ⟨t.toArray⟩, .slice A kids.len c, .int .i64 o]] X fun e u => e = .returned (.string s) ∧ PW W5 u := by
    intro X hX
    have hnd := HNd.out.pw hX
    refine (format_any _ k o t kids A c ys _ X (Nat.le_refl _) (by omega) hnd.1 hnd.2.1 hnd.2.2 (by omega)).mono ?_
    rintro e u ⟨rfl, hb⟩
    exact ⟨by rw [hs0], Below.trans hX (hb.mono hX.size)⟩
  have HNo := Lib.hid hno
  have HFm := Lib.hid hfm
  have Hs := Lib.hid hs
  have Hs0 := Lib.hid hs0
  clear hno hfm hs hs0
  go_wp2_with (fail)
  refine (HNo.out _ (Below.refl _ _)).mono ?_
  rintro e3 w3 ⟨A', c', ys', rfl, hp3, hn3⟩
  have HP3 := Lib.hid hp3
  have HN3 := Lib.hid hn3
  clear hp3 hn3
  go_wp2_with (fail)
  refine (format_yes k o t kids A' c' ys' _ _ (by omega) HN3.out.2.1 HN3.out.2.2 hvd.out.1 (by have := hvd.out.2; omega) (by omega)).mono ?_
  rintro e4 w4 ⟨rfl, hb4⟩
  rw [Hs0.out]
  have HP4 := Lib.hid (show PW W5 w4 from Below.trans HP3.out (hb4.mono HP3.out.size))
  clear hb4
  go_wp2_with (fail)
  obtain ⟨g1, o1, q, hsm, hp⟩ := rt_text hvd.out.1 (by have := hvd.out.2; omega) (by omega)
  refine (parse_ok s _ _ q _ Hs.out (by unfold maxLen; omega) hp).mono ?_
  rintro e6 w6 ⟨A9, c9, ys9, rfl, hc9, hr9, hx9, hb9⟩
  have hz1 : fsize g1 ≤ 340 := by rw [← sameF_fsize _ _ hsm]; exact hsz
  have hl9 : (Fo.one k t g1 o1).len = 1 := rfl
  rw [hl9] at hc9 hr9 ⊢
  clear hl9 hp
  obtain ⟨A8, c8, ys8, zs8, rfl, hc8, hr8, hx8, _⟩ := hx9
  obtain ⟨g9, off9, rfl, _, hlt9, hcell9⟩ := hr9 (by decide)
  have r0 := hcell9 0 _ rfl
  have r1 := hcell9 1 _ rfl
  have r2 := hcell9 2 _ rfl
  have r3 := hcell9 3 _ rfl
  simp only [Nat.add_zero] at r0
  have hp6 : PW W5 w6 := Below.trans HP4.out (hb9.mono HP4.out.size)
  have hn8 : NdT w6 g1 A8 c8 ys8 := NdT.of hc8 hr8 hx8 (Below.refl _ _)
  have hF7 := heap_alloc_new w6 (.cells #[.int .i64 0, .int .i64 0] 25)
  have B7 : Below w6.heap.size w6 (w6.alloc (.cells #[.int .i64 0, .int .i64 0] 25)) := (Below.refl _ _).alloc (Nat.le_refl _) _
  have HQ := Lib.hid (And.intro hF7 (And.intro (PW.alloc hp6 (.cells #[.int .i64 0, .int .i64 0] 25)) (And.intro (hn8.below B7) (And.intro (B7.cell (p := ⟨g9, off9, none⟩) (by exact hlt9) |>.trans r0) (And.intro (B7.cell (p := ⟨g9, off9 + 1, none⟩) (by exact hlt9) |>.trans r1) (And.intro (B7.cell (p := ⟨g9, off9 + 2, none⟩) (by exact hlt9) |>.trans r2) (B7.cell (p := ⟨g9, off9 + 3, none⟩) (by exact hlt9) |>.trans r3)))))))
  clear hcell9 hr9 hr8 hx8 hF7 B7 hn8 hp6 hb9 r0 r1 r2 r3 hc8
  go_upto_region 4 with (fail)
  refine gen_wp _ (fun X => X.heap[w6.heap.size]? = some (.cells #[.int .i64 0, .int .i64 0] 25 (0, 0)) ∧ PW W5 X ∧ NdT X g1 A8 c8 ys8 ∧ X.cell? ⟨g9, off9, none⟩ = some (.int .i64 k) ∧ X.cell? ⟨g9, off9 + 1, none⟩ = some (.string ⟨t.toArray⟩) ∧ X.cell? ⟨g9, off9 + 2, none⟩ = some (.slice A8 g1.len c8) ∧ X.cell? ⟨g9, off9 + 3, none⟩ = some (.int .i64 o1)) HQ.out ?_
  rintro wc ⟨hF7, hpx, hn8, r0, r1, r2, r3⟩
  obtain ⟨g7, hg7⟩ : ∃ g7, w6.heap.size = g7 := ⟨_, rfl⟩
  rw [hg7] at hF7 ⊢
  clear hg7 HQ
  have hf7 := (row2 hF7).1
  have k2 := hpx.cell d0
  have k3 := hpx.cell d1
  have k4 := hpx.cell d2
  have k5 := hpx.cell d3
  have hEq : ∀ A' c' ys' X, PW wc X → NdT X kids A' c' ys' → Calls Tryd.prog 20 #[.agg #[.int .i64 k, .string ⟨t.toArray⟩, .slice A8 g1.len c8, .int .i64 o1], .agg #[.int .i64 k, .string ⟨t.toArray⟩, .slice A' kids.len c', .int .i64 o]] X fun e u => e = .returned (.bool true) ∧ PW wc u := by
    intro A' c' ys' X hX hnd
    have hnd8 := hn8.pw hX
    refine (equal_any _ k o1 k o t t g1 kids A8 A' c8 c' ys8 ys' _ _ X (Nat.le_refl _) (by omega) (by omega) hnd8.2.1 hnd8.2.2 hnd.2.1 hnd.2.2).mono ?_
    rintro e u ⟨rfl, hb⟩
    exact ⟨by rw [eqN_rest, eqF_same _ _ (sameF_symm _ _ hsm)], Below.trans hX (hb.mono hX.size)⟩
  have hNo2 : ∀ X, PW wc X → Calls Tryd.prog 18 #[.agg #[.int .i64 k, .string ⟨t.toArray⟩, .slice A kids.len c, .int .i64 o]] X fun e u => ∃ A' c' ys', e = .returned (.agg #[.int .i64 k, .string ⟨t.toArray⟩, .slice A' kids.len c', .int .i64 o]) ∧ PW wc u ∧ NdT u kids A' c' ys' := by
    intro X hX
    have hnd := HNd.out.pw (PWtrans hpx hX)
    refine (node_any _ k o t kids A c ys _ X (Nat.le_refl _) (by omega) hnd.1 hnd.2.1 hnd.2.2).mono ?_
    rintro e u ⟨A', c', ys', rfl, h1, h2, h3, h4⟩
    exact ⟨A', c', ys', rfl, Below.trans hX (h4.mono hX.size), h1, h2.keep (Nat.le_refl _) (fun x _ _ => ⟨rfl, trivial⟩), h3.keep (Nat.le_refl _) (fun x _ _ => ⟨rfl, trivial⟩) _⟩
  have hFm2 : ∀ X, PW wc X → Calls Tryd.prog 19 #[.agg #[.int .i64 k, .string ⟨t.toArray⟩, .slice A kids.len c, .int .i64 o]] X fun e u => e = .returned (.string s) ∧ PW wc u := by
    intro X hX
    have hnd := HNd.out.pw (PWtrans hpx hX)
    refine (format_any _ k o t kids A c ys _ X (Nat.le_refl _) (by omega) hnd.1 hnd.2.1 hnd.2.2 (by omega)).mono ?_
    rintro e u ⟨rfl, hb⟩
    exact ⟨by rw [Hs0.out], Below.trans hX (hb.mono hX.size)⟩
  have hCk : ∀ X, PW wc X → Calls Tryd.prog 14 #[] X fun e u => e = .returned (.bool true) ∧ PW wc u := fun X hX => (check_any X).mono fun e u ⟨h1, h2⟩ => ⟨h1, Below.trans hX (h2.mono hX.size)⟩
  have KS2 : ∀ X, PW wc X → X.cell? ⟨g7, 0, none⟩ = some (.int .i64 0) ∧ X.cell? ⟨g9, off9, none⟩ = some (.int .i64 k) ∧ X.cell? ⟨g9, off9 + 1, none⟩ = some (.string ⟨t.toArray⟩) ∧ X.cell? ⟨g9, off9 + 2, none⟩ = some (.slice A8 g1.len c8) ∧ X.cell? ⟨g9, off9 + 3, none⟩ = some (.int .i64 o1) ∧
      X.cell? ⟨g5, 0, none⟩ = some (.int .i64 k) ∧ X.cell? ⟨g5, 1, none⟩ = some (.string ⟨t.toArray⟩) ∧ X.cell? ⟨g5, 2, none⟩ = some (.slice A kids.len c) ∧ X.cell? ⟨g5, 3, none⟩ = some (.int .i64 o) :=
    fun X h => ⟨h.cell hf7, h.cell r0, h.cell r1, h.cell r2, h.cell r3, h.cell k2, h.cell k3, h.cell k4, h.cell k5⟩
  have HNo2 := Lib.hid hNo2
  have HFm2 := Lib.hid hFm2
  have HEq := Lib.hid hEq
  have HK2 := Lib.hid KS2
  have HCk := Lib.hid hCk
  have HZ := Lib.hid (HB5.out.trans (Below.mono hpx HB5.out.size))
  have HPe := Lib.hid (PW.drew wc)
  clear hNo2 hFm2 hEq KS2 hCk hsm hpx hn8 hF7 HNo HFm HN5 HNd HP3 HP4 HN3 d0 d1 d2 d3 y0 y1 y2 y3 hss
  go_region_held3 (fun w' => w'.cell? ⟨g7, 0, none⟩ = some (.int .i64 0) ∧ w'.cell? ⟨g9, off9, none⟩ = some (.int .i64 k) ∧ w'.cell? ⟨g9, off9 + 1, none⟩ = some (.string ⟨t.toArray⟩) ∧ w'.cell? ⟨g9, off9 + 2, none⟩ = some (.slice A8 g1.len c8) ∧ w'.cell? ⟨g9, off9 + 3, none⟩ = some (.int .i64 o1) ∧
      w'.cell? ⟨g5, 0, none⟩ = some (.int .i64 k) ∧ w'.cell? ⟨g5, 1, none⟩ = some (.string ⟨t.toArray⟩) ∧ w'.cell? ⟨g5, 2, none⟩ = some (.slice A kids.len c) ∧ w'.cell? ⟨g5, 3, none⟩ = some (.int .i64 o)) (go_keep)
    (first
      | (go_at_call 14; refine (HCk.out _ HPe.out).mono ?_; rintro e u ⟨rfl, hpu⟩; have HPu := Lib.hid hpu; obtain ⟨x0, x1, x2, x3, x4, x5, x6, x7, x8⟩ := HK2.out _ hpu; clear hpu)
      | (go_at_call 19; refine (HFm2.out _ HPu.out).mono ?_; rintro e u2 ⟨rfl, hpu⟩; have HPu2 := Lib.hid hpu; obtain ⟨x0, x1, x2, x3, x4, x5, x6, x7, x8⟩ := HK2.out _ hpu; clear hpu)
      | (go_at_call 18; refine (HNo2.out _ HPu2.out).mono ?_; rintro e v ⟨A2, c2, ys2, rfl, hpv, hndv⟩; have HPv := Lib.hid hpv; have HNv := Lib.hid hndv; obtain ⟨x0, x1, x2, x3, x4, x5, x6, x7, x8⟩ := HK2.out _ hpv; clear hpv hndv)
      | (go_at_call 20; refine (HEq.out _ _ _ _ HPv.out HNv.out).mono ?_; rintro e z ⟨rfl, hpz⟩; have HPz := Lib.hid hpz; obtain ⟨x0, x1, x2, x3, x4, x5, x6, x7, x8⟩ := HK2.out _ hpz; clear hpz))
  all_goals
    go_wp2_with (fail)
    go_ret
    exact ⟨rfl, HZ.out.trans (HPz.out.mono HZ.out.size)⟩
end Go.Proofs.YtpflfbfbjmoggaaDoor
