/- typeterm.collectFree: the walk. No condition but a bounded size. Library functions' contracts, laid from the shelf at this program's numbers. -/
import Derived.Test.YtpkiheenkpcebaaGreatDoorMaf
import Derived.Ground.Names2Prog
import Derived.Ground.SlgnProg
import Derived.Shelf.Sort.Plain
import Derived.Shelf.Slices.CompactI
import Derived.Shelf.Slices.Clone
import Derived.Shelf.Slices.In.SortNone
import Derived.Test.YtpkiheenkpcebaaGreatDoorProg
set_option linter.unusedVariables false
set_option linter.unusedSimpArgs false
namespace Go.Proofs.YtpkiheenkpcebaaGreatDoor
open Go.RowKit Sx

/-- the slice at A reads as f, in blocks below B -/
def KB (w : World) (B : Nat) (f : Fo) (A : Option Addr) (c : Nat) : Prop := f.len ≤ c ∧ ∃ ys, readsAt w (fun x => x < B) A f.len ys ∧ rowT w (fun x => x < B) f ys
theorem KB.kt {w : World} {B : Nat} {f : Fo} {A : Option Addr} {c : Nat} (h : KB w B f A c) : KT w f A c := by
  obtain ⟨hc, ys, h1, h2⟩ := h
  exact KT.of hc h1 h2
theorem KB.below {w w' : World} {B : Nat} {f : Fo} {A : Option Addr} {c : Nat} (h : KB w B f A c) (hb : Below B w w') : KB w' B f A c := by
  obtain ⟨hc, ys, h1, h2⟩ := h
  exact ⟨hc, ys, h1.keep hb.size fun x hx _ => ⟨hb.block x hx, hx⟩, h2.keep hb.size (fun x hx _ => ⟨hb.block x hx, hx⟩) _⟩
theorem KT.kb {w : World} {f : Fo} {A : Option Addr} {c : Nat} (h : KT w f A c) : KB w w.heap.size f A c := by
  obtain ⟨hc, ys, h1, h2⟩ := h
  have key : ∀ (f : Fo) (ys : List Value), rowT w (fun _ => True) f ys → rowT w (fun x => x < w.heap.size) f ys := by
    intro f
    induction f with
    | nil => intro ys h; exact h
    | cons k t kids o r ih1 ih2 =>
      intro ys h
      obtain ⟨A, c, zs, us, hx, hc, hr, hk1, hk2⟩ := h
      exact ⟨A, c, zs, us, hx, hc, fun hn => (by obtain ⟨g, off, a1, _, a3, a4⟩ := hr hn; exact ⟨g, off, a1, a3, a3, a4⟩), ih1 _ hk1, ih2 _ hk2⟩
  exact ⟨hc, ys, fun hn => (by obtain ⟨g, off, a1, _, a3, a4⟩ := h1 hn; exact ⟨g, off, a1, a3, a3, a4⟩), key f ys h2⟩
theorem KB.get {w wr : World} {B : Nat} {f : Fo} {A : Option Addr} {c i : Nat} {k o : Int} {t : List UInt8} {kids r : Fo} (h : KB w B f A c) (hs : Suf i (.cons k t kids o r) f) (hb : Below B w wr) :
    ∃ (g off : Nat) (A1 : Option Addr) (c1 : Nat), A = some ⟨g, off, none⟩ ∧ g < B ∧ wr.cell? ⟨g, off + i * 4, none⟩ = some (.int .i64 k) ∧ wr.cell? ⟨g, off + i * 4 + 1, none⟩ = some (.string ⟨t.toArray⟩) ∧
      wr.cell? ⟨g, off + i * 4 + 2, none⟩ = some (.int .i64 o) ∧ wr.cell? ⟨g, off + i * 4 + 3, none⟩ = some (.slice A1 kids.len c1) ∧ KB w B kids A1 c1 := by
  have hlt := hs.kid.2
  obtain ⟨pre, rfl, rfl⟩ := hs
  obtain ⟨hc, ys, h1, h2⟩ := h
  obtain ⟨A1, c1, ys1, u0, v0, rfl, hl, hc1, hr1, hk1⟩ := rowT.split pre _ h2
  obtain ⟨g, off, rfl, hgB, hg, hcell⟩ := h1 (by omega)
  have at_ : ∀ (j : Nat) (u : Value), (Value.int .i64 k :: .string ⟨t.toArray⟩ :: .int .i64 o :: .slice A1 kids.len c1 :: v0)[j]? = some u → wr.cell? ⟨g, off + pre.len * 4 + j, none⟩ = some u := by
    intro j u hu
    have := hcell (pre.len * 4 + j) u (by rw [List.getElem?_append_right (by omega), hl, Nat.add_sub_cancel_left]; exact hu)
    rw [← Nat.add_assoc] at this
    exact (hb.cell (p := ⟨g, off + pre.len * 4 + j, none⟩) (by exact hgB)).trans this
  exact ⟨g, off, A1, c1, rfl, hgB, at_ 0 _ rfl, at_ 1 _ rfl, at_ 2 _ rfl, at_ 3 _ rfl, hc1, ys1, hr1, hk1⟩

/-- what the loop holds of the set -/
structure FR (B b g0 : Nat) (v v' : Value) (l' : List Int) (w wr : World) : Prop where
  sa : SA B b v' l' wr
  kq : Kq b v v' w wr
  row : v'.ownBlock ≠ some g0

set_option maxHeartbeats 8000000 in
theorem collectFree_any (N : Nat) : ∀ (k o bd : Int) (t : List UInt8) (kids : Fo) (A : Option Addr) (c B b : Nat) (v : Value) (l : List Int) (w : World), fsize kids ≤ N → fsize kids ≤ 8796093022208 → KB w B kids A c → SA B b v l w → B ≤ w.heap.size → 0 ≤ bd → bd + fsize kids ≤ 1152921504606846976 →
    l.length + fsize kids + 1 ≤ 8796093022208 →
    Calls Tryz.prog 162 #[.agg #[.int .i64 k, .string ⟨t.toArray⟩, .int .i64 o, .slice A kids.len c], .int .i64 bd, .pointer (some ⟨b, 0, none⟩)] w fun e w' => ∃ v', e = .returned (.tuple #[]) ∧ SA B b v' (l ++ free1 k o kids bd) w' ∧ Kq b v v' w w' := by
  induction N using Nat.strongRecOn with
  | ind N ih =>
  intro k o bd t kids A c B b v l w hN hN2 hK hSA hBw hb0 hb1 hll
  have IH := Lib.hid ih
  have HK := Lib.hid hK
  clear ih hK
  have hlen := len_le_fsize kids
  obtain ⟨L, hL⟩ : ∃ L, kids.len = L := ⟨_, rfl⟩
  rw [hL] at hlen ⊢
  have HL := Lib.hid hL
  clear hL
  obtain ⟨w0, hw0⟩ : ∃ w0, w.alloc (.cells #[.int .i64 k, .string ⟨t.toArray⟩, .int .i64 o, .slice A L c] 34 (0, 0)) = w0 := ⟨_, rfl⟩
  have hX := heap_alloc_new w (.cells #[.int .i64 k, .string ⟨t.toArray⟩, .int .i64 o, .slice A L c] 34 (0, 0))
  have hB0 : BH w (w.alloc (.cells #[.int .i64 k, .string ⟨t.toArray⟩, .int .i64 o, .slice A L c] 34 (0, 0))) := (Below.refl _ _).alloc (Nat.le_refl _) _
  clear hw0 w0
  have HX := Lib.hid hX
  have HB0 := Lib.hid hB0
  have hbl := hSA.lt
  have hvg : v.ownBlock ≠ some w.heap.size := fun e => by have := (hSA.2.1.lt _ e).2; omega
  have HVG := Lib.hid hvg
  have HSA := Lib.hid hSA
  clear hX hB0 hvg hSA
  obtain ⟨b0, b1, b2, b3⟩ := box4 w (.int .i64 k) (.string ⟨t.toArray⟩) (.int .i64 o) (.slice A L c) 34
  -- up to the loop: the set holds the term itself, if it is a free variable
  have start : ∀ (V : Bool), freeB k o bd = V → ∃ l1, l1 = l ++ (if V then [wrap64 (o - bd)] else []) ∧ l1 ++ freeL k 0 bd kids = l ++ free1 k o kids bd := fun V hV => ⟨_, rfl, by rw [free1, hV, List.append_assoc]⟩
  have hF := fun (V : Bool) (hV : freeB k o bd = V) W => isFree_any k o bd t A L c W hV
  cases hfr : freeB k o bd
  all_goals
    obtain ⟨l1, hl1, hl2⟩ := start _ hfr
    have HF := Lib.hid (hF _ hfr)
    have Hl1 := Lib.hid hl1
    have Hl2 := Lib.hid hl2
    clear hF hfr hl1 hl2 start
  · go_enter Tryz.func162, Tryz.ntmps162
    go_wp2_with (fail)
    refine (HF.out _).mono ?_
    rintro e w1 ⟨rfl, hb⟩
    have hw1 : BH w w1 := BH.trans HB0.out hb
    have hFR : FR B b w.heap.size v v l1 w w1 := ⟨by rw [Hl1.out]; simpa using HSA.out.bh hw1, Kq.bh hw1, HVG.out⟩
    have hX1 := (Below.block hb w.heap.size (by simp)).trans HX.out
    have HFR := Lib.hid hFR
    have HX1 := Lib.hid hX1
    clear hw1 hb hFR hX1 b0 b1 b2 b3
    obtain ⟨b0, b1, b2, b3, _⟩ := row4 HX1.out
    go_wp2_with (fail)
    go_loopw [6, 7, 20] (fun _ _ iv wr => ∃ (i : Nat) (r : Fo) (v' : Value) (l' : List Int), iv = .int .i64 (i : Int) ∧ Suf i r kids ∧ FR B b w.heap.size v v' l' w wr ∧ l' ++ freeL k i bd r = l ++ free1 k o kids bd ∧
      wr.heap[w.heap.size]? = some (.cells #[.int .i64 k, .string ⟨t.toArray⟩, .int .i64 o, .slice A L c] 34 (0, 0)) ∧ l'.length + fsize r ≤ l.length + fsize kids + 1) (fun _ _ iv _ => L - (match iv with | .int _ n => n.toNat | _ => 0))
    case atStart => exact ⟨0, kids, _, l1, rfl, Suf.zero _, HFR.out, Hl2.out, HX1.out, by rw [Hl1.out]; simp <;> omega⟩
    case round =>
      obtain ⟨i, r, v', l', rfl, hsuf, hfr, hls, hbox, hll'⟩ := hrel
      have hlen' := hsuf.len
      rw [HL.out] at hlen'
      have HFr := Lib.hid hfr
      have HLs := Lib.hid hls
      have HBox := Lib.hid hbox
      clear b0 b1 b2 b3 hfr hls hbox
      obtain ⟨b0, b1, b2, b3, _⟩ := row4 HBox.out
      cases r with
      | nil =>
        simp only [Fo.len] at hlen'
        have hge : decide (i < L) = false := by rw [decide_eq_false_iff_not]; omega
        clear hlen' hsuf
        go_wp2_with (fail)
        go_end0
        have h := HLs.out
        simp only [freeL, List.append_nil] at h
        exact ⟨v', rfl, by rw [← h]; exact HFr.out.sa, HFr.out.kq⟩
      | cons k1 t1 kids1 o1 r1 =>
        have hBB : Below B w wr := HFr.out.kq.below HSA.out hBw
        obtain ⟨g, off, A1, c1, rfl, hgl, q0, q1, q2, q3, hk1⟩ := HK.out.get hsuf hBB
        obtain ⟨hkid, hil⟩ := hsuf.kid
        rw [HL.out] at hil
        have hge : decide ((i : Int) < (L : Int)) = true := by rw [decide_eq_true_eq]; omega
        have hiL : (i : Int) < (L : Int) := by omega
        have hi0 : (0 : Int) ≤ (i : Int) := by omega
        have hws := heap_lt HBox.out
        have hne : ¬ g = wr.heap.size := by omega
        have hne2 : ¬ w.heap.size = wr.heap.size := by omega
        have hbw := HFr.out.sa.lt
        have hgb : ¬ wr.heap.size = b := by omega
        have hwb : ¬ w.heap.size = b := by omega
        have hrw : v'.ownBlock ≠ some wr.heap.size := fun e => by have := (HFr.out.sa.2.1.lt _ e).2; omega
        obtain ⟨ab0, ab1⟩ := aroundB_bounds k bd i
        rw [freeL_cons] at HLs
        have HS := Lib.hid hsuf
        have hN5 := heap_alloc_new wr (.cells #[.int .i64 k1, .string ⟨t1.toArray⟩, .int .i64 o1, .slice A1 kids1.len c1] 34 (0, 0))
        have B5 : BH wr (wr.alloc (.cells #[.int .i64 k1, .string ⟨t1.toArray⟩, .int .i64 o1, .slice A1 kids1.len c1] 34 (0, 0))) := (Below.refl _ _).alloc (Nat.le_refl _) _
        have HQ := Lib.hid (And.intro hN5 B5)
        have HK1 := Lib.hid hk1
        have Hll := Lib.hid hll'
        have HBB := Lib.hid hBB
        have HRW := Lib.hid hrw
        clear hk1 hsuf B5 hN5 hlen' hll' hBB hrw
        go_upto_region 6 with (fail)
        refine gen_wp _ (fun X => X.heap[wr.heap.size]? = some (.cells #[.int .i64 k1, .string ⟨t1.toArray⟩, .int .i64 o1, .slice A1 kids1.len c1] 34 (0, 0)) ∧ BH wr X) HQ.out ?_
        rintro W5 ⟨hN5, hP5⟩
        obtain ⟨g5, hg5⟩ : ∃ g5, wr.heap.size = g5 := ⟨_, rfl⟩
        rw [hg5] at hN5 HRW hgb ⊢
        obtain ⟨d0, d1, d2, d3, _⟩ := row4 hN5
        have hbox5 := (Below.block hP5 w.heap.size hws).trans HBox.out
        obtain ⟨f0, f1, f2, f3, _⟩ := row4 hbox5
        have HP5 := Lib.hid hP5
        have HN5 := Lib.hid hN5
        have HBx5 := Lib.hid hbox5
        have hs5 := Below.size hP5
        clear hg5 HQ hN5 hP5 hbox5 b0 b1 b2 b3 q0 q1 q2 q3
        have hBA : ∀ X, BH W5 X → Calls Tryz.prog 127 #[.agg #[.int .i64 k, .string ⟨t.toArray⟩, .int .i64 o, .slice (some ⟨g, off, none⟩) L c], .int .i64 (i : Int), .int .i64 bd] X fun e u => e = .returned (.int .i64 (aroundB k i bd)) ∧ BH W5 u := fun X hX =>
          (around_any k o bd i t _ L c X hb0 (by omega)).mono fun e u h => ⟨h.1, BH.trans hX h.2⟩
        have hCF : ∀ X, BH W5 X → Calls Tryz.prog 162 #[.agg #[.int .i64 k1, .string ⟨t1.toArray⟩, .int .i64 o1, .slice A1 kids1.len c1], .int .i64 (aroundB k i bd), .pointer (some ⟨b, 0, none⟩)] X fun e u => e = .returned (.tuple #[]) ∧
            (∃ v'', SA B b v'' (l' ++ free1 k1 o1 kids1 (aroundB k i bd)) u ∧ Kq b v' v'' wr u) ∧ u.heap[g5]? = some (.cells #[.int .i64 k1, .string ⟨t1.toArray⟩, .int .i64 o1, .slice A1 kids1.len c1] 34 (0, 0)) ∧ u.heap[w.heap.size]? = some (.cells #[.int .i64 k, .string ⟨t.toArray⟩, .int .i64 o, .slice (some ⟨g, off, none⟩) L c] 34 (0, 0)) := fun X hX => by
          have hXr : BH wr X := BH.trans HP5.out hX
          have hll3 := Hll.out
          simp only [fsize] at hll3
          refine (IH.out (fsize kids1) (by omega) k1 o1 (aroundB k i bd) t1 kids1 A1 c1 B b v' l' X (Nat.le_refl _) (by omega) (HK1.out.below (HBB.out.trans (Below.mono hXr (by omega)))) (HFr.out.sa.bh hXr) (by have := Below.size hX; omega) (by omega) (by omega) (by omega)).mono ?_
          rintro e u ⟨v'', rfl, h1, h2⟩
          exact ⟨rfl, ⟨v'', h1, (Kq.bh hXr).trans h2⟩, Kq.keep (B := B) (l := l') h2 ((Below.block hX g5 (heap_lt HN5.out)).trans HN5.out) hgb HRW.out, Kq.keep (B := B) (l := l') h2 ((Below.block hX _ (heap_lt HBx5.out)).trans HBx5.out) hwb HFr.out.row⟩
        have KS : ∀ X, BH W5 X → X.cell? ⟨g5, 0, none⟩ = some (.int .i64 k1) ∧ X.cell? ⟨g5, 1, none⟩ = some (.string ⟨t1.toArray⟩) ∧ X.cell? ⟨g5, 2, none⟩ = some (.int .i64 o1) ∧ X.cell? ⟨g5, 3, none⟩ = some (.slice A1 kids1.len c1) ∧
            X.cell? ⟨w.heap.size, 0, none⟩ = some (.int .i64 k) ∧ X.cell? ⟨w.heap.size, 1, none⟩ = some (.string ⟨t.toArray⟩) ∧ X.cell? ⟨w.heap.size, 2, none⟩ = some (.int .i64 o) ∧ X.cell? ⟨w.heap.size, 3, none⟩ = some (.slice (some ⟨g, off, none⟩) L c) :=
          fun X h => ⟨h.cell d0, h.cell d1, h.cell d2, h.cell d3, h.cell f0, h.cell f1, h.cell f2, h.cell f3⟩
        have HBA := Lib.hid hBA
        have HCF := Lib.hid hCF
        have HKS := Lib.hid KS
        have HPe := Lib.hid (BH.drew W5)
        clear hBA hCF KS ab0 ab1 hs5 hgb hwb
        go_region_held3 (fun w' => w'.cell? ⟨g5, 0, none⟩ = some (.int .i64 k1) ∧ w'.cell? ⟨g5, 1, none⟩ = some (.string ⟨t1.toArray⟩) ∧ w'.cell? ⟨g5, 2, none⟩ = some (.int .i64 o1) ∧ w'.cell? ⟨g5, 3, none⟩ = some (.slice A1 kids1.len c1) ∧
            w'.cell? ⟨w.heap.size, 0, none⟩ = some (.int .i64 k) ∧ w'.cell? ⟨w.heap.size, 1, none⟩ = some (.string ⟨t.toArray⟩) ∧ w'.cell? ⟨w.heap.size, 2, none⟩ = some (.int .i64 o) ∧ w'.cell? ⟨w.heap.size, 3, none⟩ = some (.slice (some ⟨g, off, none⟩) L c)) (go_keep)
          (first
            | (go_at_call 162; refine (HCF.out _ HPu.out).mono ?_; rintro e u2 ⟨rfl, hsa, hz5, hzw⟩; have HSa := Lib.hid hsa; have HZw := Lib.hid hzw; obtain ⟨x0, x1, x2, x3, _⟩ := row4 hz5; obtain ⟨x4, x5, x6, x7, _⟩ := row4 hzw; clear hsa hz5 hzw)
            | (go_at_call 127; refine (HBA.out _ HPe.out).mono ?_; rintro e u ⟨rfl, hpu⟩; have HPu := Lib.hid hpu; obtain ⟨x0, x1, x2, x3, x4, x5, x6, x7⟩ := HKS.out _ hpu; clear hpu))
        all_goals
          go_wp2_with (fail)
          obtain ⟨v'', h1, h2⟩ := HSa.out
          refine ⟨⟨i + 1, r1, v'', _, rfl, HS.out.next, ⟨h1, HFr.out.kq.trans h2, ?_⟩, ?_, HZw.out, ?_⟩, by simp; omega⟩
          · rcases h2.own with e | ⟨gg, hgg, e⟩
            · rw [e]; exact HFr.out.row
            · rw [e]; intro e'; cases e'; omega
          · rw [List.append_assoc]; exact HLs.out
          · have hll3 := Hll.out
            have h5 := freeL_len kids1 k1 0 (aroundB k i bd)
            simp only [fsize] at hll3
            have h6 : (free1 k1 o1 kids1 (aroundB k i bd)).length ≤ fsize kids1 + 1 := by
              simp only [free1, List.length_append]
              split <;> simp <;> omega
            simp only [List.length_append]
            omega
  · go_enter Tryz.func162, Tryz.ntmps162
    go_wp2_with (fail)
    refine (HF.out _).mono ?_
    rintro e w1 ⟨rfl, hb⟩
    have hw1 : BH w w1 := BH.trans HB0.out hb
    have hX1 := (Below.block hb w.heap.size (by simp)).trans HX.out
    have hsz1 : w.heap.size < w1.heap.size := heap_lt hX1
    have HW1 := Lib.hid hw1
    have HX1' := Lib.hid hX1
    clear hw1 hb hX1 b0 b1 b2 b3
    obtain ⟨b0, b1, b2, b3, _⟩ := row4 HX1'.out
    go_wp2_with (fail)
    refine (add_any B b v l _ w1 (HSA.out.bh HW1.out) (by omega) (by omega)).mono ?_
    rintro e w2 ⟨v2, rfl, hsa2, hkq2⟩
    have hFR : FR B b w.heap.size v v2 l1 w w2 := ⟨by rw [Hl1.out]; exact hsa2, (Kq.bh HW1.out).trans hkq2, by
      rcases hkq2.own with e | ⟨gg, hgg, e⟩
      · rw [e]; exact HVG.out
      · rw [e]; intro e'; cases e'; omega⟩
    have hX2 := Kq.keep (B := B) (l := l) hkq2 HX1'.out (by omega) HVG.out
    have HFR := Lib.hid hFR
    have HX1 := Lib.hid hX2
    clear hsa2 hkq2 hFR hX2 b0 b1 b2 b3
    obtain ⟨b0, b1, b2, b3, _⟩ := row4 HX1.out
    go_wp2_with (fail)
    go_loopw [6, 7, 20] (fun _ _ iv wr => ∃ (i : Nat) (r : Fo) (v' : Value) (l' : List Int), iv = .int .i64 (i : Int) ∧ Suf i r kids ∧ FR B b w.heap.size v v' l' w wr ∧ l' ++ freeL k i bd r = l ++ free1 k o kids bd ∧
      wr.heap[w.heap.size]? = some (.cells #[.int .i64 k, .string ⟨t.toArray⟩, .int .i64 o, .slice A L c] 34 (0, 0)) ∧ l'.length + fsize r ≤ l.length + fsize kids + 1) (fun _ _ iv _ => L - (match iv with | .int _ n => n.toNat | _ => 0))
    case atStart => exact ⟨0, kids, _, l1, rfl, Suf.zero _, HFR.out, Hl2.out, HX1.out, by rw [Hl1.out]; simp <;> omega⟩
    case round =>
      obtain ⟨i, r, v', l', rfl, hsuf, hfr, hls, hbox, hll'⟩ := hrel
      have hlen' := hsuf.len
      rw [HL.out] at hlen'
      have HFr := Lib.hid hfr
      have HLs := Lib.hid hls
      have HBox := Lib.hid hbox
      clear b0 b1 b2 b3 hfr hls hbox
      obtain ⟨b0, b1, b2, b3, _⟩ := row4 HBox.out
      cases r with
      | nil =>
        simp only [Fo.len] at hlen'
        have hge : decide (i < L) = false := by rw [decide_eq_false_iff_not]; omega
        clear hlen' hsuf
        go_wp2_with (fail)
        go_end0
        have h := HLs.out
        simp only [freeL, List.append_nil] at h
        exact ⟨v', rfl, by rw [← h]; exact HFr.out.sa, HFr.out.kq⟩
      | cons k1 t1 kids1 o1 r1 =>
        have hBB : Below B w wr := HFr.out.kq.below HSA.out hBw
        obtain ⟨g, off, A1, c1, rfl, hgl, q0, q1, q2, q3, hk1⟩ := HK.out.get hsuf hBB
        obtain ⟨hkid, hil⟩ := hsuf.kid
        rw [HL.out] at hil
        have hge : decide ((i : Int) < (L : Int)) = true := by rw [decide_eq_true_eq]; omega
        have hiL : (i : Int) < (L : Int) := by omega
        have hi0 : (0 : Int) ≤ (i : Int) := by omega
        have hws := heap_lt HBox.out
        have hne : ¬ g = wr.heap.size := by omega
        have hne2 : ¬ w.heap.size = wr.heap.size := by omega
        have hbw := HFr.out.sa.lt
        have hgb : ¬ wr.heap.size = b := by omega
        have hwb : ¬ w.heap.size = b := by omega
        have hrw : v'.ownBlock ≠ some wr.heap.size := fun e => by have := (HFr.out.sa.2.1.lt _ e).2; omega
        obtain ⟨ab0, ab1⟩ := aroundB_bounds k bd i
        rw [freeL_cons] at HLs
        have HS := Lib.hid hsuf
        have hN5 := heap_alloc_new wr (.cells #[.int .i64 k1, .string ⟨t1.toArray⟩, .int .i64 o1, .slice A1 kids1.len c1] 34 (0, 0))
        have B5 : BH wr (wr.alloc (.cells #[.int .i64 k1, .string ⟨t1.toArray⟩, .int .i64 o1, .slice A1 kids1.len c1] 34 (0, 0))) := (Below.refl _ _).alloc (Nat.le_refl _) _
        have HQ := Lib.hid (And.intro hN5 B5)
        have HK1 := Lib.hid hk1
        have Hll := Lib.hid hll'
        have HBB := Lib.hid hBB
        have HRW := Lib.hid hrw
        clear hk1 hsuf B5 hN5 hlen' hll' hBB hrw
        go_upto_region 6 with (fail)
        refine gen_wp _ (fun X => X.heap[wr.heap.size]? = some (.cells #[.int .i64 k1, .string ⟨t1.toArray⟩, .int .i64 o1, .slice A1 kids1.len c1] 34 (0, 0)) ∧ BH wr X) HQ.out ?_
        rintro W5 ⟨hN5, hP5⟩
        obtain ⟨g5, hg5⟩ : ∃ g5, wr.heap.size = g5 := ⟨_, rfl⟩
        rw [hg5] at hN5 HRW hgb ⊢
        obtain ⟨d0, d1, d2, d3, _⟩ := row4 hN5
        have hbox5 := (Below.block hP5 w.heap.size hws).trans HBox.out
        obtain ⟨f0, f1, f2, f3, _⟩ := row4 hbox5
        have HP5 := Lib.hid hP5
        have HN5 := Lib.hid hN5
        have HBx5 := Lib.hid hbox5
        have hs5 := Below.size hP5
        clear hg5 HQ hN5 hP5 hbox5 b0 b1 b2 b3 q0 q1 q2 q3
        have hBA : ∀ X, BH W5 X → Calls Tryz.prog 127 #[.agg #[.int .i64 k, .string ⟨t.toArray⟩, .int .i64 o, .slice (some ⟨g, off, none⟩) L c], .int .i64 (i : Int), .int .i64 bd] X fun e u => e = .returned (.int .i64 (aroundB k i bd)) ∧ BH W5 u := fun X hX =>
          (around_any k o bd i t _ L c X hb0 (by omega)).mono fun e u h => ⟨h.1, BH.trans hX h.2⟩
        have hCF : ∀ X, BH W5 X → Calls Tryz.prog 162 #[.agg #[.int .i64 k1, .string ⟨t1.toArray⟩, .int .i64 o1, .slice A1 kids1.len c1], .int .i64 (aroundB k i bd), .pointer (some ⟨b, 0, none⟩)] X fun e u => e = .returned (.tuple #[]) ∧
            (∃ v'', SA B b v'' (l' ++ free1 k1 o1 kids1 (aroundB k i bd)) u ∧ Kq b v' v'' wr u) ∧ u.heap[g5]? = some (.cells #[.int .i64 k1, .string ⟨t1.toArray⟩, .int .i64 o1, .slice A1 kids1.len c1] 34 (0, 0)) ∧ u.heap[w.heap.size]? = some (.cells #[.int .i64 k, .string ⟨t.toArray⟩, .int .i64 o, .slice (some ⟨g, off, none⟩) L c] 34 (0, 0)) := fun X hX => by
          have hXr : BH wr X := BH.trans HP5.out hX
          have hll3 := Hll.out
          simp only [fsize] at hll3
          refine (IH.out (fsize kids1) (by omega) k1 o1 (aroundB k i bd) t1 kids1 A1 c1 B b v' l' X (Nat.le_refl _) (by omega) (HK1.out.below (HBB.out.trans (Below.mono hXr (by omega)))) (HFr.out.sa.bh hXr) (by have := Below.size hX; omega) (by omega) (by omega) (by omega)).mono ?_
          rintro e u ⟨v'', rfl, h1, h2⟩
          exact ⟨rfl, ⟨v'', h1, (Kq.bh hXr).trans h2⟩, Kq.keep (B := B) (l := l') h2 ((Below.block hX g5 (heap_lt HN5.out)).trans HN5.out) hgb HRW.out, Kq.keep (B := B) (l := l') h2 ((Below.block hX _ (heap_lt HBx5.out)).trans HBx5.out) hwb HFr.out.row⟩
        have KS : ∀ X, BH W5 X → X.cell? ⟨g5, 0, none⟩ = some (.int .i64 k1) ∧ X.cell? ⟨g5, 1, none⟩ = some (.string ⟨t1.toArray⟩) ∧ X.cell? ⟨g5, 2, none⟩ = some (.int .i64 o1) ∧ X.cell? ⟨g5, 3, none⟩ = some (.slice A1 kids1.len c1) ∧
            X.cell? ⟨w.heap.size, 0, none⟩ = some (.int .i64 k) ∧ X.cell? ⟨w.heap.size, 1, none⟩ = some (.string ⟨t.toArray⟩) ∧ X.cell? ⟨w.heap.size, 2, none⟩ = some (.int .i64 o) ∧ X.cell? ⟨w.heap.size, 3, none⟩ = some (.slice (some ⟨g, off, none⟩) L c) :=
          fun X h => ⟨h.cell d0, h.cell d1, h.cell d2, h.cell d3, h.cell f0, h.cell f1, h.cell f2, h.cell f3⟩
        have HBA := Lib.hid hBA
        have HCF := Lib.hid hCF
        have HKS := Lib.hid KS
        have HPe := Lib.hid (BH.drew W5)
        clear hBA hCF KS ab0 ab1 hs5 hgb hwb
        go_region_held3 (fun w' => w'.cell? ⟨g5, 0, none⟩ = some (.int .i64 k1) ∧ w'.cell? ⟨g5, 1, none⟩ = some (.string ⟨t1.toArray⟩) ∧ w'.cell? ⟨g5, 2, none⟩ = some (.int .i64 o1) ∧ w'.cell? ⟨g5, 3, none⟩ = some (.slice A1 kids1.len c1) ∧
            w'.cell? ⟨w.heap.size, 0, none⟩ = some (.int .i64 k) ∧ w'.cell? ⟨w.heap.size, 1, none⟩ = some (.string ⟨t.toArray⟩) ∧ w'.cell? ⟨w.heap.size, 2, none⟩ = some (.int .i64 o) ∧ w'.cell? ⟨w.heap.size, 3, none⟩ = some (.slice (some ⟨g, off, none⟩) L c)) (go_keep)
          (first
            | (go_at_call 162; refine (HCF.out _ HPu.out).mono ?_; rintro e u2 ⟨rfl, hsa, hz5, hzw⟩; have HSa := Lib.hid hsa; have HZw := Lib.hid hzw; obtain ⟨x0, x1, x2, x3, _⟩ := row4 hz5; obtain ⟨x4, x5, x6, x7, _⟩ := row4 hzw; clear hsa hz5 hzw)
            | (go_at_call 127; refine (HBA.out _ HPe.out).mono ?_; rintro e u ⟨rfl, hpu⟩; have HPu := Lib.hid hpu; obtain ⟨x0, x1, x2, x3, x4, x5, x6, x7⟩ := HKS.out _ hpu; clear hpu))
        all_goals
          go_wp2_with (fail)
          obtain ⟨v'', h1, h2⟩ := HSa.out
          refine ⟨⟨i + 1, r1, v'', _, rfl, HS.out.next, ⟨h1, HFr.out.kq.trans h2, ?_⟩, ?_, HZw.out, ?_⟩, by simp; omega⟩
          · rcases h2.own with e | ⟨gg, hgg, e⟩
            · rw [e]; exact HFr.out.row
            · rw [e]; intro e'; cases e'; omega
          · rw [List.append_assoc]; exact HLs.out
          · have hll3 := Hll.out
            have h5 := freeL_len kids1 k1 0 (aroundB k i bd)
            simp only [fsize] at hll3
            have h6 : (free1 k1 o1 kids1 (aroundB k i bd)).length ≤ fsize kids1 + 1 := by
              simp only [free1, List.length_append]
              split <;> simp <;> omega
            simp only [List.length_append]
            omega
end Go.Proofs.YtpkiheenkpcebaaGreatDoor
namespace Go.Proofs
open Go.Shelf Go.RowKit Go.Lib Go.Sort
def Tryz.lays189_ren : Go.Shelf.Ren := ⟨fun | 189 => 187 | 125 => 115 | 257 => 197 | 128 => 149 | 129 => 150 | 294 => 200 | 295 => 201 | 296 => 202 | 297 => 203 | 298 => 204 | 299 => 205 | 216 => 206 | 300 => 207 | 301 => 208 | 328 => 209 | 329 => 170 | 330 => 171 | 331 => 210 | 332 => 211 | 215 => 164 | 343 => 212 | n => n, fun | 28 => 42 | 3 => 3 | 46 => 142 | 0 => 0 | 51 => 166 | 53 => 132 | 4 => 4 | 183 => 159 | 182 => 158 | 131 => 163 | 5 => 5 | 9 => 9 | 218 => 180 | 222 => 184 | 228 => 195 | 229 => 196 | n => n, fun | n => n⟩
theorem Tryz.lays189 : Go.Proofs.Lays.n189 Tryz.prog Tryz.lays189_ren := {
  mixed := by kernel_rfl
  f125 := Tryz.func115.trans (congrArg some (by kernel_rfl))
  f128 := Tryz.func149.trans (congrArg some (by kernel_rfl))
  f129 := Tryz.func150.trans (congrArg some (by kernel_rfl))
  f189 := Tryz.func187.trans (congrArg some (by kernel_rfl))
  f215 := Tryz.func164.trans (congrArg some (by kernel_rfl))
  f216 := Tryz.func206.trans (congrArg some (by kernel_rfl))
  f257 := Tryz.func197.trans (congrArg some (by kernel_rfl))
  f294 := Tryz.func200.trans (congrArg some (by kernel_rfl))
  f295 := Tryz.func201.trans (congrArg some (by kernel_rfl))
  f296 := Tryz.func202.trans (congrArg some (by kernel_rfl))
  f297 := Tryz.func203.trans (congrArg some (by kernel_rfl))
  f298 := Tryz.func204.trans (congrArg some (by kernel_rfl))
  f299 := Tryz.func205.trans (congrArg some (by kernel_rfl))
  f300 := Tryz.func207.trans (congrArg some (by kernel_rfl))
  f301 := Tryz.func208.trans (congrArg some (by kernel_rfl))
  f328 := Tryz.func209.trans (congrArg some (by kernel_rfl))
  f329 := Tryz.func170.trans (congrArg some (by kernel_rfl))
  f330 := Tryz.func171.trans (congrArg some (by kernel_rfl))
  f331 := Tryz.func210.trans (congrArg some (by kernel_rfl))
  f332 := Tryz.func211.trans (congrArg some (by kernel_rfl))
  f343 := Tryz.func212.trans (congrArg some (by kernel_rfl))
  t0 := Tryz.underlying0
  a0 := Tryz.isAgg0
  z0 := Tryz.sizeOf0
  v0 := Tryz.zeroValue0
  t3 := Tryz.underlying3
  a3 := Tryz.isAgg3
  z3 := Tryz.sizeOf3
  v3 := Tryz.zeroValue3
  t4 := Tryz.underlying4
  a4 := Tryz.isAgg4
  z4 := Tryz.sizeOf4
  v4 := Tryz.zeroValue4
  t5 := Tryz.underlying5
  a5 := Tryz.isAgg5
  z5 := Tryz.sizeOf5
  v5 := Tryz.zeroValue5
  t9 := Tryz.underlying9
  a9 := Tryz.isAgg9
  z9 := Tryz.sizeOf9
  v9 := Tryz.zeroValue9
  t28 := Tryz.underlying42
  a28 := Tryz.isAgg42
  z28 := Tryz.sizeOf42
  v28 := Tryz.zeroValue42
  t46 := Tryz.underlying142
  a46 := Tryz.isAgg142
  z46 := Tryz.sizeOf142
  v46 := Tryz.zeroValue142
  t51 := Tryz.underlying166
  a51 := Tryz.isAgg166
  z51 := Tryz.sizeOf166
  v51 := Tryz.zeroValue166
  t53 := Tryz.underlying132
  a53 := Tryz.isAgg132
  z53 := Tryz.sizeOf132
  v53 := Tryz.zeroValue132
  t131 := Tryz.underlying163
  a131 := Tryz.isAgg163
  z131 := Tryz.sizeOf163
  v131 := Tryz.zeroValue163
  t182 := Tryz.underlying158
  a182 := Tryz.isAgg158
  z182 := Tryz.sizeOf158
  v182 := Tryz.zeroValue158
  t183 := Tryz.underlying159
  a183 := Tryz.isAgg159
  z183 := Tryz.sizeOf159
  v183 := Tryz.zeroValue159
  t218 := Tryz.underlying180
  a218 := Tryz.isAgg180
  z218 := Tryz.sizeOf180
  v218 := Tryz.zeroValue180
  t222 := Tryz.underlying184
  a222 := Tryz.isAgg184
  z222 := Tryz.sizeOf184
  v222 := Tryz.zeroValue184
  t228 := Tryz.underlying195
  a228 := Tryz.isAgg195
  z228 := Tryz.sizeOf195
  v228 := Tryz.zeroValue195
  t229 := Tryz.underlying196
  a229 := Tryz.isAgg196
  z229 := Tryz.sizeOf196
  v229 := Tryz.zeroValue196 }
open Go.Sort Go.RowKit in
theorem Tryz.slices_Sort_int (blk off cap : Nat) (zs : List Int) (w : World) (hH : Holds (Value.int .i64) w blk off zs.toArray) (hblk : blk < w.heap.size) (hsz : zs.length < 4611686018427387904) :
    Calls Tryz.prog 187 #[.slice (some ⟨blk, off, none⟩) zs.length cap] w fun e w' =>
      e = .returned (.tuple #[]) ∧ ∃ n os, w' = grow (putRow (Value.int .i64) (Sort.ahead w n) blk off (zs.mergeSort fun x y => decide (x ≤ y)).toArray) os := Any.slices_Sort_int Tryz.lays189 blk off cap zs w hH hblk hsz
def Tryz.laysNm215_ren : Go.Shelf.Ren := ⟨fun | 15 => 189 | n => n, fun | 22 => 42 | 3 => 3 | 4 => 4 | n => n, fun | n => n⟩
theorem Tryz.laysNm215 : Go.Proofs.Lays2.n15 Tryz.prog Tryz.laysNm215_ren := {
  mixed := by kernel_rfl
  f15 := Tryz.func189.trans (congrArg some (by kernel_rfl))
  t3 := Tryz.underlying3
  a3 := Tryz.isAgg3
  z3 := Tryz.sizeOf3
  v3 := Tryz.zeroValue3
  t4 := Tryz.underlying4
  a4 := Tryz.isAgg4
  z4 := Tryz.sizeOf4
  v4 := Tryz.zeroValue4
  t22 := Tryz.underlying42
  a22 := Tryz.isAgg42
  z22 := Tryz.sizeOf42
  v22 := Tryz.zeroValue42
  i3 := by kernel_rfl }
open Go.RowKit Go.Lib in
theorem Tryz.slices_Clone_int (b off n c : Nat) (zs : List Int) (w : World) (hz : n ≤ zs.length) (hbig : n * 8 ≤ 140737488355328) (hc : ∀ j, j < zs.length → w.cell? ⟨b, off + j, none⟩ = some (.int .i64 (zs.getD j 0))) :
    Calls Tryz.prog 189 #[.slice (some ⟨b, off, none⟩) n c] w fun e w' => ∃ v', e = .returned v' ∧ w'.ownsRow w.heap.size 3 1 v' n ((zs.take n).map (Value.int .i64)) ∧ v' ≠ .slice none 0 0 ∧ Below w.heap.size w w' := Any.slices_Clone_int Tryz.laysNm215 b off n c zs w hz hbig hc
open Go.RowKit Go.Lib in
theorem Tryz.slices_Clone_int_nil (n c : Nat) (w : World) :
    Calls Tryz.prog 189 #[.slice none n c] w fun e w' => e = .returned (.slice none 0 0) ∧ w' = w := Any.slices_Clone_int_nil Tryz.laysNm215 n c w
def Tryz.laysNm220_ren : Go.Shelf.Ren := ⟨fun | 20 => 188 | n => n, fun | 22 => 42 | 3 => 3 | 4 => 4 | 0 => 0 | n => n, fun | n => n⟩
theorem Tryz.laysNm220 : Go.Proofs.Lays2.n20 Tryz.prog Tryz.laysNm220_ren := {
  mixed := by kernel_rfl
  f20 := Tryz.func188.trans (congrArg some (by kernel_rfl))
  t0 := Tryz.underlying0
  a0 := Tryz.isAgg0
  z0 := Tryz.sizeOf0
  v0 := Tryz.zeroValue0
  t3 := Tryz.underlying3
  a3 := Tryz.isAgg3
  z3 := Tryz.sizeOf3
  v3 := Tryz.zeroValue3
  t4 := Tryz.underlying4
  a4 := Tryz.isAgg4
  z4 := Tryz.sizeOf4
  v4 := Tryz.zeroValue4
  t22 := Tryz.underlying42
  a22 := Tryz.isAgg42
  z22 := Tryz.sizeOf42
  v22 := Tryz.zeroValue42
  i3 := by kernel_rfl }
open Go.RowKit Go.Lib Go.Sort in
theorem Tryz.slices_Compact_int (blk off cap : Nat) (zs : List Int) (w : World) (hH : Holds (Value.int .i64) w blk off zs.toArray) (hsz : zs.length ≤ 9223372036854775807) (hcap : zs.length ≤ cap) :
    Calls Tryz.prog 188 #[.slice (some ⟨blk, off, none⟩) zs.length cap] w fun e w' => e = .returned (.slice (some ⟨blk, off, none⟩) (Lib.compact zs).length cap) ∧ ∃ q, w' = putRow (Value.int .i64) (Sort.ahead w q) blk off (Lib.compact zs ++ List.replicate (zs.length - (Lib.compact zs).length) 0).toArray := Any.slices_Compact_int Tryz.laysNm220 blk off cap zs w hH hsz hcap
open Go.RowKit Go.Lib Go.Sort in
theorem Tryz.slices_Compact_int_empty (a : Option Addr) (cap : Nat) (w : World) :
    Calls Tryz.prog 188 #[.slice a 0 cap] w fun e w' => e = .returned (.slice a 0 cap) ∧ w' = w := Any.slices_Compact_int_empty Tryz.laysNm220 a cap w
theorem Tryz.slices_Sort_int_none (p : Option Addr) (cap : Nat) (w : World) :
    Calls Tryz.prog 187 #[.slice p 0 cap] w fun e w' => e = .returned (.tuple #[]) ∧ w' = w := Any.slices_Sort_int_none Tryz.lays189 p cap w
end Go.Proofs
