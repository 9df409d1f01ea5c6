/- telmake.named: the walk. No condition but what it reads. -/
import Derived.Test.YtddfpbcdopcdhaaDoorGd
import Derived.Test.YtddfpbcdopcdhaaDoorS4
import Derived.Deep.CutBlock
set_option linter.unusedVariables false
set_option linter.unusedSimpArgs false
namespace Go.Proofs.YtddfpbcdopcdhaaDoor
open Go.RowKit Sx

/-- a term that lies elsewhere is answered through the result's box -/
theorem GP.box {E : EG} {V : Int} {k k' : Nat} {w wr : World} {q o : Int} {t : List UInt8} {kids : Fo} {A : Option Addr} {c : Nat} {ys : List Value} {k0 : Nat} (h0 : GenD w E k0) (hG : GenD wr E k') (hgb : w.grownBy wr (some E.b)) (hc : kids.len ≤ c)
    (hr : readsAt wr (fun x => w.heap.size < x) A kids.len ys) (hk : rowT wr (fun x => w.heap.size < x) kids ys) (hkk : k ≤ k') (hf : fsize kids ≤ 4 * (k' - k)) (hl : lenG (.one q t kids o)) (hcl : closed1 q o kids V = true) :
    GP E V k w (.returned (.agg #[.int .i64 q, .string ⟨t.toArray⟩, .int .i64 o, .slice A kids.len c])) ((((wr.setCell ⟨w.heap.size, 0, none⟩ (.int .i64 q)).setCell ⟨w.heap.size, 1, none⟩ (.string ⟨t.toArray⟩)).setCell ⟨w.heap.size, 2, none⟩ (.int .i64 o)).setCell ⟨w.heap.size, 3, none⟩ (.slice A kids.len c)) := by
  have hb := h0.lt
  have hS : wr.heap.size ≤ ((((wr.setCell ⟨w.heap.size, 0, none⟩ (.int .i64 q)).setCell ⟨w.heap.size, 1, none⟩ (.string ⟨t.toArray⟩)).setCell ⟨w.heap.size, 2, none⟩ (.int .i64 o)).setCell ⟨w.heap.size, 3, none⟩ (.slice A kids.len c)).heap.size := by simp [size_set]
  have hkeep : ∀ x, w.heap.size < x → x < wr.heap.size → ((((wr.setCell ⟨w.heap.size, 0, none⟩ (.int .i64 q)).setCell ⟨w.heap.size, 1, none⟩ (.string ⟨t.toArray⟩)).setCell ⟨w.heap.size, 2, none⟩ (.int .i64 o)).setCell ⟨w.heap.size, 3, none⟩ (.slice A kids.len c)).heap[x]? = wr.heap[x]? ∧ w.heap.size ≤ x :=
    fun x hx _ => ⟨s4_far (by omega) _ _ _ _, by omega⟩
  exact ⟨k', q, o, t, kids, A, c, ys, rfl, hc, hr.keep hS hkeep, hk.keep hS hkeep _, hkk, hf, hl, hcl, h0.old hG hS (fun x hx => s4_far (by omega) _ _ _ _), s4_gb hgb (Nat.le_refl _) _ _ _ _⟩
theorem RD.out {w w3 wr : World} {E : EG} {kq gM k : Nat} {V q o : Int} {t : List UInt8} {acc : Fo} {xs : List Value} {A5 : Option Addr} {c5 : Nat} (h : RD w w3 wr E kq gM q o t (.slice A5 acc.len c5) acc xs) (hN : w.heap.size < w3.heap.size) (hkk : k ≤ kq) (hf : fsize acc ≤ 4 * (kq - k)) (hl : lenG (.one q t acc o)) (hcl : closed1 q o acc V = true) :
    GP E V k w (.returned (.agg #[.int .i64 q, .string ⟨t.toArray⟩, .int .i64 o, .slice A5 acc.len c5])) ((((wr.setCell ⟨w.heap.size, 0, none⟩ (.int .i64 q)).setCell ⟨w.heap.size, 1, none⟩ (.string ⟨t.toArray⟩)).setCell ⟨w.heap.size, 2, none⟩ (.int .i64 o)).setCell ⟨w.heap.size, 3, none⟩ (.slice A5 acc.len c5)) := by
  obtain ⟨k0, h0⟩ := h.gen0
  have hsl := own_sliceT h.own h.row (fun x hx => hx.1)
  obtain ⟨A, c, ys, hv, hc, hr, ho⟩ := hsl
  simp only [Value.slice.injEq, true_and] at hv
  obtain ⟨rfl, rfl⟩ := hv
  exact GP.box h0 h.gen h.gb hc (hr.keep (Nat.le_refl _) fun x hx _ => ⟨rfl, by omega⟩) (ho.keep (Nat.le_refl _) (fun x hx _ => ⟨rfl, by omega⟩) _) hkk hf hl hcl

/-- what arg, named, term are to answer where fewer than M integers are left -/
abbrev AD (E : EG) (d V : Int) : Array Value := #[.pointer (some ⟨E.b, 0, none⟩), .slice (some ⟨E.gd, E.od, none⟩) E.nd E.cd, .int .i64 d, .int .i64 V]
def CA (E : EG) (M : Nat) : Prop := ∀ (k : Nat) (d V : Int) (w : World), GenD w E k → E.len - k < M → 0 ≤ V → V ≤ 2000 → V + d ≤ 2000 → -1 ≤ d → d ≤ 1000 → Calls Tryd.prog 56 (AD E d V) w (GP E V k w)
def CNm (E : EG) (M : Nat) : Prop := ∀ (k : Nat) (d V : Int) (w : World), GenD w E k → E.len - k < M → 0 ≤ V → V ≤ 2000 → V + d ≤ 2000 → 0 ≤ d → d ≤ 1000 → Calls Tryd.prog 37 (AD E d V) w (GP E V k w)
def CT (E : EG) (M : Nat) : Prop := ∀ (k : Nat) (d V : Int) (w : World), GenD w E k → E.len - k < M → 0 ≤ V → V ≤ 2000 → V + d ≤ 2000 → 0 ≤ d → d ≤ 1000 → Calls Tryd.prog 19 (AD E d V) w (GP E V k w)

theorem cell_alloc {w w3 w4 : World} {E : EG} {kq gM : Nat} {q o : Int} {t : List UInt8} {v : Value} {acc : Fo} {xs : List Value} (h : RD w w3 w4 E kq gM q o t v acc xs) (ob : Obj) : (w4.alloc ob).cell? ⟨gM, 3, none⟩ = some v ∧ (w4.alloc ob).frozen? ⟨gM, 3, none⟩ = false := by
  have hM := h.hM
  have hs := h.size
  obtain ⟨_, _, _, b3, _, _, _, y3⟩ := row4 ((Below.heap_alloc w4 ob _ (by omega)).trans h.blkM)
  exact ⟨b3, y3⟩
theorem celB {X : World} {g n size : Nat} {e : TypeId} {cs : Array Value} (h : X.heap[g]? = some (.cells cs e (0, 0))) (hl : cs.size = n * size) (hm : n ≤ maxLen) : Cel X size (some ⟨g, 0, none⟩) n n cs.toList := by
  refine ⟨by simpa using hl, Nat.le_refl _, hm, (fun e => by cases e), fun _ => ⟨g, 0, rfl, heap_lt h, fun j u hu => ?_⟩⟩
  rw [Nat.zero_add, cell_of_row _ _ j _ _ _ h]
  simpa using hu
set_option maxHeartbeats 8000000 in
set_option maxRecDepth 100000 in
theorem named_step (E : EG) (M : Nat) (hA : CA E M) : CNm E (M + 1) := by
  intro k d V w hG hM hV0 hV1 hVd hd0 hd1
  have HA := Lib.hid hA
  obtain ⟨i0, hi, hz0, hz1, hz2⟩ := info_parts infoTg
  obtain ⟨hnd1, hnd2⟩ : E.nd ≤ 1000 ∧ E.ds.length = E.nd := ⟨hG.dec.nd, hG.dec.len⟩
  have hX := bh_alloc (BH.refl w) (.cells #[.int .i64 0, .string ⟨#[]⟩, .int .i64 0, .slice none 0 0] 25)
  have HG0 := Lib.hid hG
  have HG1 := Lib.hid (hG.below hX)
  have HN := Lib.hid (heap_alloc_new w (.cells #[.int .i64 0, .string ⟨#[]⟩, .int .i64 0, .slice none 0 0] 25))
  have hwnd : wrap64 ((E.nd : Int) + 4) = (E.nd : Int) + 4 := wrap64_in (by omega) (by omega)
  have HL := Lib.hid hnd2
  have HX := Lib.hid hX
  clear hA hG hX hwnd hnd2
  go_enter Tryd.func37, Tryd.ntmps37
  go_wp2_with (fail)
  refine (next_genD ((E.nd : Int) + 4) HG1.out (by omega) (by omega)).mono ?_
  rintro e1 w1 ⟨r, k1, rfl, hr, hg1, hgb, hsz, hk1⟩
  have HG1' := Lib.hid hg1
  have HGB := Lib.hid (gb_trans (gb_below HX.out (some E.b)) hgb)
  have HN1 := Lib.hid ((hgb.block w.heap.size (by simp) (by simp; have := HG0.out.lt; omega)).trans HN.out)
  have hs1 : w1.heap.size = w.heap.size + 1 := by rw [hsz]; simp
  clear hg1 hgb hsz
  by_cases hr4 : r < 4
  · have t1 : decide ((r : Int) < 4) = true := by rw [decide_eq_true_eq]; omega
    obtain ⟨sx, hsx, hcx⟩ := HG1'.out.leaf.row r hr4
    have hh := HG1'.out.leaf.head
    have hrL : (r : Int) < 4 := by omega
    have hr0 : (0 : Int) ≤ (r : Int) := by omega
    have Hsx := Lib.hid hsx
    clear hsx
    go_wp2_with (fail)
    refine (namedC _ _ _ _ _).mono ?_
    rintro e2 w2 ⟨rfl, hb2⟩
    have HG2 := Lib.hid (HG1'.out.below hb2)
    have HGB2 := Lib.hid (gb_trans HGB.out (gb_below hb2 _))
    have HN2 := Lib.hid ((Below.block hb2 _ (heap_lt HN1.out)).trans HN1.out)
    clear hb2 hcx hh
    obtain ⟨b0, b1, b2, b3, y0, y1, y2, y3⟩ := row4 HN2.out
    go_wp2_with (fail)
    obtain ⟨m0, m1, m2, m3, _⟩ := row4 (s4 HN2.out (.int .i64 2) (.string ⟨sx.toArray⟩) (.int .i64 0) (.slice none 0 0))
    refine bodyPost_ret (v := .agg #[.int .i64 2, .string ⟨sx.toArray⟩, .int .i64 0, .slice none 0 0]) (by simp [results, Tryd.results37, go_sem, m0, m1, m2, m3]) rfl ?_
    exact GP.box (kids := .nil) HG0.out HG2.out HGB2.out (Nat.le_refl _) (reads_nil _ _) rfl (by omega) (by simp [fsize]) ⟨⟨by have := HG2.out.short sx Hsx.out; omega, by first | exact bar_nil _ | exact bar_ne (by decide)⟩, trivial, trivial⟩ (closed1_kids (by decide) (by decide) rfl)
  · have t1 : decide ((r : Int) < 4) = false := by rw [decide_eq_false_iff_not]; omega
    obtain ⟨j, hj⟩ : ∃ j : Nat, (r : Int) - 4 = (j : Int) := ⟨r - 4, by omega⟩
    have hjn : j < E.ds.length := by rw [HL.out]; omega
    obtain ⟨⟨n, ar⟩, hna⟩ : ∃ x, E.ds[j]? = some x := ⟨_, List.getElem?_eq_getElem hjn⟩
    obtain ⟨⟨dk, dt, dod, dA, dm, dc, dcc, dA', dm', dc', q0, q1, q2, q3, q4, q5, q6, q7⟩, har, hnl⟩ := HG1'.out.dec.row j n ar hna
    have hjL : (j : Int) < (E.nd : Int) := by rw [HL.out] at hjn; omega
    have hj0 : (0 : Int) ≤ (j : Int) := by omega
    have HNa := Lib.hid hna
    have HNl := Lib.hid hnl
    clear hna hnl hjn
    go_wp2_with (fail)
    have hkl : k < E.len ∧ k1 = k + 1 := by
      rcases hk1 with h | ⟨_, _, h⟩
      · exact h
      · omega
    have hR0 : ∀ (D : Obj), RD w ((w1.alloc D).alloc (.cells #[.int .i64 2, .string ⟨n.toArray⟩, .int .i64 0, .slice none 0 0] 25)) ((w1.alloc D).alloc (.cells #[.int .i64 2, .string ⟨n.toArray⟩, .int .i64 0, .slice none 0 0] 25)) E k1 (w.heap.size + 1 + 1) 2 0 n (.slice none 0 0) .nil [] ∧
        ((w1.alloc D).alloc (.cells #[.int .i64 2, .string ⟨n.toArray⟩, .int .i64 0, .slice none 0 0] 25)).heap[w.heap.size + 1]? = some D ∧
        ((w1.alloc D).alloc (.cells #[.int .i64 2, .string ⟨n.toArray⟩, .int .i64 0, .slice none 0 0] 25)).heap[w.heap.size]? = some (.cells #[.int .i64 0, .string ⟨#[]⟩, .int .i64 0, .slice none 0 0] 25 (0, 0)) ∧
        ((w1.alloc D).alloc (.cells #[.int .i64 2, .string ⟨n.toArray⟩, .int .i64 0, .slice none 0 0] 25)).heap.size = w.heap.size + 3 := by
      intro D
      have hD := bh_alloc (BH.refl w1) D
      have hD2 := bh_alloc hD (.cells #[.int .i64 2, .string ⟨n.toArray⟩, .int .i64 0, .slice none 0 0] 25)
      have e1 := heap_alloc_new w1 D
      have e2 := heap_alloc_new (w1.alloc D) (.cells #[.int .i64 2, .string ⟨n.toArray⟩, .int .i64 0, .slice none 0 0] 25)
      have e3 := (Below.heap_alloc (w1.alloc D) (.cells #[.int .i64 2, .string ⟨n.toArray⟩, .int .i64 0, .slice none 0 0] 25) _ (by simp)).trans e1
      simp only [World.size_alloc, hs1] at e2
      rw [hs1] at e3
      refine ⟨⟨⟨k, HG0.out⟩, HG1'.out.below hD2, gb_trans HGB.out (gb_below hD2 _), e2, fun x _ _ _ => rfl, World.ownsRow_nil _ _ _ _, rfl, ⟨by omega, by simp; omega⟩, Nat.le_refl _⟩, e3, (Below.block hD2 _ (heap_lt HN1.out)).trans HN1.out, by simp; omega⟩
    have HR0 := Lib.hid (hR0 (.cells #[.string ⟨n.toArray⟩, .int .i64 (ar : Int), .int .i64 dk, .string ⟨dt.toArray⟩, .int .i64 dod, .slice dA dm dc, .bool dcc, .slice dA' dm' dc'] 46))
    obtain ⟨w3, hw3⟩ : ∃ w3, (w1.alloc (.cells #[.string ⟨n.toArray⟩, .int .i64 (ar : Int), .int .i64 dk, .string ⟨dt.toArray⟩, .int .i64 dod, .slice dA dm dc, .bool dcc, .slice dA' dm' dc'] 46)).alloc (.cells #[.int .i64 2, .string ⟨n.toArray⟩, .int .i64 0, .slice none 0 0] 25) = w3 := ⟨_, rfl⟩
    rw [hw3] at HR0 ⊢
    have HKL := Lib.hid hkl
    have Hd1 := Lib.hid (show IntKind.i64.wrap (d - 1) = d - 1 from (IntKind.wrap_i64 _).trans (by omega))
    clear hkl hw3 hR0 hs1 q0 q1 q2 q3 q4 q5 q6 q7 hk1
    go_loopw [12] (fun iv wr => ∃ (i kq : Nat) (v : Value) (acc : Fo) (xs : List Value), iv = .int .i64 (i : Int) ∧ RD w w3 wr E kq (w.heap.size + 1 + 1) 2 0 n v acc xs ∧ acc.len = i ∧ i ≤ ar ∧ k1 ≤ kq ∧ fsize acc ≤ 4 * (kq - k1) + i ∧ lenG acc ∧ closedL 0 0 V acc = true) (fun iv _ => ar - (match iv with | .int _ n => n.toNat | _ => 0))
    case atStart => exact ⟨0, k1, _, .nil, [], rfl, HR0.out.1, rfl, Nat.zero_le _, Nat.le_refl _, by simp [fsize], trivial, rfl⟩
    case round =>
      obtain ⟨i, kq, v, acc, xs, rfl, hrd, hai, hia, hkq, hfs, hlt, hcl⟩ := hrel
      have HRD := Lib.hid hrd
      have HAC := Lib.hid (And.intro hai (And.intro hfs (And.intro hlt hcl)))
      have hd2 := (hrd.old (w.heap.size + 1) (by omega) (by have := HR0.out.2.2.2; omega) (by omega)).trans HR0.out.2.1
      have c1 : wr.cell? ⟨w.heap.size + 1, 1, none⟩ = some (.int .i64 (ar : Int)) := cell_of_row _ _ 1 _ _ _ hd2
      obtain ⟨A5, c5, rfl, hc5⟩ := own_shape hrd.own
      obtain ⟨g3, z3⟩ := hrd.cell
      clear hrd hd2 hai hfs hlt hcl hc5
      by_cases hltar : i < ar
      · have hge : decide ((i : Int) < (ar : Int)) = true := by rw [decide_eq_true_eq]; omega
        have hwd := Hd1.out
        go_wp2_with (fail)
        have HRd := Lib.hid HRD.out.drew
        have HCa := Lib.hid (show Calls Tryd.prog 56 (AD E (d - 1) V) wr.drew (GP E V kq wr.drew) from HA.out kq (d - 1) V wr.drew HRd.out.gen (by have := HKL.out; omega) hV0 hV1 (by omega) (by omega) (by omega))
        go_region_law (first
          | (go_simp; go_at_call 56; (with_reducible refine HCa.out.mono ?_); rintro e w4 ⟨k4, q1, o1, t1, kids1, A1, cc1, ys1, rfl, b1, b2, b3, b4, b5, b6, b7, b8, b9⟩; have HB := Lib.hid (And.intro b1 (And.intro b2 (And.intro b3 (And.intro b4 (And.intro b5 (And.intro b6 (And.intro b7 (And.intro b8 b9)))))))); have HR4 := Lib.hid (HRd.out.after b9 b8); clear b1 b2 b3 b4 b5 b6 b7 b8 b9; obtain ⟨g3, z3⟩ := HR4.out.cell; have g4 := (cell_alloc HR4.out (.cells #[.int .i64 q1, .string ⟨t1.toArray⟩, .int .i64 o1, .slice A1 kids1.len cc1] 25)).1)
          | (refine step_app _ (by rfl) _ _ _ (by rfl) w3.heap.size 25 i0 _ 4 56 Tryd.underlying23 hi hz0 hz1 hz2 rfl (by decide) (.slice A5 acc.len c5) acc.len xs (by rfl) (HR4.out.own.alloc _) (some ⟨w4.heap.size, 0, none⟩) 1 1 [.int .i64 q1, .string ⟨t1.toArray⟩, .int .i64 o1, .slice A1 kids1.len cc1] (by rfl) (celB (cs := #[.int .i64 q1, .string ⟨t1.toArray⟩, .int .i64 o1, .slice A1 kids1.len cc1]) (heap_alloc_new w4 _) rfl (by decide)) (by intro x hx; simp at hx; rcases hx with rfl | rfl | rfl | rfl <;> rfl) (by have := HAC.out.1; unfold maxLen; omega) (by have := HAC.out.1; omega) (by have := HR4.out.size; simp; omega) ?_; intro v1 w5 ho1 hg1 ha1; obtain ⟨A6, c6, rfl, hc6⟩ := own_shape ho1; have HO := Lib.hid (And.intro ho1 (And.intro hg1 ha1)); obtain ⟨_, _, _, g3, _, _, _, z3⟩ := row4 (HR4.out.boxed hg1); clear ho1 hg1 ha1))
        all_goals
          go_wp2_with (fail)
          obtain ⟨b1, b2, b3, b4, b5, b6, b7, b8, b9⟩ := HB.out
          obtain ⟨a1, a2, a3, a4⟩ := HAC.out
          obtain ⟨ho1, hg1, ha1⟩ := HO.out
          have hP := HRd.out.push (q1 := q1) (o1 := o1) (t1 := t1) b9 b8 b1 b2 b3 hg1 (by simpa using ha1) ho1
          refine ⟨⟨i + 1, k4, _, _, _, rfl, hP, by rw [Fo.len_app, a1]; rfl, hltar, by omega, ?_, lenG_app _ _ a3 b6, ?_⟩, by simp; omega⟩
          · rw [fsize_app]
            simp only [Fo.one, fsize]
            omega
          · rw [closedL_app, a4, closed1_one b7]
            rfl
      · have hge : decide ((i : Int) < (ar : Int)) = false := by rw [decide_eq_false_iff_not]; omega
        have hge2 : decide (i < ar) = false := by rw [decide_eq_false_iff_not]; omega
        have hN2 := (HRD.out.old w.heap.size (Nat.le_refl _) (by have := HR0.out.2.2.2; omega) (by omega)).trans HR0.out.2.2.1
        obtain ⟨b0, b1, b2, b3, y0, y1, y2, y3⟩ := row4 hN2
        obtain ⟨f0, f1, f2, f3, _⟩ := row4 HRD.out.blkM
        have HN2 := Lib.hid hN2
        clear hN2
        go_wp2_with (fail)
        obtain ⟨m0, m1, m2, m3, _⟩ := row4 (s4 HN2.out (.int .i64 2) (.string ⟨n.toArray⟩) (.int .i64 0) (.slice A5 acc.len c5))
        refine bodyPost_ret (v := .agg #[.int .i64 2, .string ⟨n.toArray⟩, .int .i64 0, .slice A5 acc.len c5]) (by simp [results, Tryd.results37, go_sem, m0, m1, m2, m3]) rfl ?_
        obtain ⟨a1, a2, a3, a4⟩ := HAC.out
        have hkl := HKL.out
        exact RD.out HRD.out (by have := HR0.out.2.2.2; omega) (by omega) (by omega) ⟨⟨by have := HNl.out; omega, by first | exact bar_nil _ | exact bar_ne (by decide)⟩, a3, trivial⟩ (closed1_kids (by decide) (by decide) a4)
end Go.Proofs.YtddfpbcdopcdhaaDoor
