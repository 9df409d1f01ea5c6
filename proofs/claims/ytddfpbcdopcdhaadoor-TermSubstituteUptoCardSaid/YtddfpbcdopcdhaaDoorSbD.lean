/- telref1.substitute, instantiate: the walks. No condition but bounded sizes. -/
import Derived.Test.YtddfpbcdopcdhaaDoorTb0
import Derived.Test.YtddfpbcdopcdhaaDoorRlq
import Derived.Deep.CutBlock
set_option linter.unusedVariables false
set_option linter.unusedSimpArgs false
namespace Go.Proofs.YtddfpbcdopcdhaaDoor
open Go.RowKit Sx

/-- what telref1.substitute answers: blocks of S, where the term 'by' lies, are shared -/
def RST (V : Int) (M : Nat) : Prop :=
  ∀ (S : Nat → Prop) (k o b : Int) (t : List UInt8) (kids : Fo) (A : Option Addr) (c : Nat) (x : Tm) (A' : Option Addr) (c' : Nat) (w : World), (∀ y, S y → y < w.heap.size) → fsize kids < M → fsize kids ≤ 4294967296 → KT w kids A c → KS w S x.kids A' c' → 0 ≤ b → b + fsize kids ≤ 4294967296 → closed1 k o kids (b + V) = true →
    Calls Tryd.prog 30 #[.agg #[.int .i64 k, .string ⟨t.toArray⟩, .int .i64 o, .slice A kids.len c], .agg #[.int .i64 x.k, .string ⟨x.t.toArray⟩, .int .i64 x.o, .slice A' x.kids.len c'], .int .i64 b] w (SbP w S (rep1 (Gs x) shs k t o kids b))

theorem four_blocks {w w4 : World} {c0 c1 c2 c3 : Array Value} {T0 T1 T2 T3 : TypeId} (h : (((w.alloc (.cells c0 T0)).alloc (.cells c1 T1)).alloc (.cells c2 T2)).alloc (.cells c3 T3) = w4) :
    w4.heap[w.heap.size]? = some (.cells c0 T0 (0, 0)) ∧ w4.heap[w.heap.size + 1]? = some (.cells c1 T1 (0, 0)) ∧ w4.heap[w.heap.size + 2]? = some (.cells c2 T2 (0, 0)) ∧ w4.heap[w.heap.size + 3]? = some (.cells c3 T3 (0, 0)) ∧ w4.heap.size = w.heap.size + 4 ∧ BH w w4 := by
  subst h
  have f1 := bh_alloc (BH.refl w) (.cells c0 T0)
  have g1 := heap_alloc_new w (.cells c0 T0)
  generalize hW1 : w.alloc (.cells c0 T0) = W1 at *
  have z1 : W1.heap.size = w.heap.size + 1 := by rw [← hW1]; simp
  have f2 := bh_alloc (BH.refl W1) (.cells c1 T1)
  have g2 := heap_alloc_new W1 (.cells c1 T1)
  generalize hW2 : W1.alloc (.cells c1 T1) = W2 at *
  have z2 : W2.heap.size = w.heap.size + 2 := by rw [← hW2]; simp [z1]
  have f3 := bh_alloc (BH.refl W2) (.cells c2 T2)
  have g3 := heap_alloc_new W2 (.cells c2 T2)
  generalize hW3 : W2.alloc (.cells c2 T2) = W3 at *
  have z3 : W3.heap.size = w.heap.size + 3 := by rw [← hW3]; simp [z2]
  have f4 := bh_alloc (BH.refl W3) (.cells c3 T3)
  have g4 := heap_alloc_new W3 (.cells c3 T3)
  rw [z1] at g2
  rw [z2] at g3
  rw [z3] at g4
  have h34 := f4
  have h234 := BH.trans f3 h34
  have h1234 := BH.trans f2 h234
  exact ⟨(Below.block h1234 _ (heap_lt g1)).trans g1, (Below.block h234 _ (heap_lt g2)).trans g2, (Below.block h34 _ (heap_lt g3)).trans g3, g4, by simp [z3], BH.trans f1 h1234⟩

set_option maxHeartbeats 8000000 in
set_option maxRecDepth 100000 in
theorem rsub_step {V : Int} (hV0 : 0 ≤ V) (hV1 : V ≤ 4294967296) (M : Nat) (hR : RST V M) : RST V (M + 1) := by
  intro S k o b t kids A c x A' c' w hS hM hN hK hX hb0 hb1 hcl
  obtain ⟨xk, xt, xkids, xo⟩ := x
  have HR := Lib.hid hR
  have HK := Lib.hid hK
  have HX := Lib.hid hX
  have HS := Lib.hid hS
  have HCl := Lib.hid hcl
  obtain ⟨i0, hi, hz0, hz1, hz2⟩ := info_parts infoTg
  have hll := len_le_fsize kids
  clear hR hK hX hS hcl
  obtain ⟨L, hL⟩ : ∃ L, kids.len = L := ⟨_, rfl⟩
  rw [hL] at hll ⊢
  have HL := Lib.hid hL
  clear hL
  cases hfr : freeB k o b with
  | true =>
    obtain ⟨rfl, hbo, hov⟩ := free_in HCl.out hfr
    by_cases hob : o = b
    · subst hob
      have t1 : (o == o) = true := by simp
      have hEq := rep1_some (G := Gs ⟨xk, xt, xkids, xo⟩) (sh := shs) (t := t) (kids := kids) hfr (by rw [Int.sub_self]; rfl)
      rw [hEq]
      have f1 := bh_alloc (BH.refl w) (.cells #[.int .i64 5, .string ⟨t.toArray⟩, .int .i64 o, .slice A L c] 25)
      have f2 := bh_alloc f1 (.cells #[.int .i64 xk, .string ⟨xt.toArray⟩, .int .i64 xo, .slice A' xkids.len c'] 25)
      have f3 := bh_alloc f2 (.cells #[.int .i64 xk, .string ⟨xt.toArray⟩, .int .i64 xo, .slice A' xkids.len c'] 25)
      have g3 := heap_alloc_new ((w.alloc (.cells #[.int .i64 5, .string ⟨t.toArray⟩, .int .i64 o, .slice A L c] 25)).alloc (.cells #[.int .i64 xk, .string ⟨xt.toArray⟩, .int .i64 xo, .slice A' xkids.len c'] 25)) (.cells #[.int .i64 xk, .string ⟨xt.toArray⟩, .int .i64 xo, .slice A' xkids.len c'] 25)
      rw [World.size_alloc, World.size_alloc] at g3
      have HE := Lib.hid g3
      have HF := Lib.hid f3
      clear hEq hfr f1 f2 f3 g3
      go_enter Tryd.func30, Tryd.ntmps30
      go_wp2_with (fail)
      obtain ⟨m0, m1, m2, m3, _⟩ := row4 HE.out
      exact bodyPost_ret (v := .agg #[.int .i64 xk, .string ⟨xt.toArray⟩, .int .i64 xo, .slice A' xkids.len c']) (by simp [results, Tryd.results30, go_sem, m0, m1, m2, m3]) rfl ⟨A', c', rfl, (HX.out.bh HF.out).keep (Nat.le_refl _) fun y hy _ => ⟨rfl, .inl hy⟩, HF.out⟩
    · have t1 : (o == b) = false := by simpa using hob
      have t2 : decide (o = b) = false := by simpa using hob
      have t3 : decide (b < o) = true := by rw [decide_eq_true_eq]; omega
      have hbo2 : b < o := by omega
      have ho0 : 0 < o := by omega
      have hEq := rep1_none (G := Gs ⟨xk, xt, xkids, xo⟩) (sh := shs) (t := t) (kids := kids) hfr (by rw [Gs, if_neg (by omega)])
      rw [hEq, show shs o = o - 1 from rfl]
      clear hEq hfr hob
      go_enter Tryd.func30, Tryd.ntmps30
      go_wp2_with (fail)
      obtain ⟨q, hqq⟩ : ∃ q, o - 1 = q := ⟨_, rfl⟩
      rw [hqq]
      have HQq := Lib.hid hqq
      clear hqq
      generalize hw4 : (((w.alloc (.cells #[.int .i64 5, .string ⟨t.toArray⟩, .int .i64 q, .slice A L c] 25)).alloc (.cells #[.int .i64 xk, .string ⟨xt.toArray⟩, .int .i64 xo, .slice A' xkids.len c'] 25)).alloc (.cells #[.int .i64 0, .string ⟨#[]⟩, .int .i64 0, .slice none 0 0] 25)).alloc (.cells #[.int .i64 5, .string ⟨t.toArray⟩, .int .i64 q, .slice none 0 0] 25) = w4
      have hE := four_blocks hw4
      have HE := Lib.hid hE
      clear hw4 hE
      go_loopw [8] (fun iv wr => ∃ (i : Nat) (r : Fo) (v : Value) (acc : Fo) (xs : List Value), iv = .int .i64 (i : Int) ∧ Suf i r kids ∧ RQ w w4 wr S (w.heap.size + 3) 5 q t v acc xs ∧ acc.len = i ∧ Hid (acc.app (repL (Gs ⟨xk, xt, xkids, xo⟩) shs 5 i b r) = repL (Gs ⟨xk, xt, xkids, xo⟩) shs 5 0 b kids)) (fun iv _ => L - (match iv with | .int _ n => n.toNat | _ => 0))
      case atStart =>
        obtain ⟨e0, e1, e2, e3, hz, hbw⟩ := HE.out
        exact ⟨0, kids, _, .nil, [], rfl, Suf.zero _, ⟨HS.out, hbw, e3, fun x _ _ _ => rfl, World.ownsRow_nil _ _ _ _, rfl, ⟨by omega, by rw [hz]; omega⟩, Nat.le_refl _⟩, rfl, Lib.hid rfl⟩
      case round =>
        obtain ⟨i, r, v, acc, xs, rfl, hsuf, hrq, hai, hmk⟩ := hrel
        have hlen' := hsuf.len
        rw [HL.out] at hlen'
        have HRQ := Lib.hid hrq
        obtain ⟨e0, e1, e2, e3, hz, hbw⟩ := HE.out
        have H0 := Lib.hid ((hrq.old w.heap.size (by omega) (by omega) (by omega)).trans e0)
        have H1 := Lib.hid ((hrq.old (w.heap.size + 1) (by omega) (by omega) (by omega)).trans e1)
        have H2 := Lib.hid ((hrq.old (w.heap.size + 2) (by omega) (by omega) (by omega)).trans e2)
        clear e0 e1 e2 e3 hz hbw
        obtain ⟨A5, c5, rfl, hc5⟩ := own_shape hrq.own
        obtain ⟨b0, b1, b2, b3, y0, y1, y2, y3⟩ := row4 hrq.blkM
        obtain ⟨a0, a1, a2, a3, _⟩ := row4 H0.out
        have HAi := Lib.hid hai
        clear hrq hai hc5
        cases r with
        | nil =>
          simp only [Fo.len] at hlen'
          have hge : decide (i < L) = false := by rw [decide_eq_false_iff_not]; omega
          obtain ⟨n0, n1, n2, n3, v0, v1, v2, v3⟩ := row4 H2.out
          clear hlen' hsuf
          go_wp2_with (fail)
          obtain ⟨m0, m1, m2, m3, _⟩ := row4 (s4 H2.out (.int .i64 5) (.string ⟨t.toArray⟩) (.int .i64 q) (.slice A5 acc.len c5))
          refine bodyPost_ret (v := .agg #[.int .i64 5, .string ⟨t.toArray⟩, .int .i64 q, .slice A5 acc.len c5]) (by simp [results, Tryd.results30, go_sem, m0, m1, m2, m3]) rfl ?_
          have hmk' : acc = repL (Gs ⟨xk, xt, xkids, xo⟩) shs 5 0 b kids := by have h := hmk.out; rwa [repL, Fo.app_nil] at h
          rw [HQq.out]
          rw [← hmk']
          exact SbP.box (x := ⟨5, t, acc, q⟩) (N := w.heap.size + 2) HS.out (by omega) HRQ.out.bel (HRQ.out.out.keep (Nat.le_refl _) fun y hy _ => ⟨rfl, hy.elim (fun h => ⟨.inl h, by have := HS.out y h; omega⟩) fun h => ⟨.inr (by have := HE.out.2.2.2.2.1; omega), by have := HE.out.2.2.2.2.1; omega⟩⟩)
        | cons k1 t1 kids1 o1 r1 =>
          simp only [Fo.len] at hlen'
          obtain ⟨g, off, A1, c1, rfl, hgl, q0, q1, q2, q3, hk1⟩ := HK.out.get hsuf HRQ.out.bel
          have hge : decide ((i : Int) < (L : Int)) = true := by rw [decide_eq_true_eq]; omega
          have hiL : (i : Int) < (L : Int) := by omega
          have hi0 : (0 : Int) ≤ (i : Int) := by omega
          have HK1 := Lib.hid (hk1.below HRQ.out.bel)
          have HSuf := Lib.hid hsuf
          clear hk1 hsuf hgl
          go_upto_block 2 with (fail)
          go_cut [8] (fun s8 wx => s8 = .int .i64 (i : Int) ∧ ∃ (v' : Value) (acc' : Fo) (xs' : List Value), RQ w w4 wx S (w.heap.size + 3) 5 q t v' acc' xs' ∧ acc'.len = i + 1 ∧ Hid (acc'.app (repL (Gs ⟨xk, xt, xkids, xo⟩) shs 5 (i + 1) b r1) = repL (Gs ⟨xk, xt, xkids, xo⟩) shs 5 0 b kids))
          case first =>
            go_upto_region 11 with (fail)
            obtain ⟨y, hy⟩ : ∃ y, rep1 (Gs ⟨xk, xt, xkids, xo⟩) shs k1 t1 o1 kids1 (aroundB 5 i b) = y := ⟨_, rfl⟩
            obtain ⟨ab0, ab1⟩ := aroundB_bounds 5 0 i
            have hab : aroundB 5 i b = b + aroundB 5 i 0 := by
              have := around_add 5 i 0 b
              rw [Int.zero_add] at this
              omega
            have hkid := HSuf.out.kid.1
            have hrc : ∀ X, BH wr X → Calls Tryd.prog 30 #[.agg #[.int .i64 k1, .string ⟨t1.toArray⟩, .int .i64 o1, .slice A1 kids1.len c1], .agg #[.int .i64 xk, .string ⟨xt.toArray⟩, .int .i64 xo, .slice A' xkids.len c'], .int .i64 (b + aroundB 5 i 0)] X (SbP X S y) := by
              intro X hX
              have h := HR.out S k1 o1 (aroundB 5 i b) t1 kids1 A1 c1 ⟨xk, xt, xkids, xo⟩ A' c' X (fun z hz => Nat.lt_of_lt_of_le (HS.out z hz) (Below.size (BH.trans HRQ.out.bel hX))) (by omega) (by omega) (HK1.out.below hX) (HX.out.bh (BH.trans HRQ.out.bel hX)) (by omega) (by omega) (by rw [← around_add]; exact closedL_suf (closed_kids HCl.out) HSuf.out)
              rw [hy, hab] at h
              exact h
            obtain ⟨d, hd⟩ : ∃ d, aroundB 5 i 0 = d := ⟨_, rfl⟩
            rw [hd] at hrc ab0 ab1
            have HRc := Lib.hid hrc
            have HD := Lib.hid hd
            have HY := Lib.hid hy
            have hwd : IntKind.i64.wrap (b + d) = b + d := (IntKind.wrap_i64 _).trans (by omega)
            have Hwd := Lib.hid hwd
            clear hrc hd hy hab hwd hkid a0 a1 a2 a3 b0 b1 b2 b3 y0 y1 y2 y3
            refine wp_region_late (by kernel_rfl) (evV ⟨wr, S, w.heap.size, w.heap.size + 1 + 1 + 1, i, b, d, .slice A5 acc.len c5, .slice (some ⟨g, off, none⟩) L c, g, off, .agg #[.int .i64 k1, .string ⟨t1.toArray⟩, .int .i64 o1, .slice A1 kids1.len c1], .agg #[.int .i64 xk, .string ⟨xt.toArray⟩, .int .i64 xo, .slice A' xkids.len c'], .agg #[.int .i64 5, .string ⟨t.toArray⟩, .int .i64 q, .slice (some ⟨g, off, none⟩) L c], y,
              fun v W => W.heap[w.heap.size + 3]? = some (.cells #[.int .i64 5, .string ⟨t.toArray⟩, .int .i64 q, .slice A5 acc.len c5] 25 (0, 0)) ∧ ∃ xs', RQ w w4 (W.setCell ⟨w.heap.size + 3, 3, none⟩ v) S (w.heap.size + 3) 5 q t v (acc.app (.one y.k y.t y.kids y.o)) xs'⟩)
              (fun W => ∃ v' xs', RQ w w4 W S (w.heap.size + 3) 5 q t v' (acc.app (.one y.k y.t y.kids y.o)) xs') evK 15 17 (evV_bh _) (evV_free _) (by kernel_rfl) ?_ ?_
            · refine ⟨?_, ?_, ?_, ?_, ?_, ?_, ?_, ?_, ?_, ?_, ?_, ?_, ?_, ?_, ?_, ?_, ?_, ?_, trivial⟩
              · intro a W hF
                have h := same_of hF 7 (by kernel_rfl)
                go_simp
                exact ⟨_, rfl, rfl⟩
              · intro a W hB hF hD
                have p : a.tmps[36]?.getD undef = .pointer (some ⟨w.heap.size + 1 + 1 + 1, 3, none⟩) := dep_of hD 0 36 (by kernel_rfl) rfl rfl
                obtain ⟨c0, c1, c2, c3, _⟩ := row4 ((Below.block hB _ (heap_lt HRQ.out.blkM)).trans HRQ.out.blkM)
                go_simp
                exact ⟨_, rfl, rfl, BH.refl _⟩
              · intro a W hF
                have h := same_of hF 3 (by kernel_rfl)
                go_simp
                exact ⟨_, rfl, rfl⟩
              · intro a W hB hF hD
                have p : a.tmps[38]?.getD undef = .pointer (some ⟨w.heap.size, 3, none⟩) := dep_of hD 2 38 (by kernel_rfl) rfl rfl
                obtain ⟨c0, c1, c2, c3, _⟩ := row4 ((Below.block hB _ (heap_lt H0.out)).trans H0.out)
                go_simp
                exact ⟨_, rfl, rfl, BH.refl _⟩
              · intro a W hF
                have h := same_of hF 8 (by kernel_rfl)
                go_simp
                exact ⟨_, rfl, rfl⟩
              · intro a W hB hF hD
                have p : a.tmps[39]?.getD undef = .slice (some ⟨g, off, none⟩) L c := dep_of hD 3 39 (by kernel_rfl) rfl rfl
                have p' : a.tmps[40]?.getD undef = .int .i64 (i : Int) := dep_of hD 4 40 (by kernel_rfl) rfl rfl
                go_simp
                exact ⟨_, rfl, rfl, BH.refl _⟩
              · intro a W hB hF hD
                have p : a.tmps[41]?.getD undef = .pointer (some ⟨g, off + i * 4, none⟩) := dep_of hD 5 41 (by kernel_rfl) rfl rfl
                have r0 := hB.cell q0
                have r1 := hB.cell q1
                have r2 := hB.cell q2
                have r3 := hB.cell q3
                go_simp
                exact ⟨_, rfl, rfl, BH.refl _⟩
              · intro a W hB hF hD
                have h := same_of hF 4 (by kernel_rfl)
                obtain ⟨c0, c1, c2, c3, _⟩ := row4 ((Below.block hB _ (heap_lt H1.out)).trans H1.out)
                go_simp
                exact ⟨_, rfl, rfl, BH.refl _⟩
              · intro a W hF
                have h := same_of hF 2 (by kernel_rfl)
                go_simp
                exact ⟨_, rfl, rfl⟩
              · intro a W hB hF hD
                have h := same_of hF 3 (by kernel_rfl)
                obtain ⟨c0, c1, c2, c3, _⟩ := row4 ((Below.block hB _ (heap_lt H0.out)).trans H0.out)
                go_simp
                exact ⟨_, rfl, rfl, BH.refl _⟩
              · intro a W hF
                have h := same_of hF 8 (by kernel_rfl)
                go_simp
                exact ⟨_, rfl, rfl⟩
              · intro a W hB hF hD
                have p : a.tmps[45]?.getD undef = .agg #[.int .i64 5, .string ⟨t.toArray⟩, .int .i64 q, .slice (some ⟨g, off, none⟩) L c] := dep_of hD 9 45 (by kernel_rfl) rfl rfl
                have p' : a.tmps[46]?.getD undef = .int .i64 (i : Int) := dep_of hD 10 46 (by kernel_rfl) rfl rfl
                go_simp
                refine (binders_any 5 q i t (some ⟨g, off, none⟩) L c _).mono ?_
                rintro e u ⟨rfl, hb⟩
                exact ⟨_, rfl, congrArg (Value.int .i64) HD.out, hb⟩
              · intro a W hB hF hD
                have p : a.tmps[44]?.getD undef = .int .i64 b := dep_of hD 8 44 (by kernel_rfl) rfl rfl
                have p' : a.tmps[47]?.getD undef = .int .i64 d := dep_of hD 11 47 (by kernel_rfl) rfl rfl
                have hwd := Hwd.out
                go_simp
                exact ⟨_, rfl, rfl, BH.refl _⟩
              · intro a W hB hF hD
                have p : a.tmps[42]?.getD undef = .agg #[.int .i64 k1, .string ⟨t1.toArray⟩, .int .i64 o1, .slice A1 kids1.len c1] := dep_of hD 6 42 (by kernel_rfl) rfl rfl
                have p' : a.tmps[43]?.getD undef = .agg #[.int .i64 xk, .string ⟨xt.toArray⟩, .int .i64 xo, .slice A' xkids.len c'] := dep_of hD 7 43 (by kernel_rfl) rfl rfl
                have p'' : a.tmps[48]?.getD undef = .int .i64 (b + d) := dep_of hD 12 48 (by kernel_rfl) rfl rfl
                go_simp
                refine (HRc.out W hB).mono ?_
                rintro e u ⟨A2, c2, rfl, hk, hb⟩
                have hs := Below.size hB
                exact ⟨_, rfl, ⟨A2, c2, rfl, hk.keep (Nat.le_refl _) fun z hz _ => ⟨rfl, hz.elim Or.inl fun h => Or.inr (Nat.le_trans hs h)⟩⟩, hb⟩
              · intro a W hB hF hD
                obtain ⟨A2, c2, h, hk⟩ : ∃ A2 c2, a.tmps[49]?.getD undef = .agg #[.int .i64 y.k, .string ⟨y.t.toArray⟩, .int .i64 y.o, .slice A2 y.kids.len c2] ∧ KS W (fun z => S z ∨ wr.heap.size ≤ z) y.kids A2 c2 := dep_of hD 13 49 (by kernel_rfl) rfl rfl
                go_simp
                exact ⟨_, rfl, ⟨A2, c2, W.heap.size, rfl, heap_alloc_new W _, hk.bh (bh_alloc (BH.refl _) _)⟩, bh_alloc (BH.refl _) _⟩
              · intro a W hB hF hD
                have p : a.tmps[37]?.getD undef = .slice A5 acc.len c5 := dep_of hD 1 37 (by kernel_rfl) rfl rfl
                obtain ⟨A2, c2, g2, h, h2, hk⟩ : ∃ A2 c2 g2, a.tmps[50]?.getD undef = .slice (some ⟨g2, 0, none⟩) 1 1 ∧ W.heap[g2]? = some (.cells #[.int .i64 y.k, .string ⟨y.t.toArray⟩, .int .i64 y.o, .slice A2 y.kids.len c2] 25 (0, 0)) ∧ KS W (fun z => S z ∨ wr.heap.size ≤ z) y.kids A2 c2 := dep_of hD 14 50 (by kernel_rfl) rfl rfl
                have hrW := HRQ.out.after hB
                refine wp_rea (by rfl) (.tmp 37) (.tmp 50) _ (by rfl) w4.heap.size 25 i0 _ 4 56 Tryd.underlying23 hi hz0 hz1 hz2 rfl (by decide) (.slice A5 acc.len c5) acc.len xs ((Array.getD_eq_getD_getElem? ..).trans p) hrW.own (some ⟨g2, 0, none⟩) 1 1 [.int .i64 y.k, .string ⟨y.t.toArray⟩, .int .i64 y.o, .slice A2 y.kids.len c2] ((Array.getD_eq_getD_getElem? ..).trans h) (rea_one h2) (by have := HAi.out; unfold maxLen; omega) (by have := HAi.out; omega) hrW.size ?_
                intro v1 w5 ho hg ha
                obtain ⟨hM5, hrq⟩ := HRQ.out.push2 hB hk hg ha ho
                exact ⟨v1, rfl, hM5, _, hrq⟩
              · intro a W hF
                have h := same_of hF 7 (by kernel_rfl)
                go_simp
                exact ⟨_, rfl, rfl⟩
              · intro a W hF hD
                have p : a.tmps[52]?.getD undef = .pointer (some ⟨w.heap.size + 1 + 1 + 1, 3, none⟩) := depq_of hD 16 52 rfl (by kernel_rfl) rfl rfl
                obtain ⟨hM5, xs', hrq⟩ : _ ∧ ∃ xs', RQ w w4 (W.setCell ⟨w.heap.size + 3, 3, none⟩ (a.tmps[51]?.getD undef)) S (w.heap.size + 3) 5 q t (a.tmps[51]?.getD undef) (acc.app (.one y.k y.t y.kids y.o)) xs' := depq_of hD 15 51 rfl (by kernel_rfl) rfl rfl
                obtain ⟨v1, hv1⟩ : ∃ v1, a.tmps[51]?.getD undef = v1 := ⟨_, rfl⟩
                rw [hv1] at hrq
                obtain ⟨A6, c6, rfl, hc6⟩ := own_shape hrq.own
                obtain ⟨c0, c1, c2, c3, z0, z1, z2, z3⟩ := row4 hM5
                have HRq := Lib.hid hrq
                clear hrq hM5 hc6
                go_simp
                exact ⟨_, _, HRq.out⟩
            · intro a W hF hR
              have h8 := same_of hF 8 (by kernel_rfl)
              obtain ⟨v', xs', hrq⟩ := hR
              have HRq := Lib.hid hrq
              have HA := Lib.hid (Frm.act hF)
              clear hrq hF h8
              simp only [Exit.inBlock, Exit.then]
              apply_assumption
              refine Met.intro ?_
              go_step
              (repeat apply Exists.intro)
              refine ⟨?rela, ?eqa⟩
              case eqa => exact HA.out.trans rfl
              refine ⟨rfl, _, _, _, HRq.out, by rw [Fo.len_app, HAi.out]; rfl, Lib.hid ?_⟩
              have h := hmk.out
              rw [repL_cons, HY.out] at h
              rw [← h, Fo.app_app]
              rfl
          case rest =>
            obtain ⟨rfl, v', acc', xs', hrq, hlen, hmk'⟩ := hcut
            have HRq := Lib.hid (And.intro hrq hlen)
            clear hrq hlen
            go_wp2_with (fail)
            exact ⟨⟨i + 1, r1, _, _, _, rfl, HSuf.out.next, HRq.out.1, HRq.out.2, hmk'⟩, by simp; omega⟩
  | false =>
    rw [rep1_bound hfr]
    by_cases hk : k = 5
    · subst hk
      have hbo : o < b := by
        have h := hfr
        simp [freeB] at h
        exact h
      have t1 : (o == b) = false := by rw [beq_eq_false_iff_ne]; omega
      have t2 : decide (o = b) = false := by rw [decide_eq_false_iff_not]; omega
      have t3 : decide (b < o) = false := by rw [decide_eq_false_iff_not]; omega
      clear hfr
      go_enter Tryd.func30, Tryd.ntmps30
      go_wp2_with (fail)
      generalize hw4 : (((w.alloc (.cells #[.int .i64 5, .string ⟨t.toArray⟩, .int .i64 o, .slice A L c] 25)).alloc (.cells #[.int .i64 xk, .string ⟨xt.toArray⟩, .int .i64 xo, .slice A' xkids.len c'] 25)).alloc (.cells #[.int .i64 0, .string ⟨#[]⟩, .int .i64 0, .slice none 0 0] 25)).alloc (.cells #[.int .i64 5, .string ⟨t.toArray⟩, .int .i64 o, .slice none 0 0] 25) = w4
      have hE := four_blocks hw4
      have HE := Lib.hid hE
      clear hw4 hE
      go_loopw [8] (fun iv wr => ∃ (i : Nat) (r : Fo) (v : Value) (acc : Fo) (xs : List Value), iv = .int .i64 (i : Int) ∧ Suf i r kids ∧ RQ w w4 wr S (w.heap.size + 3) 5 o t v acc xs ∧ acc.len = i ∧ Hid (acc.app (repL (Gs ⟨xk, xt, xkids, xo⟩) shs 5 i b r) = repL (Gs ⟨xk, xt, xkids, xo⟩) shs 5 0 b kids)) (fun iv _ => L - (match iv with | .int _ n => n.toNat | _ => 0))
      case atStart =>
        obtain ⟨e0, e1, e2, e3, hz, hbw⟩ := HE.out
        exact ⟨0, kids, _, .nil, [], rfl, Suf.zero _, ⟨HS.out, hbw, e3, fun x _ _ _ => rfl, World.ownsRow_nil _ _ _ _, rfl, ⟨by omega, by rw [hz]; omega⟩, Nat.le_refl _⟩, rfl, Lib.hid rfl⟩
      case round =>
        obtain ⟨i, r, v, acc, xs, rfl, hsuf, hrq, hai, hmk⟩ := hrel
        have hlen' := hsuf.len
        rw [HL.out] at hlen'
        have HRQ := Lib.hid hrq
        obtain ⟨e0, e1, e2, e3, hz, hbw⟩ := HE.out
        have H0 := Lib.hid ((hrq.old w.heap.size (by omega) (by omega) (by omega)).trans e0)
        have H1 := Lib.hid ((hrq.old (w.heap.size + 1) (by omega) (by omega) (by omega)).trans e1)
        have H2 := Lib.hid ((hrq.old (w.heap.size + 2) (by omega) (by omega) (by omega)).trans e2)
        clear e0 e1 e2 e3 hz hbw
        obtain ⟨A5, c5, rfl, hc5⟩ := own_shape hrq.own
        obtain ⟨b0, b1, b2, b3, y0, y1, y2, y3⟩ := row4 hrq.blkM
        obtain ⟨a0, a1, a2, a3, _⟩ := row4 H0.out
        have HAi := Lib.hid hai
        clear hrq hai hc5
        cases r with
        | nil =>
          simp only [Fo.len] at hlen'
          have hge : decide (i < L) = false := by rw [decide_eq_false_iff_not]; omega
          obtain ⟨n0, n1, n2, n3, v0, v1, v2, v3⟩ := row4 H2.out
          clear hlen' hsuf
          go_wp2_with (fail)
          obtain ⟨m0, m1, m2, m3, _⟩ := row4 (s4 H2.out (.int .i64 5) (.string ⟨t.toArray⟩) (.int .i64 o) (.slice A5 acc.len c5))
          refine bodyPost_ret (v := .agg #[.int .i64 5, .string ⟨t.toArray⟩, .int .i64 o, .slice A5 acc.len c5]) (by simp [results, Tryd.results30, go_sem, m0, m1, m2, m3]) rfl ?_
          have hmk' : acc = repL (Gs ⟨xk, xt, xkids, xo⟩) shs 5 0 b kids := by have h := hmk.out; rwa [repL, Fo.app_nil] at h
          rw [← hmk']
          exact SbP.box (x := ⟨5, t, acc, o⟩) (N := w.heap.size + 2) HS.out (by omega) HRQ.out.bel (HRQ.out.out.keep (Nat.le_refl _) fun y hy _ => ⟨rfl, hy.elim (fun h => ⟨.inl h, by have := HS.out y h; omega⟩) fun h => ⟨.inr (by have := HE.out.2.2.2.2.1; omega), by have := HE.out.2.2.2.2.1; omega⟩⟩)
        | cons k1 t1 kids1 o1 r1 =>
          simp only [Fo.len] at hlen'
          obtain ⟨g, off, A1, c1, rfl, hgl, q0, q1, q2, q3, hk1⟩ := HK.out.get hsuf HRQ.out.bel
          have hge : decide ((i : Int) < (L : Int)) = true := by rw [decide_eq_true_eq]; omega
          have hiL : (i : Int) < (L : Int) := by omega
          have hi0 : (0 : Int) ≤ (i : Int) := by omega
          have HK1 := Lib.hid (hk1.below HRQ.out.bel)
          have HSuf := Lib.hid hsuf
          clear hk1 hsuf hgl
          go_upto_block 2 with (fail)
          go_cut [8] (fun s8 wx => s8 = .int .i64 (i : Int) ∧ ∃ (v' : Value) (acc' : Fo) (xs' : List Value), RQ w w4 wx S (w.heap.size + 3) 5 o t v' acc' xs' ∧ acc'.len = i + 1 ∧ Hid (acc'.app (repL (Gs ⟨xk, xt, xkids, xo⟩) shs 5 (i + 1) b r1) = repL (Gs ⟨xk, xt, xkids, xo⟩) shs 5 0 b kids))
          case first =>
            go_upto_region 11 with (fail)
            obtain ⟨y, hy⟩ : ∃ y, rep1 (Gs ⟨xk, xt, xkids, xo⟩) shs k1 t1 o1 kids1 (aroundB 5 i b) = y := ⟨_, rfl⟩
            obtain ⟨ab0, ab1⟩ := aroundB_bounds 5 0 i
            have hab : aroundB 5 i b = b + aroundB 5 i 0 := by
              have := around_add 5 i 0 b
              rw [Int.zero_add] at this
              omega
            have hkid := HSuf.out.kid.1
            have hrc : ∀ X, BH wr X → Calls Tryd.prog 30 #[.agg #[.int .i64 k1, .string ⟨t1.toArray⟩, .int .i64 o1, .slice A1 kids1.len c1], .agg #[.int .i64 xk, .string ⟨xt.toArray⟩, .int .i64 xo, .slice A' xkids.len c'], .int .i64 (b + aroundB 5 i 0)] X (SbP X S y) := by
              intro X hX
              have h := HR.out S k1 o1 (aroundB 5 i b) t1 kids1 A1 c1 ⟨xk, xt, xkids, xo⟩ A' c' X (fun z hz => Nat.lt_of_lt_of_le (HS.out z hz) (Below.size (BH.trans HRQ.out.bel hX))) (by omega) (by omega) (HK1.out.below hX) (HX.out.bh (BH.trans HRQ.out.bel hX)) (by omega) (by omega) (by rw [← around_add]; exact closedL_suf (closed_kids HCl.out) HSuf.out)
              rw [hy, hab] at h
              exact h
            obtain ⟨d, hd⟩ : ∃ d, aroundB 5 i 0 = d := ⟨_, rfl⟩
            rw [hd] at hrc ab0 ab1
            have HRc := Lib.hid hrc
            have HD := Lib.hid hd
            have HY := Lib.hid hy
            have hwd : IntKind.i64.wrap (b + d) = b + d := (IntKind.wrap_i64 _).trans (by omega)
            have Hwd := Lib.hid hwd
            clear hrc hd hy hab hwd hkid a0 a1 a2 a3 b0 b1 b2 b3 y0 y1 y2 y3
            refine wp_region_late (by kernel_rfl) (evV ⟨wr, S, w.heap.size, w.heap.size + 1 + 1 + 1, i, b, d, .slice A5 acc.len c5, .slice (some ⟨g, off, none⟩) L c, g, off, .agg #[.int .i64 k1, .string ⟨t1.toArray⟩, .int .i64 o1, .slice A1 kids1.len c1], .agg #[.int .i64 xk, .string ⟨xt.toArray⟩, .int .i64 xo, .slice A' xkids.len c'], .agg #[.int .i64 5, .string ⟨t.toArray⟩, .int .i64 o, .slice (some ⟨g, off, none⟩) L c], y,
              fun v W => W.heap[w.heap.size + 3]? = some (.cells #[.int .i64 5, .string ⟨t.toArray⟩, .int .i64 o, .slice A5 acc.len c5] 25 (0, 0)) ∧ ∃ xs', RQ w w4 (W.setCell ⟨w.heap.size + 3, 3, none⟩ v) S (w.heap.size + 3) 5 o t v (acc.app (.one y.k y.t y.kids y.o)) xs'⟩)
              (fun W => ∃ v' xs', RQ w w4 W S (w.heap.size + 3) 5 o t v' (acc.app (.one y.k y.t y.kids y.o)) xs') evK 15 17 (evV_bh _) (evV_free _) (by kernel_rfl) ?_ ?_
            · refine ⟨?_, ?_, ?_, ?_, ?_, ?_, ?_, ?_, ?_, ?_, ?_, ?_, ?_, ?_, ?_, ?_, ?_, ?_, trivial⟩
              · intro a W hF
                have h := same_of hF 7 (by kernel_rfl)
                go_simp
                exact ⟨_, rfl, rfl⟩
              · intro a W hB hF hD
                have p : a.tmps[36]?.getD undef = .pointer (some ⟨w.heap.size + 1 + 1 + 1, 3, none⟩) := dep_of hD 0 36 (by kernel_rfl) rfl rfl
                obtain ⟨c0, c1, c2, c3, _⟩ := row4 ((Below.block hB _ (heap_lt HRQ.out.blkM)).trans HRQ.out.blkM)
                go_simp
                exact ⟨_, rfl, rfl, BH.refl _⟩
              · intro a W hF
                have h := same_of hF 3 (by kernel_rfl)
                go_simp
                exact ⟨_, rfl, rfl⟩
              · intro a W hB hF hD
                have p : a.tmps[38]?.getD undef = .pointer (some ⟨w.heap.size, 3, none⟩) := dep_of hD 2 38 (by kernel_rfl) rfl rfl
                obtain ⟨c0, c1, c2, c3, _⟩ := row4 ((Below.block hB _ (heap_lt H0.out)).trans H0.out)
                go_simp
                exact ⟨_, rfl, rfl, BH.refl _⟩
              · intro a W hF
                have h := same_of hF 8 (by kernel_rfl)
                go_simp
                exact ⟨_, rfl, rfl⟩
              · intro a W hB hF hD
                have p : a.tmps[39]?.getD undef = .slice (some ⟨g, off, none⟩) L c := dep_of hD 3 39 (by kernel_rfl) rfl rfl
                have p' : a.tmps[40]?.getD undef = .int .i64 (i : Int) := dep_of hD 4 40 (by kernel_rfl) rfl rfl
                go_simp
                exact ⟨_, rfl, rfl, BH.refl _⟩
              · intro a W hB hF hD
                have p : a.tmps[41]?.getD undef = .pointer (some ⟨g, off + i * 4, none⟩) := dep_of hD 5 41 (by kernel_rfl) rfl rfl
                have r0 := hB.cell q0
                have r1 := hB.cell q1
                have r2 := hB.cell q2
                have r3 := hB.cell q3
                go_simp
                exact ⟨_, rfl, rfl, BH.refl _⟩
              · intro a W hB hF hD
                have h := same_of hF 4 (by kernel_rfl)
                obtain ⟨c0, c1, c2, c3, _⟩ := row4 ((Below.block hB _ (heap_lt H1.out)).trans H1.out)
                go_simp
                exact ⟨_, rfl, rfl, BH.refl _⟩
              · intro a W hF
                have h := same_of hF 2 (by kernel_rfl)
                go_simp
                exact ⟨_, rfl, rfl⟩
              · intro a W hB hF hD
                have h := same_of hF 3 (by kernel_rfl)
                obtain ⟨c0, c1, c2, c3, _⟩ := row4 ((Below.block hB _ (heap_lt H0.out)).trans H0.out)
                go_simp
                exact ⟨_, rfl, rfl, BH.refl _⟩
              · intro a W hF
                have h := same_of hF 8 (by kernel_rfl)
                go_simp
                exact ⟨_, rfl, rfl⟩
              · intro a W hB hF hD
                have p : a.tmps[45]?.getD undef = .agg #[.int .i64 5, .string ⟨t.toArray⟩, .int .i64 o, .slice (some ⟨g, off, none⟩) L c] := dep_of hD 9 45 (by kernel_rfl) rfl rfl
                have p' : a.tmps[46]?.getD undef = .int .i64 (i : Int) := dep_of hD 10 46 (by kernel_rfl) rfl rfl
                go_simp
                refine (binders_any 5 o i t (some ⟨g, off, none⟩) L c _).mono ?_
                rintro e u ⟨rfl, hb⟩
                exact ⟨_, rfl, congrArg (Value.int .i64) HD.out, hb⟩
              · intro a W hB hF hD
                have p : a.tmps[44]?.getD undef = .int .i64 b := dep_of hD 8 44 (by kernel_rfl) rfl rfl
                have p' : a.tmps[47]?.getD undef = .int .i64 d := dep_of hD 11 47 (by kernel_rfl) rfl rfl
                have hwd := Hwd.out
                go_simp
                exact ⟨_, rfl, rfl, BH.refl _⟩
              · intro a W hB hF hD
                have p : a.tmps[42]?.getD undef = .agg #[.int .i64 k1, .string ⟨t1.toArray⟩, .int .i64 o1, .slice A1 kids1.len c1] := dep_of hD 6 42 (by kernel_rfl) rfl rfl
                have p' : a.tmps[43]?.getD undef = .agg #[.int .i64 xk, .string ⟨xt.toArray⟩, .int .i64 xo, .slice A' xkids.len c'] := dep_of hD 7 43 (by kernel_rfl) rfl rfl
                have p'' : a.tmps[48]?.getD undef = .int .i64 (b + d) := dep_of hD 12 48 (by kernel_rfl) rfl rfl
                go_simp
                refine (HRc.out W hB).mono ?_
                rintro e u ⟨A2, c2, rfl, hk, hb⟩
                have hs := Below.size hB
                exact ⟨_, rfl, ⟨A2, c2, rfl, hk.keep (Nat.le_refl _) fun z hz _ => ⟨rfl, hz.elim Or.inl fun h => Or.inr (Nat.le_trans hs h)⟩⟩, hb⟩
              · intro a W hB hF hD
                obtain ⟨A2, c2, h, hk⟩ : ∃ A2 c2, a.tmps[49]?.getD undef = .agg #[.int .i64 y.k, .string ⟨y.t.toArray⟩, .int .i64 y.o, .slice A2 y.kids.len c2] ∧ KS W (fun z => S z ∨ wr.heap.size ≤ z) y.kids A2 c2 := dep_of hD 13 49 (by kernel_rfl) rfl rfl
                go_simp
                exact ⟨_, rfl, ⟨A2, c2, W.heap.size, rfl, heap_alloc_new W _, hk.bh (bh_alloc (BH.refl _) _)⟩, bh_alloc (BH.refl _) _⟩
              · intro a W hB hF hD
                have p : a.tmps[37]?.getD undef = .slice A5 acc.len c5 := dep_of hD 1 37 (by kernel_rfl) rfl rfl
                obtain ⟨A2, c2, g2, h, h2, hk⟩ : ∃ A2 c2 g2, a.tmps[50]?.getD undef = .slice (some ⟨g2, 0, none⟩) 1 1 ∧ W.heap[g2]? = some (.cells #[.int .i64 y.k, .string ⟨y.t.toArray⟩, .int .i64 y.o, .slice A2 y.kids.len c2] 25 (0, 0)) ∧ KS W (fun z => S z ∨ wr.heap.size ≤ z) y.kids A2 c2 := dep_of hD 14 50 (by kernel_rfl) rfl rfl
                have hrW := HRQ.out.after hB
                refine wp_rea (by rfl) (.tmp 37) (.tmp 50) _ (by rfl) w4.heap.size 25 i0 _ 4 56 Tryd.underlying23 hi hz0 hz1 hz2 rfl (by decide) (.slice A5 acc.len c5) acc.len xs ((Array.getD_eq_getD_getElem? ..).trans p) hrW.own (some ⟨g2, 0, none⟩) 1 1 [.int .i64 y.k, .string ⟨y.t.toArray⟩, .int .i64 y.o, .slice A2 y.kids.len c2] ((Array.getD_eq_getD_getElem? ..).trans h) (rea_one h2) (by have := HAi.out; unfold maxLen; omega) (by have := HAi.out; omega) hrW.size ?_
                intro v1 w5 ho hg ha
                obtain ⟨hM5, hrq⟩ := HRQ.out.push2 hB hk hg ha ho
                exact ⟨v1, rfl, hM5, _, hrq⟩
              · intro a W hF
                have h := same_of hF 7 (by kernel_rfl)
                go_simp
                exact ⟨_, rfl, rfl⟩
              · intro a W hF hD
                have p : a.tmps[52]?.getD undef = .pointer (some ⟨w.heap.size + 1 + 1 + 1, 3, none⟩) := depq_of hD 16 52 rfl (by kernel_rfl) rfl rfl
                obtain ⟨hM5, xs', hrq⟩ : _ ∧ ∃ xs', RQ w w4 (W.setCell ⟨w.heap.size + 3, 3, none⟩ (a.tmps[51]?.getD undef)) S (w.heap.size + 3) 5 o t (a.tmps[51]?.getD undef) (acc.app (.one y.k y.t y.kids y.o)) xs' := depq_of hD 15 51 rfl (by kernel_rfl) rfl rfl
                obtain ⟨v1, hv1⟩ : ∃ v1, a.tmps[51]?.getD undef = v1 := ⟨_, rfl⟩
                rw [hv1] at hrq
                obtain ⟨A6, c6, rfl, hc6⟩ := own_shape hrq.own
                obtain ⟨c0, c1, c2, c3, z0, z1, z2, z3⟩ := row4 hM5
                have HRq := Lib.hid hrq
                clear hrq hM5 hc6
                go_simp
                exact ⟨_, _, HRq.out⟩
            · intro a W hF hR
              have h8 := same_of hF 8 (by kernel_rfl)
              obtain ⟨v', xs', hrq⟩ := hR
              have HRq := Lib.hid hrq
              have HA := Lib.hid (Frm.act hF)
              clear hrq hF h8
              simp only [Exit.inBlock, Exit.then]
              apply_assumption
              refine Met.intro ?_
              go_step
              (repeat apply Exists.intro)
              refine ⟨?relb, ?eqb⟩
              case eqb => exact HA.out.trans rfl
              refine ⟨rfl, _, _, _, HRq.out, by rw [Fo.len_app, HAi.out]; rfl, Lib.hid ?_⟩
              have h := hmk.out
              rw [repL_cons, HY.out] at h
              rw [← h, Fo.app_app]
              rfl
          case rest =>
            obtain ⟨rfl, v', acc', xs', hrq, hlen, hmk'⟩ := hcut
            have HRq := Lib.hid (And.intro hrq hlen)
            clear hrq hlen
            go_wp2_with (fail)
            exact ⟨⟨i + 1, r1, _, _, _, rfl, HSuf.out.next, HRq.out.1, HRq.out.2, hmk'⟩, by simp; omega⟩
    · have t1 : (k == 5) = false := by simpa using hk
      clear hfr hk
      go_enter Tryd.func30, Tryd.ntmps30
      go_wp2_with (fail)
      generalize hw4 : (((w.alloc (.cells #[.int .i64 k, .string ⟨t.toArray⟩, .int .i64 o, .slice A L c] 25)).alloc (.cells #[.int .i64 xk, .string ⟨xt.toArray⟩, .int .i64 xo, .slice A' xkids.len c'] 25)).alloc (.cells #[.int .i64 0, .string ⟨#[]⟩, .int .i64 0, .slice none 0 0] 25)).alloc (.cells #[.int .i64 k, .string ⟨t.toArray⟩, .int .i64 o, .slice none 0 0] 25) = w4
      have hE := four_blocks hw4
      have HE := Lib.hid hE
      clear hw4 hE
      go_loopw [8] (fun iv wr => ∃ (i : Nat) (r : Fo) (v : Value) (acc : Fo) (xs : List Value), iv = .int .i64 (i : Int) ∧ Suf i r kids ∧ RQ w w4 wr S (w.heap.size + 3) k o t v acc xs ∧ acc.len = i ∧ Hid (acc.app (repL (Gs ⟨xk, xt, xkids, xo⟩) shs k i b r) = repL (Gs ⟨xk, xt, xkids, xo⟩) shs k 0 b kids)) (fun iv _ => L - (match iv with | .int _ n => n.toNat | _ => 0))
      case atStart =>
        obtain ⟨e0, e1, e2, e3, hz, hbw⟩ := HE.out
        exact ⟨0, kids, _, .nil, [], rfl, Suf.zero _, ⟨HS.out, hbw, e3, fun x _ _ _ => rfl, World.ownsRow_nil _ _ _ _, rfl, ⟨by omega, by rw [hz]; omega⟩, Nat.le_refl _⟩, rfl, Lib.hid rfl⟩
      case round =>
        obtain ⟨i, r, v, acc, xs, rfl, hsuf, hrq, hai, hmk⟩ := hrel
        have hlen' := hsuf.len
        rw [HL.out] at hlen'
        have HRQ := Lib.hid hrq
        obtain ⟨e0, e1, e2, e3, hz, hbw⟩ := HE.out
        have H0 := Lib.hid ((hrq.old w.heap.size (by omega) (by omega) (by omega)).trans e0)
        have H1 := Lib.hid ((hrq.old (w.heap.size + 1) (by omega) (by omega) (by omega)).trans e1)
        have H2 := Lib.hid ((hrq.old (w.heap.size + 2) (by omega) (by omega) (by omega)).trans e2)
        clear e0 e1 e2 e3 hz hbw
        obtain ⟨A5, c5, rfl, hc5⟩ := own_shape hrq.own
        obtain ⟨b0, b1, b2, b3, y0, y1, y2, y3⟩ := row4 hrq.blkM
        obtain ⟨a0, a1, a2, a3, _⟩ := row4 H0.out
        have HAi := Lib.hid hai
        clear hrq hai hc5
        cases r with
        | nil =>
          simp only [Fo.len] at hlen'
          have hge : decide (i < L) = false := by rw [decide_eq_false_iff_not]; omega
          obtain ⟨n0, n1, n2, n3, v0, v1, v2, v3⟩ := row4 H2.out
          clear hlen' hsuf
          go_wp2_with (fail)
          obtain ⟨m0, m1, m2, m3, _⟩ := row4 (s4 H2.out (.int .i64 k) (.string ⟨t.toArray⟩) (.int .i64 o) (.slice A5 acc.len c5))
          refine bodyPost_ret (v := .agg #[.int .i64 k, .string ⟨t.toArray⟩, .int .i64 o, .slice A5 acc.len c5]) (by simp [results, Tryd.results30, go_sem, m0, m1, m2, m3]) rfl ?_
          have hmk' : acc = repL (Gs ⟨xk, xt, xkids, xo⟩) shs k 0 b kids := by have h := hmk.out; rwa [repL, Fo.app_nil] at h
          rw [← hmk']
          exact SbP.box (x := ⟨k, t, acc, o⟩) (N := w.heap.size + 2) HS.out (by omega) HRQ.out.bel (HRQ.out.out.keep (Nat.le_refl _) fun y hy _ => ⟨rfl, hy.elim (fun h => ⟨.inl h, by have := HS.out y h; omega⟩) fun h => ⟨.inr (by have := HE.out.2.2.2.2.1; omega), by have := HE.out.2.2.2.2.1; omega⟩⟩)
        | cons k1 t1 kids1 o1 r1 =>
          simp only [Fo.len] at hlen'
          obtain ⟨g, off, A1, c1, rfl, hgl, q0, q1, q2, q3, hk1⟩ := HK.out.get hsuf HRQ.out.bel
          have hge : decide ((i : Int) < (L : Int)) = true := by rw [decide_eq_true_eq]; omega
          have hiL : (i : Int) < (L : Int) := by omega
          have hi0 : (0 : Int) ≤ (i : Int) := by omega
          have HK1 := Lib.hid (hk1.below HRQ.out.bel)
          have HSuf := Lib.hid hsuf
          clear hk1 hsuf hgl
          go_upto_block 2 with (fail)
          go_cut [8] (fun s8 wx => s8 = .int .i64 (i : Int) ∧ ∃ (v' : Value) (acc' : Fo) (xs' : List Value), RQ w w4 wx S (w.heap.size + 3) k o t v' acc' xs' ∧ acc'.len = i + 1 ∧ Hid (acc'.app (repL (Gs ⟨xk, xt, xkids, xo⟩) shs k (i + 1) b r1) = repL (Gs ⟨xk, xt, xkids, xo⟩) shs k 0 b kids))
          case first =>
            go_upto_region 11 with (fail)
            obtain ⟨y, hy⟩ : ∃ y, rep1 (Gs ⟨xk, xt, xkids, xo⟩) shs k1 t1 o1 kids1 (aroundB k i b) = y := ⟨_, rfl⟩
            obtain ⟨ab0, ab1⟩ := aroundB_bounds k 0 i
            have hab : aroundB k i b = b + aroundB k i 0 := by
              have := around_add k i 0 b
              rw [Int.zero_add] at this
              omega
            have hkid := HSuf.out.kid.1
            have hrc : ∀ X, BH wr X → Calls Tryd.prog 30 #[.agg #[.int .i64 k1, .string ⟨t1.toArray⟩, .int .i64 o1, .slice A1 kids1.len c1], .agg #[.int .i64 xk, .string ⟨xt.toArray⟩, .int .i64 xo, .slice A' xkids.len c'], .int .i64 (b + aroundB k i 0)] X (SbP X S y) := by
              intro X hX
              have h := HR.out S k1 o1 (aroundB k i b) t1 kids1 A1 c1 ⟨xk, xt, xkids, xo⟩ A' c' X (fun z hz => Nat.lt_of_lt_of_le (HS.out z hz) (Below.size (BH.trans HRQ.out.bel hX))) (by omega) (by omega) (HK1.out.below hX) (HX.out.bh (BH.trans HRQ.out.bel hX)) (by omega) (by omega) (by rw [← around_add]; exact closedL_suf (closed_kids HCl.out) HSuf.out)
              rw [hy, hab] at h
              exact h
            obtain ⟨d, hd⟩ : ∃ d, aroundB k i 0 = d := ⟨_, rfl⟩
            rw [hd] at hrc ab0 ab1
            have HRc := Lib.hid hrc
            have HD := Lib.hid hd
            have HY := Lib.hid hy
            have hwd : IntKind.i64.wrap (b + d) = b + d := (IntKind.wrap_i64 _).trans (by omega)
            have Hwd := Lib.hid hwd
            clear hrc hd hy hab hwd hkid a0 a1 a2 a3 b0 b1 b2 b3 y0 y1 y2 y3
            refine wp_region_late (by kernel_rfl) (evV ⟨wr, S, w.heap.size, w.heap.size + 1 + 1 + 1, i, b, d, .slice A5 acc.len c5, .slice (some ⟨g, off, none⟩) L c, g, off, .agg #[.int .i64 k1, .string ⟨t1.toArray⟩, .int .i64 o1, .slice A1 kids1.len c1], .agg #[.int .i64 xk, .string ⟨xt.toArray⟩, .int .i64 xo, .slice A' xkids.len c'], .agg #[.int .i64 k, .string ⟨t.toArray⟩, .int .i64 o, .slice (some ⟨g, off, none⟩) L c], y,
              fun v W => W.heap[w.heap.size + 3]? = some (.cells #[.int .i64 k, .string ⟨t.toArray⟩, .int .i64 o, .slice A5 acc.len c5] 25 (0, 0)) ∧ ∃ xs', RQ w w4 (W.setCell ⟨w.heap.size + 3, 3, none⟩ v) S (w.heap.size + 3) k o t v (acc.app (.one y.k y.t y.kids y.o)) xs'⟩)
              (fun W => ∃ v' xs', RQ w w4 W S (w.heap.size + 3) k o t v' (acc.app (.one y.k y.t y.kids y.o)) xs') evK 15 17 (evV_bh _) (evV_free _) (by kernel_rfl) ?_ ?_
            · refine ⟨?_, ?_, ?_, ?_, ?_, ?_, ?_, ?_, ?_, ?_, ?_, ?_, ?_, ?_, ?_, ?_, ?_, ?_, trivial⟩
              · intro a W hF
                have h := same_of hF 7 (by kernel_rfl)
                go_simp
                exact ⟨_, rfl, rfl⟩
              · intro a W hB hF hD
                have p : a.tmps[36]?.getD undef = .pointer (some ⟨w.heap.size + 1 + 1 + 1, 3, none⟩) := dep_of hD 0 36 (by kernel_rfl) rfl rfl
                obtain ⟨c0, c1, c2, c3, _⟩ := row4 ((Below.block hB _ (heap_lt HRQ.out.blkM)).trans HRQ.out.blkM)
                go_simp
                exact ⟨_, rfl, rfl, BH.refl _⟩
              · intro a W hF
                have h := same_of hF 3 (by kernel_rfl)
                go_simp
                exact ⟨_, rfl, rfl⟩
              · intro a W hB hF hD
                have p : a.tmps[38]?.getD undef = .pointer (some ⟨w.heap.size, 3, none⟩) := dep_of hD 2 38 (by kernel_rfl) rfl rfl
                obtain ⟨c0, c1, c2, c3, _⟩ := row4 ((Below.block hB _ (heap_lt H0.out)).trans H0.out)
                go_simp
                exact ⟨_, rfl, rfl, BH.refl _⟩
              · intro a W hF
                have h := same_of hF 8 (by kernel_rfl)
                go_simp
                exact ⟨_, rfl, rfl⟩
              · intro a W hB hF hD
                have p : a.tmps[39]?.getD undef = .slice (some ⟨g, off, none⟩) L c := dep_of hD 3 39 (by kernel_rfl) rfl rfl
                have p' : a.tmps[40]?.getD undef = .int .i64 (i : Int) := dep_of hD 4 40 (by kernel_rfl) rfl rfl
                go_simp
                exact ⟨_, rfl, rfl, BH.refl _⟩
              · intro a W hB hF hD
                have p : a.tmps[41]?.getD undef = .pointer (some ⟨g, off + i * 4, none⟩) := dep_of hD 5 41 (by kernel_rfl) rfl rfl
                have r0 := hB.cell q0
                have r1 := hB.cell q1
                have r2 := hB.cell q2
                have r3 := hB.cell q3
                go_simp
                exact ⟨_, rfl, rfl, BH.refl _⟩
              · intro a W hB hF hD
                have h := same_of hF 4 (by kernel_rfl)
                obtain ⟨c0, c1, c2, c3, _⟩ := row4 ((Below.block hB _ (heap_lt H1.out)).trans H1.out)
                go_simp
                exact ⟨_, rfl, rfl, BH.refl _⟩
              · intro a W hF
                have h := same_of hF 2 (by kernel_rfl)
                go_simp
                exact ⟨_, rfl, rfl⟩
              · intro a W hB hF hD
                have h := same_of hF 3 (by kernel_rfl)
                obtain ⟨c0, c1, c2, c3, _⟩ := row4 ((Below.block hB _ (heap_lt H0.out)).trans H0.out)
                go_simp
                exact ⟨_, rfl, rfl, BH.refl _⟩
              · intro a W hF
                have h := same_of hF 8 (by kernel_rfl)
                go_simp
                exact ⟨_, rfl, rfl⟩
              · intro a W hB hF hD
                have p : a.tmps[45]?.getD undef = .agg #[.int .i64 k, .string ⟨t.toArray⟩, .int .i64 o, .slice (some ⟨g, off, none⟩) L c] := dep_of hD 9 45 (by kernel_rfl) rfl rfl
                have p' : a.tmps[46]?.getD undef = .int .i64 (i : Int) := dep_of hD 10 46 (by kernel_rfl) rfl rfl
                go_simp
                refine (binders_any k o i t (some ⟨g, off, none⟩) L c _).mono ?_
                rintro e u ⟨rfl, hb⟩
                exact ⟨_, rfl, congrArg (Value.int .i64) HD.out, hb⟩
              · intro a W hB hF hD
                have p : a.tmps[44]?.getD undef = .int .i64 b := dep_of hD 8 44 (by kernel_rfl) rfl rfl
                have p' : a.tmps[47]?.getD undef = .int .i64 d := dep_of hD 11 47 (by kernel_rfl) rfl rfl
                have hwd := Hwd.out
                go_simp
                exact ⟨_, rfl, rfl, BH.refl _⟩
              · intro a W hB hF hD
                have p : a.tmps[42]?.getD undef = .agg #[.int .i64 k1, .string ⟨t1.toArray⟩, .int .i64 o1, .slice A1 kids1.len c1] := dep_of hD 6 42 (by kernel_rfl) rfl rfl
                have p' : a.tmps[43]?.getD undef = .agg #[.int .i64 xk, .string ⟨xt.toArray⟩, .int .i64 xo, .slice A' xkids.len c'] := dep_of hD 7 43 (by kernel_rfl) rfl rfl
                have p'' : a.tmps[48]?.getD undef = .int .i64 (b + d) := dep_of hD 12 48 (by kernel_rfl) rfl rfl
                go_simp
                refine (HRc.out W hB).mono ?_
                rintro e u ⟨A2, c2, rfl, hk, hb⟩
                have hs := Below.size hB
                exact ⟨_, rfl, ⟨A2, c2, rfl, hk.keep (Nat.le_refl _) fun z hz _ => ⟨rfl, hz.elim Or.inl fun h => Or.inr (Nat.le_trans hs h)⟩⟩, hb⟩
              · intro a W hB hF hD
                obtain ⟨A2, c2, h, hk⟩ : ∃ A2 c2, a.tmps[49]?.getD undef = .agg #[.int .i64 y.k, .string ⟨y.t.toArray⟩, .int .i64 y.o, .slice A2 y.kids.len c2] ∧ KS W (fun z => S z ∨ wr.heap.size ≤ z) y.kids A2 c2 := dep_of hD 13 49 (by kernel_rfl) rfl rfl
                go_simp
                exact ⟨_, rfl, ⟨A2, c2, W.heap.size, rfl, heap_alloc_new W _, hk.bh (bh_alloc (BH.refl _) _)⟩, bh_alloc (BH.refl _) _⟩
              · intro a W hB hF hD
                have p : a.tmps[37]?.getD undef = .slice A5 acc.len c5 := dep_of hD 1 37 (by kernel_rfl) rfl rfl
                obtain ⟨A2, c2, g2, h, h2, hk⟩ : ∃ A2 c2 g2, a.tmps[50]?.getD undef = .slice (some ⟨g2, 0, none⟩) 1 1 ∧ W.heap[g2]? = some (.cells #[.int .i64 y.k, .string ⟨y.t.toArray⟩, .int .i64 y.o, .slice A2 y.kids.len c2] 25 (0, 0)) ∧ KS W (fun z => S z ∨ wr.heap.size ≤ z) y.kids A2 c2 := dep_of hD 14 50 (by kernel_rfl) rfl rfl
                have hrW := HRQ.out.after hB
                refine wp_rea (by rfl) (.tmp 37) (.tmp 50) _ (by rfl) w4.heap.size 25 i0 _ 4 56 Tryd.underlying23 hi hz0 hz1 hz2 rfl (by decide) (.slice A5 acc.len c5) acc.len xs ((Array.getD_eq_getD_getElem? ..).trans p) hrW.own (some ⟨g2, 0, none⟩) 1 1 [.int .i64 y.k, .string ⟨y.t.toArray⟩, .int .i64 y.o, .slice A2 y.kids.len c2] ((Array.getD_eq_getD_getElem? ..).trans h) (rea_one h2) (by have := HAi.out; unfold maxLen; omega) (by have := HAi.out; omega) hrW.size ?_
                intro v1 w5 ho hg ha
                obtain ⟨hM5, hrq⟩ := HRQ.out.push2 hB hk hg ha ho
                exact ⟨v1, rfl, hM5, _, hrq⟩
              · intro a W hF
                have h := same_of hF 7 (by kernel_rfl)
                go_simp
                exact ⟨_, rfl, rfl⟩
              · intro a W hF hD
                have p : a.tmps[52]?.getD undef = .pointer (some ⟨w.heap.size + 1 + 1 + 1, 3, none⟩) := depq_of hD 16 52 rfl (by kernel_rfl) rfl rfl
                obtain ⟨hM5, xs', hrq⟩ : _ ∧ ∃ xs', RQ w w4 (W.setCell ⟨w.heap.size + 3, 3, none⟩ (a.tmps[51]?.getD undef)) S (w.heap.size + 3) k o t (a.tmps[51]?.getD undef) (acc.app (.one y.k y.t y.kids y.o)) xs' := depq_of hD 15 51 rfl (by kernel_rfl) rfl rfl
                obtain ⟨v1, hv1⟩ : ∃ v1, a.tmps[51]?.getD undef = v1 := ⟨_, rfl⟩
                rw [hv1] at hrq
                obtain ⟨A6, c6, rfl, hc6⟩ := own_shape hrq.own
                obtain ⟨c0, c1, c2, c3, z0, z1, z2, z3⟩ := row4 hM5
                have HRq := Lib.hid hrq
                clear hrq hM5 hc6
                go_simp
                exact ⟨_, _, HRq.out⟩
            · intro a W hF hR
              have h8 := same_of hF 8 (by kernel_rfl)
              obtain ⟨v', xs', hrq⟩ := hR
              have HRq := Lib.hid hrq
              have HA := Lib.hid (Frm.act hF)
              clear hrq hF h8
              simp only [Exit.inBlock, Exit.then]
              apply_assumption
              refine Met.intro ?_
              go_step
              (repeat apply Exists.intro)
              refine ⟨?relc, ?eqc⟩
              case eqc => exact HA.out.trans rfl
              refine ⟨rfl, _, _, _, HRq.out, by rw [Fo.len_app, HAi.out]; rfl, Lib.hid ?_⟩
              have h := hmk.out
              rw [repL_cons, HY.out] at h
              rw [← h, Fo.app_app]
              rfl
          case rest =>
            obtain ⟨rfl, v', acc', xs', hrq, hlen, hmk'⟩ := hcut
            have HRq := Lib.hid (And.intro hrq hlen)
            clear hrq hlen
            go_wp2_with (fail)
            exact ⟨⟨i + 1, r1, _, _, _, rfl, HSuf.out.next, HRq.out.1, HRq.out.2, hmk'⟩, by simp; omega⟩

theorem rsub_any {V : Int} (hV0 : 0 ≤ V) (hV1 : V ≤ 4294967296) : ∀ M, RST V M := by
  intro M
  induction M with
  | zero => intro S k o b t kids A c x A' c' w hS hM; exact absurd hM (Nat.not_lt_zero _)
  | succ M ih => exact rsub_step hV0 hV1 M ih
end Go.Proofs.YtddfpbcdopcdhaaDoor
namespace Go.Proofs.YtddfpbcdopcdhaaDoor
open Go.RowKit Sx

/-- what telref1.instantiate answers: blocks of S, where the terms lie, are shared -/
def RIT (V : Int) (M : Nat) : Prop :=
  ∀ (S : Nat → Prop) (k o b : Int) (t : List UInt8) (kids : Fo) (A : Option Addr) (c : Nat) (x : Fo) (A' : Option Addr) (c' : Nat) (w : World), (∀ y, S y → y < w.heap.size) → fsize kids < M → fsize kids ≤ 4294967296 → x.len ≤ 1099511627776 → KT w kids A c → KS w S x A' c' → 0 ≤ b → b + fsize kids ≤ 4294967296 → closed1 k o kids (b + V) = true →
    Calls Tryd.prog 32 #[.agg #[.int .i64 k, .string ⟨t.toArray⟩, .int .i64 o, .slice A kids.len c], .slice A' x.len c', .int .i64 b] w (SbP w S (rep1 (Gi x) shi k t o kids b))

theorem three_blocks {w w4 : World} {c0 c1 c2 : Array Value} {T0 T1 T2 : TypeId} (h : ((w.alloc (.cells c0 T0)).alloc (.cells c1 T1)).alloc (.cells c2 T2) = w4) :
    w4.heap[w.heap.size]? = some (.cells c0 T0 (0, 0)) ∧ w4.heap[w.heap.size + 1]? = some (.cells c1 T1 (0, 0)) ∧ w4.heap[w.heap.size + 2]? = some (.cells c2 T2 (0, 0)) ∧ w4.heap.size = w.heap.size + 3 ∧ BH w w4 := by
  subst h
  have f1 := bh_alloc (BH.refl w) (.cells c0 T0)
  have g1 := heap_alloc_new w (.cells c0 T0)
  generalize hW1 : w.alloc (.cells c0 T0) = W1 at *
  have z1 : W1.heap.size = w.heap.size + 1 := by rw [← hW1]; simp
  have f2 := bh_alloc (BH.refl W1) (.cells c1 T1)
  have g2 := heap_alloc_new W1 (.cells c1 T1)
  generalize hW2 : W1.alloc (.cells c1 T1) = W2 at *
  have z2 : W2.heap.size = w.heap.size + 2 := by rw [← hW2]; simp [z1]
  have f3 := bh_alloc (BH.refl W2) (.cells c2 T2)
  have g3 := heap_alloc_new W2 (.cells c2 T2)
  rw [z1] at g2
  rw [z2] at g3
  have h123 := BH.trans f2 f3
  exact ⟨(Below.block h123 _ (heap_lt g1)).trans g1, (Below.block f3 _ (heap_lt g2)).trans g2, g3, by simp [z2], BH.trans f1 h123⟩

set_option maxHeartbeats 8000000 in
set_option maxRecDepth 100000 in
theorem rins_step {V : Int} (hV0 : 0 ≤ V) (hV1 : V ≤ 4294967296) (M : Nat) (hR : RIT V M) : RIT V (M + 1) := by
  intro S k o b t kids A c x A' c' w hS hM hN hNx hK hX hb0 hb1 hcl
  have HR := Lib.hid hR
  have HK := Lib.hid hK
  have HX := Lib.hid hX
  have HS := Lib.hid hS
  have HCl := Lib.hid hcl
  obtain ⟨i0, hi, hz0, hz1, hz2⟩ := info_parts infoTg
  have hll := len_le_fsize kids
  clear hR hK hX hS hcl
  obtain ⟨L, hL⟩ : ∃ L, kids.len = L := ⟨_, rfl⟩
  rw [hL] at hll ⊢
  have HL := Lib.hid hL
  clear hL
  obtain ⟨NX, hLx⟩ : ∃ NX, x.len = NX := ⟨_, rfl⟩
  rw [hLx] at hNx ⊢
  have HLx := Lib.hid hLx
  clear hLx
  cases hfr : freeB k o b with
  | true =>
    obtain ⟨rfl, hbo, hov⟩ := free_in HCl.out hfr
    have t0 : decide (b ≤ o) = true := by rw [decide_eq_true_eq]; exact hbo
    obtain ⟨j, hj⟩ : ∃ j : Nat, o - b = (j : Int) := ⟨(o - b).toNat, by omega⟩
    have hGi : Gi x (o - b) = nthF x j := by rw [hj]; simp [Gi]
    cases hnt : nthF x j with
    | some z =>
      obtain ⟨zk, zt, zkids, zo⟩ := z
      have hEq := rep1_some (G := Gi x) (sh := shi) (t := t) (kids := kids) hfr (hGi.trans hnt)
      rw [hEq]
      have hlt := nthF_lt x j _ hnt
      rw [HLx.out] at hlt
      obtain ⟨r, hsuf⟩ := nthF_suf x j _ hnt
      have f1 := bh_alloc (BH.refl w) (.cells #[.int .i64 5, .string ⟨t.toArray⟩, .int .i64 o, .slice A L c] 25)
      have f2 := bh_alloc f1 (.cells #[.int .i64 0, .string ⟨#[]⟩, .int .i64 0, .slice none 0 0] 25)
      obtain ⟨g, off, A1, c1, rfl, hgl, q0, q1, q2, q3, hk1⟩ := HX.out.get hsuf f2
      have hjN : (j : Int) < (NX : Int) := by omega
      have hj0 : (0 : Int) ≤ (j : Int) := by omega
      have t1 : decide ((j : Int) < (NX : Int)) = true := by rw [decide_eq_true_eq]; omega
      have f3 := bh_alloc f1 (.cells #[.int .i64 zk, .string ⟨zt.toArray⟩, .int .i64 zo, .slice A1 zkids.len c1] 25)
      have g3 := heap_alloc_new (w.alloc (.cells #[.int .i64 5, .string ⟨t.toArray⟩, .int .i64 o, .slice A L c] 25)) (.cells #[.int .i64 zk, .string ⟨zt.toArray⟩, .int .i64 zo, .slice A1 zkids.len c1] 25)
      rw [World.size_alloc] at g3
      have HE := Lib.hid g3
      have HF := Lib.hid f3
      have HK1 := Lib.hid hk1
      clear hEq hfr f1 f2 f3 g3 hk1 hsuf hGi hnt
      go_enter Tryd.func32, Tryd.ntmps32
      go_wp2_with (fail)
      obtain ⟨m0, m1, m2, m3, _⟩ := row4 HE.out
      exact bodyPost_ret (v := .agg #[.int .i64 zk, .string ⟨zt.toArray⟩, .int .i64 zo, .slice A1 zkids.len c1]) (by simp [results, Tryd.results32, go_sem, m0, m1, m2, m3]) rfl ⟨A1, c1, rfl, (HK1.out.bh HF.out).keep (Nat.le_refl _) fun y hy _ => ⟨rfl, .inl hy⟩, HF.out⟩
    | none =>
      have hEq := rep1_none (G := Gi x) (sh := shi) (t := t) (kids := kids) hfr (hGi.trans hnt)
      rw [hEq, show shi o = o from rfl]
      have hge0 := nthF_none x j hnt
      rw [HLx.out] at hge0
      have t1 : decide ((j : Int) < (NX : Int)) = false := by rw [decide_eq_false_iff_not]; omega
      have t2 : decide (j < NX) = false := by rw [decide_eq_false_iff_not]; omega
      have Hj := Lib.hid hj
      clear hEq hfr hGi hnt
      go_enter Tryd.func32, Tryd.ntmps32
      go_wp2_with (fail)
      clear hj t1 t2 t0
      generalize hw4 : ((w.alloc (.cells #[.int .i64 5, .string ⟨t.toArray⟩, .int .i64 o, .slice A L c] 25)).alloc (.cells #[.int .i64 0, .string ⟨#[]⟩, .int .i64 0, .slice none 0 0] 25)).alloc (.cells #[.int .i64 5, .string ⟨t.toArray⟩, .int .i64 o, .slice none 0 0] 25) = w4
      have hE := three_blocks hw4
      have HE := Lib.hid hE
      clear hw4 hE
      go_loopw [8] (fun iv wr => ∃ (i : Nat) (r : Fo) (v : Value) (acc : Fo) (xs : List Value), iv = .int .i64 (i : Int) ∧ Suf i r kids ∧ RQ w w4 wr S (w.heap.size + 2) 5 o t v acc xs ∧ acc.len = i ∧ Hid (acc.app (repL (Gi x) shi 5 i b r) = repL (Gi x) shi 5 0 b kids)) (fun iv _ => L - (match iv with | .int _ n => n.toNat | _ => 0))
      case atStart =>
        obtain ⟨e0, e1, e3, hz, hbw⟩ := HE.out
        exact ⟨0, kids, _, .nil, [], rfl, Suf.zero _, ⟨HS.out, hbw, e3, fun x _ _ _ => rfl, World.ownsRow_nil _ _ _ _, rfl, ⟨by omega, by rw [hz]; omega⟩, Nat.le_refl _⟩, rfl, Lib.hid rfl⟩
      case round =>
        obtain ⟨i, r, v, acc, xs, rfl, hsuf, hrq, hai, hmk⟩ := hrel
        have hlen' := hsuf.len
        rw [HL.out] at hlen'
        have HRQ := Lib.hid hrq
        obtain ⟨e0, e1, e3, hz, hbw⟩ := HE.out
        have H0 := Lib.hid ((hrq.old w.heap.size (by omega) (by omega) (by omega)).trans e0)
        have H1 := Lib.hid ((hrq.old (w.heap.size + 1) (by omega) (by omega) (by omega)).trans e1)
        clear e0 e1 e3 hz hbw
        obtain ⟨A5, c5, rfl, hc5⟩ := own_shape hrq.own
        obtain ⟨b0, b1, b2, b3, y0, y1, y2, y3⟩ := row4 hrq.blkM
        obtain ⟨a0, a1, a2, a3, _⟩ := row4 H0.out
        have HAi := Lib.hid hai
        clear hrq hai hc5
        cases r with
        | nil =>
          simp only [Fo.len] at hlen'
          have hge : decide (i < L) = false := by rw [decide_eq_false_iff_not]; omega
          obtain ⟨n0, n1, n2, n3, v0, v1, v2, v3⟩ := row4 H1.out
          clear hlen' hsuf
          go_wp2_with (fail)
          obtain ⟨m0, m1, m2, m3, _⟩ := row4 (s4 H1.out (.int .i64 5) (.string ⟨t.toArray⟩) (.int .i64 o) (.slice A5 acc.len c5))
          refine bodyPost_ret (v := .agg #[.int .i64 5, .string ⟨t.toArray⟩, .int .i64 o, .slice A5 acc.len c5]) (by simp [results, Tryd.results32, go_sem, m0, m1, m2, m3]) rfl ?_
          have hmk' : acc = repL (Gi x) shi 5 0 b kids := by have h := hmk.out; rwa [repL, Fo.app_nil] at h
          rw [← hmk']
          exact SbP.box (x := ⟨5, t, acc, o⟩) (N := w.heap.size + 1) HS.out (by omega) HRQ.out.bel (HRQ.out.out.keep (Nat.le_refl _) fun y hy _ => ⟨rfl, hy.elim (fun h => ⟨.inl h, by have := HS.out y h; omega⟩) fun h => ⟨.inr (by have := HE.out.2.2.2.1; omega), by have := HE.out.2.2.2.1; omega⟩⟩)
        | cons k1 t1 kids1 o1 r1 =>
          simp only [Fo.len] at hlen'
          obtain ⟨g, off, A1, c1, rfl, hgl, q0, q1, q2, q3, hk1⟩ := HK.out.get hsuf HRQ.out.bel
          have hge : decide ((i : Int) < (L : Int)) = true := by rw [decide_eq_true_eq]; omega
          have hiL : (i : Int) < (L : Int) := by omega
          have hi0 : (0 : Int) ≤ (i : Int) := by omega
          have HK1 := Lib.hid (hk1.below HRQ.out.bel)
          have HSuf := Lib.hid hsuf
          clear hk1 hsuf hgl
          go_upto_block 1 with (fail)
          go_cut [8] (fun s8 wx => s8 = .int .i64 (i : Int) ∧ ∃ (v' : Value) (acc' : Fo) (xs' : List Value), RQ w w4 wx S (w.heap.size + 2) 5 o t v' acc' xs' ∧ acc'.len = i + 1 ∧ Hid (acc'.app (repL (Gi x) shi 5 (i + 1) b r1) = repL (Gi x) shi 5 0 b kids))
          case first =>
            go_upto_region 8 with (fail)
            obtain ⟨y, hy⟩ : ∃ y, rep1 (Gi x) shi k1 t1 o1 kids1 (aroundB 5 i b) = y := ⟨_, rfl⟩
            obtain ⟨ab0, ab1⟩ := aroundB_bounds 5 0 i
            have hab : aroundB 5 i b = b + aroundB 5 i 0 := by
              have := around_add 5 i 0 b
              rw [Int.zero_add] at this
              omega
            have hkid := HSuf.out.kid.1
            have hrc : ∀ X, BH wr X → Calls Tryd.prog 32 #[.agg #[.int .i64 k1, .string ⟨t1.toArray⟩, .int .i64 o1, .slice A1 kids1.len c1], .slice A' NX c', .int .i64 (b + aroundB 5 i 0)] X (SbP X S y) := by
              intro X hX
              have h := HR.out S k1 o1 (aroundB 5 i b) t1 kids1 A1 c1 x A' c' X (fun z hz => Nat.lt_of_lt_of_le (HS.out z hz) (Below.size (BH.trans HRQ.out.bel hX))) (by omega) (by omega) (by rw [HLx.out]; exact hNx) (HK1.out.below hX) (HX.out.bh (BH.trans HRQ.out.bel hX)) (by omega) (by omega) (by rw [← around_add]; exact closedL_suf (closed_kids HCl.out) HSuf.out)
              rw [hy, hab, HLx.out] at h
              exact h
            obtain ⟨d, hd⟩ : ∃ d, aroundB 5 i 0 = d := ⟨_, rfl⟩
            rw [hd] at hrc ab0 ab1
            have HRc := Lib.hid hrc
            have HD := Lib.hid hd
            have HY := Lib.hid hy
            have hwd : IntKind.i64.wrap (b + d) = b + d := (IntKind.wrap_i64 _).trans (by omega)
            have Hwd := Lib.hid hwd
            clear hrc hd hy hab hwd hkid a0 a1 a2 a3 b0 b1 b2 b3 y0 y1 y2 y3
            refine wp_region_late (by kernel_rfl) (evV ⟨wr, S, w.heap.size, w.heap.size + 1 + 1, i, b, d, .slice A5 acc.len c5, .slice (some ⟨g, off, none⟩) L c, g, off, .agg #[.int .i64 k1, .string ⟨t1.toArray⟩, .int .i64 o1, .slice A1 kids1.len c1], .slice A' NX c', .agg #[.int .i64 5, .string ⟨t.toArray⟩, .int .i64 o, .slice (some ⟨g, off, none⟩) L c], y,
              fun v W => W.heap[w.heap.size + 2]? = some (.cells #[.int .i64 5, .string ⟨t.toArray⟩, .int .i64 o, .slice A5 acc.len c5] 25 (0, 0)) ∧ ∃ xs', RQ w w4 (W.setCell ⟨w.heap.size + 2, 3, none⟩ v) S (w.heap.size + 2) 5 o t v (acc.app (.one y.k y.t y.kids y.o)) xs'⟩)
              (fun W => ∃ v' xs', RQ w w4 W S (w.heap.size + 2) 5 o t v' (acc.app (.one y.k y.t y.kids y.o)) xs') evK 15 17 (evV_bh _) (evV_free _) (by kernel_rfl) ?_ ?_
            · refine ⟨?_, ?_, ?_, ?_, ?_, ?_, ?_, ?_, ?_, ?_, ?_, ?_, ?_, ?_, ?_, ?_, ?_, ?_, trivial⟩
              · intro a W hF
                have h := same_of hF 7 (by kernel_rfl)
                go_simp
                exact ⟨_, rfl, rfl⟩
              · intro a W hB hF hD
                have p : a.tmps[43]?.getD undef = .pointer (some ⟨w.heap.size + 1 + 1, 3, none⟩) := dep_of hD 0 43 (by kernel_rfl) rfl rfl
                obtain ⟨c0, c1, c2, c3, _⟩ := row4 ((Below.block hB _ (heap_lt HRQ.out.blkM)).trans HRQ.out.blkM)
                go_simp
                exact ⟨_, rfl, rfl, BH.refl _⟩
              · intro a W hF
                have h := same_of hF 3 (by kernel_rfl)
                go_simp
                exact ⟨_, rfl, rfl⟩
              · intro a W hB hF hD
                have p : a.tmps[45]?.getD undef = .pointer (some ⟨w.heap.size, 3, none⟩) := dep_of hD 2 45 (by kernel_rfl) rfl rfl
                obtain ⟨c0, c1, c2, c3, _⟩ := row4 ((Below.block hB _ (heap_lt H0.out)).trans H0.out)
                go_simp
                exact ⟨_, rfl, rfl, BH.refl _⟩
              · intro a W hF
                have h := same_of hF 8 (by kernel_rfl)
                go_simp
                exact ⟨_, rfl, rfl⟩
              · intro a W hB hF hD
                have p : a.tmps[46]?.getD undef = .slice (some ⟨g, off, none⟩) L c := dep_of hD 3 46 (by kernel_rfl) rfl rfl
                have p' : a.tmps[47]?.getD undef = .int .i64 (i : Int) := dep_of hD 4 47 (by kernel_rfl) rfl rfl
                go_simp
                exact ⟨_, rfl, rfl, BH.refl _⟩
              · intro a W hB hF hD
                have p : a.tmps[48]?.getD undef = .pointer (some ⟨g, off + i * 4, none⟩) := dep_of hD 5 48 (by kernel_rfl) rfl rfl
                have r0 := hB.cell q0
                have r1 := hB.cell q1
                have r2 := hB.cell q2
                have r3 := hB.cell q3
                go_simp
                exact ⟨_, rfl, rfl, BH.refl _⟩
              · intro a W hB hF hD
                have h := same_of hF 1 (by kernel_rfl)
                go_simp
                exact ⟨_, rfl, rfl, BH.refl _⟩
              · intro a W hF
                have h := same_of hF 2 (by kernel_rfl)
                go_simp
                exact ⟨_, rfl, rfl⟩
              · intro a W hB hF hD
                have h := same_of hF 3 (by kernel_rfl)
                obtain ⟨c0, c1, c2, c3, _⟩ := row4 ((Below.block hB _ (heap_lt H0.out)).trans H0.out)
                go_simp
                exact ⟨_, rfl, rfl, BH.refl _⟩
              · intro a W hF
                have h := same_of hF 8 (by kernel_rfl)
                go_simp
                exact ⟨_, rfl, rfl⟩
              · intro a W hB hF hD
                have p : a.tmps[52]?.getD undef = .agg #[.int .i64 5, .string ⟨t.toArray⟩, .int .i64 o, .slice (some ⟨g, off, none⟩) L c] := dep_of hD 9 52 (by kernel_rfl) rfl rfl
                have p' : a.tmps[53]?.getD undef = .int .i64 (i : Int) := dep_of hD 10 53 (by kernel_rfl) rfl rfl
                go_simp
                refine (binders_any 5 o i t (some ⟨g, off, none⟩) L c _).mono ?_
                rintro e u ⟨rfl, hb⟩
                exact ⟨_, rfl, congrArg (Value.int .i64) HD.out, hb⟩
              · intro a W hB hF hD
                have p : a.tmps[51]?.getD undef = .int .i64 b := dep_of hD 8 51 (by kernel_rfl) rfl rfl
                have p' : a.tmps[54]?.getD undef = .int .i64 d := dep_of hD 11 54 (by kernel_rfl) rfl rfl
                have hwd := Hwd.out
                go_simp
                exact ⟨_, rfl, rfl, BH.refl _⟩
              · intro a W hB hF hD
                have p : a.tmps[49]?.getD undef = .agg #[.int .i64 k1, .string ⟨t1.toArray⟩, .int .i64 o1, .slice A1 kids1.len c1] := dep_of hD 6 49 (by kernel_rfl) rfl rfl
                have p' : a.tmps[50]?.getD undef = .slice A' NX c' := dep_of hD 7 50 (by kernel_rfl) rfl rfl
                have p'' : a.tmps[55]?.getD undef = .int .i64 (b + d) := dep_of hD 12 55 (by kernel_rfl) rfl rfl
                go_simp
                refine (HRc.out W hB).mono ?_
                rintro e u ⟨A2, c2, rfl, hk, hb⟩
                have hs := Below.size hB
                exact ⟨_, rfl, ⟨A2, c2, rfl, hk.keep (Nat.le_refl _) fun z hz _ => ⟨rfl, hz.elim Or.inl fun h => Or.inr (Nat.le_trans hs h)⟩⟩, hb⟩
              · intro a W hB hF hD
                obtain ⟨A2, c2, h, hk⟩ : ∃ A2 c2, a.tmps[56]?.getD undef = .agg #[.int .i64 y.k, .string ⟨y.t.toArray⟩, .int .i64 y.o, .slice A2 y.kids.len c2] ∧ KS W (fun z => S z ∨ wr.heap.size ≤ z) y.kids A2 c2 := dep_of hD 13 56 (by kernel_rfl) rfl rfl
                go_simp
                exact ⟨_, rfl, ⟨A2, c2, W.heap.size, rfl, heap_alloc_new W _, hk.bh (bh_alloc (BH.refl _) _)⟩, bh_alloc (BH.refl _) _⟩
              · intro a W hB hF hD
                have p : a.tmps[44]?.getD undef = .slice A5 acc.len c5 := dep_of hD 1 44 (by kernel_rfl) rfl rfl
                obtain ⟨A2, c2, g2, h, h2, hk⟩ : ∃ A2 c2 g2, a.tmps[57]?.getD undef = .slice (some ⟨g2, 0, none⟩) 1 1 ∧ W.heap[g2]? = some (.cells #[.int .i64 y.k, .string ⟨y.t.toArray⟩, .int .i64 y.o, .slice A2 y.kids.len c2] 25 (0, 0)) ∧ KS W (fun z => S z ∨ wr.heap.size ≤ z) y.kids A2 c2 := dep_of hD 14 57 (by kernel_rfl) rfl rfl
                have hrW := HRQ.out.after hB
                refine wp_rea (by rfl) (.tmp 44) (.tmp 57) _ (by rfl) w4.heap.size 25 i0 _ 4 56 Tryd.underlying23 hi hz0 hz1 hz2 rfl (by decide) (.slice A5 acc.len c5) acc.len xs ((Array.getD_eq_getD_getElem? ..).trans p) hrW.own (some ⟨g2, 0, none⟩) 1 1 [.int .i64 y.k, .string ⟨y.t.toArray⟩, .int .i64 y.o, .slice A2 y.kids.len c2] ((Array.getD_eq_getD_getElem? ..).trans h) (rea_one h2) (by have := HAi.out; unfold maxLen; omega) (by have := HAi.out; omega) hrW.size ?_
                intro v1 w5 ho hg ha
                obtain ⟨hM5, hrq⟩ := HRQ.out.push2 hB hk hg ha ho
                exact ⟨v1, rfl, hM5, _, hrq⟩
              · intro a W hF
                have h := same_of hF 7 (by kernel_rfl)
                go_simp
                exact ⟨_, rfl, rfl⟩
              · intro a W hF hD
                have p : a.tmps[59]?.getD undef = .pointer (some ⟨w.heap.size + 1 + 1, 3, none⟩) := depq_of hD 16 59 rfl (by kernel_rfl) rfl rfl
                obtain ⟨hM5, xs', hrq⟩ : _ ∧ ∃ xs', RQ w w4 (W.setCell ⟨w.heap.size + 2, 3, none⟩ (a.tmps[58]?.getD undef)) S (w.heap.size + 2) 5 o t (a.tmps[58]?.getD undef) (acc.app (.one y.k y.t y.kids y.o)) xs' := depq_of hD 15 58 rfl (by kernel_rfl) rfl rfl
                obtain ⟨v1, hv1⟩ : ∃ v1, a.tmps[58]?.getD undef = v1 := ⟨_, rfl⟩
                rw [hv1] at hrq
                obtain ⟨A6, c6, rfl, hc6⟩ := own_shape hrq.own
                obtain ⟨c0, c1, c2, c3, z0, z1, z2, z3⟩ := row4 hM5
                have HRq := Lib.hid hrq
                clear hrq hM5 hc6
                go_simp
                exact ⟨_, _, HRq.out⟩
            · intro a W hF hR
              have h8 := same_of hF 8 (by kernel_rfl)
              obtain ⟨v', xs', hrq⟩ := hR
              have HRq := Lib.hid hrq
              have HA := Lib.hid (Frm.act hF)
              clear hrq hF h8
              simp only [Exit.inBlock, Exit.then]
              apply_assumption
              refine Met.intro ?_
              go_step
              (repeat apply Exists.intro)
              refine ⟨?rela, ?eqa⟩
              case eqa => exact HA.out.trans rfl
              refine ⟨rfl, _, _, _, HRq.out, by rw [Fo.len_app, HAi.out]; rfl, Lib.hid ?_⟩
              have h := hmk.out
              rw [repL_cons, HY.out] at h
              rw [← h, Fo.app_app]
              rfl
          case rest =>
            obtain ⟨rfl, v', acc', xs', hrq, hlen, hmk'⟩ := hcut
            have HRq := Lib.hid (And.intro hrq hlen)
            clear hrq hlen
            go_wp2_with (fail)
            exact ⟨⟨i + 1, r1, _, _, _, rfl, HSuf.out.next, HRq.out.1, HRq.out.2, hmk'⟩, by simp; omega⟩
  | false =>
    rw [rep1_bound hfr]
    by_cases hk : k = 5
    · subst hk
      have hbo : o < b := by
        have h := hfr
        simp [freeB] at h
        exact h
      have t0 : decide (b ≤ o) = false := by rw [decide_eq_false_iff_not]; omega
      clear hfr
      go_enter Tryd.func32, Tryd.ntmps32
      go_wp2_with (fail)
      generalize hw4 : ((w.alloc (.cells #[.int .i64 5, .string ⟨t.toArray⟩, .int .i64 o, .slice A L c] 25)).alloc (.cells #[.int .i64 0, .string ⟨#[]⟩, .int .i64 0, .slice none 0 0] 25)).alloc (.cells #[.int .i64 5, .string ⟨t.toArray⟩, .int .i64 o, .slice none 0 0] 25) = w4
      have hE := three_blocks hw4
      have HE := Lib.hid hE
      clear hw4 hE
      go_loopw [8] (fun iv wr => ∃ (i : Nat) (r : Fo) (v : Value) (acc : Fo) (xs : List Value), iv = .int .i64 (i : Int) ∧ Suf i r kids ∧ RQ w w4 wr S (w.heap.size + 2) 5 o t v acc xs ∧ acc.len = i ∧ Hid (acc.app (repL (Gi x) shi 5 i b r) = repL (Gi x) shi 5 0 b kids)) (fun iv _ => L - (match iv with | .int _ n => n.toNat | _ => 0))
      case atStart =>
        obtain ⟨e0, e1, e3, hz, hbw⟩ := HE.out
        exact ⟨0, kids, _, .nil, [], rfl, Suf.zero _, ⟨HS.out, hbw, e3, fun x _ _ _ => rfl, World.ownsRow_nil _ _ _ _, rfl, ⟨by omega, by rw [hz]; omega⟩, Nat.le_refl _⟩, rfl, Lib.hid rfl⟩
      case round =>
        obtain ⟨i, r, v, acc, xs, rfl, hsuf, hrq, hai, hmk⟩ := hrel
        have hlen' := hsuf.len
        rw [HL.out] at hlen'
        have HRQ := Lib.hid hrq
        obtain ⟨e0, e1, e3, hz, hbw⟩ := HE.out
        have H0 := Lib.hid ((hrq.old w.heap.size (by omega) (by omega) (by omega)).trans e0)
        have H1 := Lib.hid ((hrq.old (w.heap.size + 1) (by omega) (by omega) (by omega)).trans e1)
        clear e0 e1 e3 hz hbw
        obtain ⟨A5, c5, rfl, hc5⟩ := own_shape hrq.own
        obtain ⟨b0, b1, b2, b3, y0, y1, y2, y3⟩ := row4 hrq.blkM
        obtain ⟨a0, a1, a2, a3, _⟩ := row4 H0.out
        have HAi := Lib.hid hai
        clear hrq hai hc5
        cases r with
        | nil =>
          simp only [Fo.len] at hlen'
          have hge : decide (i < L) = false := by rw [decide_eq_false_iff_not]; omega
          obtain ⟨n0, n1, n2, n3, v0, v1, v2, v3⟩ := row4 H1.out
          clear hlen' hsuf
          go_wp2_with (fail)
          obtain ⟨m0, m1, m2, m3, _⟩ := row4 (s4 H1.out (.int .i64 5) (.string ⟨t.toArray⟩) (.int .i64 o) (.slice A5 acc.len c5))
          refine bodyPost_ret (v := .agg #[.int .i64 5, .string ⟨t.toArray⟩, .int .i64 o, .slice A5 acc.len c5]) (by simp [results, Tryd.results32, go_sem, m0, m1, m2, m3]) rfl ?_
          have hmk' : acc = repL (Gi x) shi 5 0 b kids := by have h := hmk.out; rwa [repL, Fo.app_nil] at h
          rw [← hmk']
          exact SbP.box (x := ⟨5, t, acc, o⟩) (N := w.heap.size + 1) HS.out (by omega) HRQ.out.bel (HRQ.out.out.keep (Nat.le_refl _) fun y hy _ => ⟨rfl, hy.elim (fun h => ⟨.inl h, by have := HS.out y h; omega⟩) fun h => ⟨.inr (by have := HE.out.2.2.2.1; omega), by have := HE.out.2.2.2.1; omega⟩⟩)
        | cons k1 t1 kids1 o1 r1 =>
          simp only [Fo.len] at hlen'
          obtain ⟨g, off, A1, c1, rfl, hgl, q0, q1, q2, q3, hk1⟩ := HK.out.get hsuf HRQ.out.bel
          have hge : decide ((i : Int) < (L : Int)) = true := by rw [decide_eq_true_eq]; omega
          have hiL : (i : Int) < (L : Int) := by omega
          have hi0 : (0 : Int) ≤ (i : Int) := by omega
          have HK1 := Lib.hid (hk1.below HRQ.out.bel)
          have HSuf := Lib.hid hsuf
          clear hk1 hsuf hgl
          go_upto_block 1 with (fail)
          go_cut [8] (fun s8 wx => s8 = .int .i64 (i : Int) ∧ ∃ (v' : Value) (acc' : Fo) (xs' : List Value), RQ w w4 wx S (w.heap.size + 2) 5 o t v' acc' xs' ∧ acc'.len = i + 1 ∧ Hid (acc'.app (repL (Gi x) shi 5 (i + 1) b r1) = repL (Gi x) shi 5 0 b kids))
          case first =>
            go_upto_region 8 with (fail)
            obtain ⟨y, hy⟩ : ∃ y, rep1 (Gi x) shi k1 t1 o1 kids1 (aroundB 5 i b) = y := ⟨_, rfl⟩
            obtain ⟨ab0, ab1⟩ := aroundB_bounds 5 0 i
            have hab : aroundB 5 i b = b + aroundB 5 i 0 := by
              have := around_add 5 i 0 b
              rw [Int.zero_add] at this
              omega
            have hkid := HSuf.out.kid.1
            have hrc : ∀ X, BH wr X → Calls Tryd.prog 32 #[.agg #[.int .i64 k1, .string ⟨t1.toArray⟩, .int .i64 o1, .slice A1 kids1.len c1], .slice A' NX c', .int .i64 (b + aroundB 5 i 0)] X (SbP X S y) := by
              intro X hX
              have h := HR.out S k1 o1 (aroundB 5 i b) t1 kids1 A1 c1 x A' c' X (fun z hz => Nat.lt_of_lt_of_le (HS.out z hz) (Below.size (BH.trans HRQ.out.bel hX))) (by omega) (by omega) (by rw [HLx.out]; exact hNx) (HK1.out.below hX) (HX.out.bh (BH.trans HRQ.out.bel hX)) (by omega) (by omega) (by rw [← around_add]; exact closedL_suf (closed_kids HCl.out) HSuf.out)
              rw [hy, hab, HLx.out] at h
              exact h
            obtain ⟨d, hd⟩ : ∃ d, aroundB 5 i 0 = d := ⟨_, rfl⟩
            rw [hd] at hrc ab0 ab1
            have HRc := Lib.hid hrc
            have HD := Lib.hid hd
            have HY := Lib.hid hy
            have hwd : IntKind.i64.wrap (b + d) = b + d := (IntKind.wrap_i64 _).trans (by omega)
            have Hwd := Lib.hid hwd
            clear hrc hd hy hab hwd hkid a0 a1 a2 a3 b0 b1 b2 b3 y0 y1 y2 y3
            refine wp_region_late (by kernel_rfl) (evV ⟨wr, S, w.heap.size, w.heap.size + 1 + 1, i, b, d, .slice A5 acc.len c5, .slice (some ⟨g, off, none⟩) L c, g, off, .agg #[.int .i64 k1, .string ⟨t1.toArray⟩, .int .i64 o1, .slice A1 kids1.len c1], .slice A' NX c', .agg #[.int .i64 5, .string ⟨t.toArray⟩, .int .i64 o, .slice (some ⟨g, off, none⟩) L c], y,
              fun v W => W.heap[w.heap.size + 2]? = some (.cells #[.int .i64 5, .string ⟨t.toArray⟩, .int .i64 o, .slice A5 acc.len c5] 25 (0, 0)) ∧ ∃ xs', RQ w w4 (W.setCell ⟨w.heap.size + 2, 3, none⟩ v) S (w.heap.size + 2) 5 o t v (acc.app (.one y.k y.t y.kids y.o)) xs'⟩)
              (fun W => ∃ v' xs', RQ w w4 W S (w.heap.size + 2) 5 o t v' (acc.app (.one y.k y.t y.kids y.o)) xs') evK 15 17 (evV_bh _) (evV_free _) (by kernel_rfl) ?_ ?_
            · refine ⟨?_, ?_, ?_, ?_, ?_, ?_, ?_, ?_, ?_, ?_, ?_, ?_, ?_, ?_, ?_, ?_, ?_, ?_, trivial⟩
              · intro a W hF
                have h := same_of hF 7 (by kernel_rfl)
                go_simp
                exact ⟨_, rfl, rfl⟩
              · intro a W hB hF hD
                have p : a.tmps[43]?.getD undef = .pointer (some ⟨w.heap.size + 1 + 1, 3, none⟩) := dep_of hD 0 43 (by kernel_rfl) rfl rfl
                obtain ⟨c0, c1, c2, c3, _⟩ := row4 ((Below.block hB _ (heap_lt HRQ.out.blkM)).trans HRQ.out.blkM)
                go_simp
                exact ⟨_, rfl, rfl, BH.refl _⟩
              · intro a W hF
                have h := same_of hF 3 (by kernel_rfl)
                go_simp
                exact ⟨_, rfl, rfl⟩
              · intro a W hB hF hD
                have p : a.tmps[45]?.getD undef = .pointer (some ⟨w.heap.size, 3, none⟩) := dep_of hD 2 45 (by kernel_rfl) rfl rfl
                obtain ⟨c0, c1, c2, c3, _⟩ := row4 ((Below.block hB _ (heap_lt H0.out)).trans H0.out)
                go_simp
                exact ⟨_, rfl, rfl, BH.refl _⟩
              · intro a W hF
                have h := same_of hF 8 (by kernel_rfl)
                go_simp
                exact ⟨_, rfl, rfl⟩
              · intro a W hB hF hD
                have p : a.tmps[46]?.getD undef = .slice (some ⟨g, off, none⟩) L c := dep_of hD 3 46 (by kernel_rfl) rfl rfl
                have p' : a.tmps[47]?.getD undef = .int .i64 (i : Int) := dep_of hD 4 47 (by kernel_rfl) rfl rfl
                go_simp
                exact ⟨_, rfl, rfl, BH.refl _⟩
              · intro a W hB hF hD
                have p : a.tmps[48]?.getD undef = .pointer (some ⟨g, off + i * 4, none⟩) := dep_of hD 5 48 (by kernel_rfl) rfl rfl
                have r0 := hB.cell q0
                have r1 := hB.cell q1
                have r2 := hB.cell q2
                have r3 := hB.cell q3
                go_simp
                exact ⟨_, rfl, rfl, BH.refl _⟩
              · intro a W hB hF hD
                have h := same_of hF 1 (by kernel_rfl)
                go_simp
                exact ⟨_, rfl, rfl, BH.refl _⟩
              · intro a W hF
                have h := same_of hF 2 (by kernel_rfl)
                go_simp
                exact ⟨_, rfl, rfl⟩
              · intro a W hB hF hD
                have h := same_of hF 3 (by kernel_rfl)
                obtain ⟨c0, c1, c2, c3, _⟩ := row4 ((Below.block hB _ (heap_lt H0.out)).trans H0.out)
                go_simp
                exact ⟨_, rfl, rfl, BH.refl _⟩
              · intro a W hF
                have h := same_of hF 8 (by kernel_rfl)
                go_simp
                exact ⟨_, rfl, rfl⟩
              · intro a W hB hF hD
                have p : a.tmps[52]?.getD undef = .agg #[.int .i64 5, .string ⟨t.toArray⟩, .int .i64 o, .slice (some ⟨g, off, none⟩) L c] := dep_of hD 9 52 (by kernel_rfl) rfl rfl
                have p' : a.tmps[53]?.getD undef = .int .i64 (i : Int) := dep_of hD 10 53 (by kernel_rfl) rfl rfl
                go_simp
                refine (binders_any 5 o i t (some ⟨g, off, none⟩) L c _).mono ?_
                rintro e u ⟨rfl, hb⟩
                exact ⟨_, rfl, congrArg (Value.int .i64) HD.out, hb⟩
              · intro a W hB hF hD
                have p : a.tmps[51]?.getD undef = .int .i64 b := dep_of hD 8 51 (by kernel_rfl) rfl rfl
                have p' : a.tmps[54]?.getD undef = .int .i64 d := dep_of hD 11 54 (by kernel_rfl) rfl rfl
                have hwd := Hwd.out
                go_simp
                exact ⟨_, rfl, rfl, BH.refl _⟩
              · intro a W hB hF hD
                have p : a.tmps[49]?.getD undef = .agg #[.int .i64 k1, .string ⟨t1.toArray⟩, .int .i64 o1, .slice A1 kids1.len c1] := dep_of hD 6 49 (by kernel_rfl) rfl rfl
                have p' : a.tmps[50]?.getD undef = .slice A' NX c' := dep_of hD 7 50 (by kernel_rfl) rfl rfl
                have p'' : a.tmps[55]?.getD undef = .int .i64 (b + d) := dep_of hD 12 55 (by kernel_rfl) rfl rfl
                go_simp
                refine (HRc.out W hB).mono ?_
                rintro e u ⟨A2, c2, rfl, hk, hb⟩
                have hs := Below.size hB
                exact ⟨_, rfl, ⟨A2, c2, rfl, hk.keep (Nat.le_refl _) fun z hz _ => ⟨rfl, hz.elim Or.inl fun h => Or.inr (Nat.le_trans hs h)⟩⟩, hb⟩
              · intro a W hB hF hD
                obtain ⟨A2, c2, h, hk⟩ : ∃ A2 c2, a.tmps[56]?.getD undef = .agg #[.int .i64 y.k, .string ⟨y.t.toArray⟩, .int .i64 y.o, .slice A2 y.kids.len c2] ∧ KS W (fun z => S z ∨ wr.heap.size ≤ z) y.kids A2 c2 := dep_of hD 13 56 (by kernel_rfl) rfl rfl
                go_simp
                exact ⟨_, rfl, ⟨A2, c2, W.heap.size, rfl, heap_alloc_new W _, hk.bh (bh_alloc (BH.refl _) _)⟩, bh_alloc (BH.refl _) _⟩
              · intro a W hB hF hD
                have p : a.tmps[44]?.getD undef = .slice A5 acc.len c5 := dep_of hD 1 44 (by kernel_rfl) rfl rfl
                obtain ⟨A2, c2, g2, h, h2, hk⟩ : ∃ A2 c2 g2, a.tmps[57]?.getD undef = .slice (some ⟨g2, 0, none⟩) 1 1 ∧ W.heap[g2]? = some (.cells #[.int .i64 y.k, .string ⟨y.t.toArray⟩, .int .i64 y.o, .slice A2 y.kids.len c2] 25 (0, 0)) ∧ KS W (fun z => S z ∨ wr.heap.size ≤ z) y.kids A2 c2 := dep_of hD 14 57 (by kernel_rfl) rfl rfl
                have hrW := HRQ.out.after hB
                refine wp_rea (by rfl) (.tmp 44) (.tmp 57) _ (by rfl) w4.heap.size 25 i0 _ 4 56 Tryd.underlying23 hi hz0 hz1 hz2 rfl (by decide) (.slice A5 acc.len c5) acc.len xs ((Array.getD_eq_getD_getElem? ..).trans p) hrW.own (some ⟨g2, 0, none⟩) 1 1 [.int .i64 y.k, .string ⟨y.t.toArray⟩, .int .i64 y.o, .slice A2 y.kids.len c2] ((Array.getD_eq_getD_getElem? ..).trans h) (rea_one h2) (by have := HAi.out; unfold maxLen; omega) (by have := HAi.out; omega) hrW.size ?_
                intro v1 w5 ho hg ha
                obtain ⟨hM5, hrq⟩ := HRQ.out.push2 hB hk hg ha ho
                exact ⟨v1, rfl, hM5, _, hrq⟩
              · intro a W hF
                have h := same_of hF 7 (by kernel_rfl)
                go_simp
                exact ⟨_, rfl, rfl⟩
              · intro a W hF hD
                have p : a.tmps[59]?.getD undef = .pointer (some ⟨w.heap.size + 1 + 1, 3, none⟩) := depq_of hD 16 59 rfl (by kernel_rfl) rfl rfl
                obtain ⟨hM5, xs', hrq⟩ : _ ∧ ∃ xs', RQ w w4 (W.setCell ⟨w.heap.size + 2, 3, none⟩ (a.tmps[58]?.getD undef)) S (w.heap.size + 2) 5 o t (a.tmps[58]?.getD undef) (acc.app (.one y.k y.t y.kids y.o)) xs' := depq_of hD 15 58 rfl (by kernel_rfl) rfl rfl
                obtain ⟨v1, hv1⟩ : ∃ v1, a.tmps[58]?.getD undef = v1 := ⟨_, rfl⟩
                rw [hv1] at hrq
                obtain ⟨A6, c6, rfl, hc6⟩ := own_shape hrq.own
                obtain ⟨c0, c1, c2, c3, z0, z1, z2, z3⟩ := row4 hM5
                have HRq := Lib.hid hrq
                clear hrq hM5 hc6
                go_simp
                exact ⟨_, _, HRq.out⟩
            · intro a W hF hR
              have h8 := same_of hF 8 (by kernel_rfl)
              obtain ⟨v', xs', hrq⟩ := hR
              have HRq := Lib.hid hrq
              have HA := Lib.hid (Frm.act hF)
              clear hrq hF h8
              simp only [Exit.inBlock, Exit.then]
              apply_assumption
              refine Met.intro ?_
              go_step
              (repeat apply Exists.intro)
              refine ⟨?relb, ?eqb⟩
              case eqb => exact HA.out.trans rfl
              refine ⟨rfl, _, _, _, HRq.out, by rw [Fo.len_app, HAi.out]; rfl, Lib.hid ?_⟩
              have h := hmk.out
              rw [repL_cons, HY.out] at h
              rw [← h, Fo.app_app]
              rfl
          case rest =>
            obtain ⟨rfl, v', acc', xs', hrq, hlen, hmk'⟩ := hcut
            have HRq := Lib.hid (And.intro hrq hlen)
            clear hrq hlen
            go_wp2_with (fail)
            exact ⟨⟨i + 1, r1, _, _, _, rfl, HSuf.out.next, HRq.out.1, HRq.out.2, hmk'⟩, by simp; omega⟩
    · have t1 : (k == 5) = false := by simpa using hk
      clear hfr hk
      go_enter Tryd.func32, Tryd.ntmps32
      go_wp2_with (fail)
      generalize hw4 : ((w.alloc (.cells #[.int .i64 k, .string ⟨t.toArray⟩, .int .i64 o, .slice A L c] 25)).alloc (.cells #[.int .i64 0, .string ⟨#[]⟩, .int .i64 0, .slice none 0 0] 25)).alloc (.cells #[.int .i64 k, .string ⟨t.toArray⟩, .int .i64 o, .slice none 0 0] 25) = w4
      have hE := three_blocks hw4
      have HE := Lib.hid hE
      clear hw4 hE
      go_loopw [8] (fun iv wr => ∃ (i : Nat) (r : Fo) (v : Value) (acc : Fo) (xs : List Value), iv = .int .i64 (i : Int) ∧ Suf i r kids ∧ RQ w w4 wr S (w.heap.size + 2) k o t v acc xs ∧ acc.len = i ∧ Hid (acc.app (repL (Gi x) shi k i b r) = repL (Gi x) shi k 0 b kids)) (fun iv _ => L - (match iv with | .int _ n => n.toNat | _ => 0))
      case atStart =>
        obtain ⟨e0, e1, e3, hz, hbw⟩ := HE.out
        exact ⟨0, kids, _, .nil, [], rfl, Suf.zero _, ⟨HS.out, hbw, e3, fun x _ _ _ => rfl, World.ownsRow_nil _ _ _ _, rfl, ⟨by omega, by rw [hz]; omega⟩, Nat.le_refl _⟩, rfl, Lib.hid rfl⟩
      case round =>
        obtain ⟨i, r, v, acc, xs, rfl, hsuf, hrq, hai, hmk⟩ := hrel
        have hlen' := hsuf.len
        rw [HL.out] at hlen'
        have HRQ := Lib.hid hrq
        obtain ⟨e0, e1, e3, hz, hbw⟩ := HE.out
        have H0 := Lib.hid ((hrq.old w.heap.size (by omega) (by omega) (by omega)).trans e0)
        have H1 := Lib.hid ((hrq.old (w.heap.size + 1) (by omega) (by omega) (by omega)).trans e1)
        clear e0 e1 e3 hz hbw
        obtain ⟨A5, c5, rfl, hc5⟩ := own_shape hrq.own
        obtain ⟨b0, b1, b2, b3, y0, y1, y2, y3⟩ := row4 hrq.blkM
        obtain ⟨a0, a1, a2, a3, _⟩ := row4 H0.out
        have HAi := Lib.hid hai
        clear hrq hai hc5
        cases r with
        | nil =>
          simp only [Fo.len] at hlen'
          have hge : decide (i < L) = false := by rw [decide_eq_false_iff_not]; omega
          obtain ⟨n0, n1, n2, n3, v0, v1, v2, v3⟩ := row4 H1.out
          clear hlen' hsuf
          go_wp2_with (fail)
          obtain ⟨m0, m1, m2, m3, _⟩ := row4 (s4 H1.out (.int .i64 k) (.string ⟨t.toArray⟩) (.int .i64 o) (.slice A5 acc.len c5))
          refine bodyPost_ret (v := .agg #[.int .i64 k, .string ⟨t.toArray⟩, .int .i64 o, .slice A5 acc.len c5]) (by simp [results, Tryd.results32, go_sem, m0, m1, m2, m3]) rfl ?_
          have hmk' : acc = repL (Gi x) shi k 0 b kids := by have h := hmk.out; rwa [repL, Fo.app_nil] at h
          rw [← hmk']
          exact SbP.box (x := ⟨k, t, acc, o⟩) (N := w.heap.size + 1) HS.out (by omega) HRQ.out.bel (HRQ.out.out.keep (Nat.le_refl _) fun y hy _ => ⟨rfl, hy.elim (fun h => ⟨.inl h, by have := HS.out y h; omega⟩) fun h => ⟨.inr (by have := HE.out.2.2.2.1; omega), by have := HE.out.2.2.2.1; omega⟩⟩)
        | cons k1 t1 kids1 o1 r1 =>
          simp only [Fo.len] at hlen'
          obtain ⟨g, off, A1, c1, rfl, hgl, q0, q1, q2, q3, hk1⟩ := HK.out.get hsuf HRQ.out.bel
          have hge : decide ((i : Int) < (L : Int)) = true := by rw [decide_eq_true_eq]; omega
          have hiL : (i : Int) < (L : Int) := by omega
          have hi0 : (0 : Int) ≤ (i : Int) := by omega
          have HK1 := Lib.hid (hk1.below HRQ.out.bel)
          have HSuf := Lib.hid hsuf
          clear hk1 hsuf hgl
          go_upto_block 1 with (fail)
          go_cut [8] (fun s8 wx => s8 = .int .i64 (i : Int) ∧ ∃ (v' : Value) (acc' : Fo) (xs' : List Value), RQ w w4 wx S (w.heap.size + 2) k o t v' acc' xs' ∧ acc'.len = i + 1 ∧ Hid (acc'.app (repL (Gi x) shi k (i + 1) b r1) = repL (Gi x) shi k 0 b kids))
          case first =>
            go_upto_region 8 with (fail)
            obtain ⟨y, hy⟩ : ∃ y, rep1 (Gi x) shi k1 t1 o1 kids1 (aroundB k i b) = y := ⟨_, rfl⟩
            obtain ⟨ab0, ab1⟩ := aroundB_bounds k 0 i
            have hab : aroundB k i b = b + aroundB k i 0 := by
              have := around_add k i 0 b
              rw [Int.zero_add] at this
              omega
            have hkid := HSuf.out.kid.1
            have hrc : ∀ X, BH wr X → Calls Tryd.prog 32 #[.agg #[.int .i64 k1, .string ⟨t1.toArray⟩, .int .i64 o1, .slice A1 kids1.len c1], .slice A' NX c', .int .i64 (b + aroundB k i 0)] X (SbP X S y) := by
              intro X hX
              have h := HR.out S k1 o1 (aroundB k i b) t1 kids1 A1 c1 x A' c' X (fun z hz => Nat.lt_of_lt_of_le (HS.out z hz) (Below.size (BH.trans HRQ.out.bel hX))) (by omega) (by omega) (by rw [HLx.out]; exact hNx) (HK1.out.below hX) (HX.out.bh (BH.trans HRQ.out.bel hX)) (by omega) (by omega) (by rw [← around_add]; exact closedL_suf (closed_kids HCl.out) HSuf.out)
              rw [hy, hab, HLx.out] at h
              exact h
            obtain ⟨d, hd⟩ : ∃ d, aroundB k i 0 = d := ⟨_, rfl⟩
            rw [hd] at hrc ab0 ab1
            have HRc := Lib.hid hrc
            have HD := Lib.hid hd
            have HY := Lib.hid hy
            have hwd : IntKind.i64.wrap (b + d) = b + d := (IntKind.wrap_i64 _).trans (by omega)
            have Hwd := Lib.hid hwd
            clear hrc hd hy hab hwd hkid a0 a1 a2 a3 b0 b1 b2 b3 y0 y1 y2 y3
            refine wp_region_late (by kernel_rfl) (evV ⟨wr, S, w.heap.size, w.heap.size + 1 + 1, i, b, d, .slice A5 acc.len c5, .slice (some ⟨g, off, none⟩) L c, g, off, .agg #[.int .i64 k1, .string ⟨t1.toArray⟩, .int .i64 o1, .slice A1 kids1.len c1], .slice A' NX c', .agg #[.int .i64 k, .string ⟨t.toArray⟩, .int .i64 o, .slice (some ⟨g, off, none⟩) L c], y,
              fun v W => W.heap[w.heap.size + 2]? = some (.cells #[.int .i64 k, .string ⟨t.toArray⟩, .int .i64 o, .slice A5 acc.len c5] 25 (0, 0)) ∧ ∃ xs', RQ w w4 (W.setCell ⟨w.heap.size + 2, 3, none⟩ v) S (w.heap.size + 2) k o t v (acc.app (.one y.k y.t y.kids y.o)) xs'⟩)
              (fun W => ∃ v' xs', RQ w w4 W S (w.heap.size + 2) k o t v' (acc.app (.one y.k y.t y.kids y.o)) xs') evK 15 17 (evV_bh _) (evV_free _) (by kernel_rfl) ?_ ?_
            · refine ⟨?_, ?_, ?_, ?_, ?_, ?_, ?_, ?_, ?_, ?_, ?_, ?_, ?_, ?_, ?_, ?_, ?_, ?_, trivial⟩
              · intro a W hF
                have h := same_of hF 7 (by kernel_rfl)
                go_simp
                exact ⟨_, rfl, rfl⟩
              · intro a W hB hF hD
                have p : a.tmps[43]?.getD undef = .pointer (some ⟨w.heap.size + 1 + 1, 3, none⟩) := dep_of hD 0 43 (by kernel_rfl) rfl rfl
                obtain ⟨c0, c1, c2, c3, _⟩ := row4 ((Below.block hB _ (heap_lt HRQ.out.blkM)).trans HRQ.out.blkM)
                go_simp
                exact ⟨_, rfl, rfl, BH.refl _⟩
              · intro a W hF
                have h := same_of hF 3 (by kernel_rfl)
                go_simp
                exact ⟨_, rfl, rfl⟩
              · intro a W hB hF hD
                have p : a.tmps[45]?.getD undef = .pointer (some ⟨w.heap.size, 3, none⟩) := dep_of hD 2 45 (by kernel_rfl) rfl rfl
                obtain ⟨c0, c1, c2, c3, _⟩ := row4 ((Below.block hB _ (heap_lt H0.out)).trans H0.out)
                go_simp
                exact ⟨_, rfl, rfl, BH.refl _⟩
              · intro a W hF
                have h := same_of hF 8 (by kernel_rfl)
                go_simp
                exact ⟨_, rfl, rfl⟩
              · intro a W hB hF hD
                have p : a.tmps[46]?.getD undef = .slice (some ⟨g, off, none⟩) L c := dep_of hD 3 46 (by kernel_rfl) rfl rfl
                have p' : a.tmps[47]?.getD undef = .int .i64 (i : Int) := dep_of hD 4 47 (by kernel_rfl) rfl rfl
                go_simp
                exact ⟨_, rfl, rfl, BH.refl _⟩
              · intro a W hB hF hD
                have p : a.tmps[48]?.getD undef = .pointer (some ⟨g, off + i * 4, none⟩) := dep_of hD 5 48 (by kernel_rfl) rfl rfl
                have r0 := hB.cell q0
                have r1 := hB.cell q1
                have r2 := hB.cell q2
                have r3 := hB.cell q3
                go_simp
                exact ⟨_, rfl, rfl, BH.refl _⟩
              · intro a W hB hF hD
                have h := same_of hF 1 (by kernel_rfl)
                go_simp
                exact ⟨_, rfl, rfl, BH.refl _⟩
              · intro a W hF
                have h := same_of hF 2 (by kernel_rfl)
                go_simp
                exact ⟨_, rfl, rfl⟩
              · intro a W hB hF hD
                have h := same_of hF 3 (by kernel_rfl)
                obtain ⟨c0, c1, c2, c3, _⟩ := row4 ((Below.block hB _ (heap_lt H0.out)).trans H0.out)
                go_simp
                exact ⟨_, rfl, rfl, BH.refl _⟩
              · intro a W hF
                have h := same_of hF 8 (by kernel_rfl)
                go_simp
                exact ⟨_, rfl, rfl⟩
              · intro a W hB hF hD
                have p : a.tmps[52]?.getD undef = .agg #[.int .i64 k, .string ⟨t.toArray⟩, .int .i64 o, .slice (some ⟨g, off, none⟩) L c] := dep_of hD 9 52 (by kernel_rfl) rfl rfl
                have p' : a.tmps[53]?.getD undef = .int .i64 (i : Int) := dep_of hD 10 53 (by kernel_rfl) rfl rfl
                go_simp
                refine (binders_any k o i t (some ⟨g, off, none⟩) L c _).mono ?_
                rintro e u ⟨rfl, hb⟩
                exact ⟨_, rfl, congrArg (Value.int .i64) HD.out, hb⟩
              · intro a W hB hF hD
                have p : a.tmps[51]?.getD undef = .int .i64 b := dep_of hD 8 51 (by kernel_rfl) rfl rfl
                have p' : a.tmps[54]?.getD undef = .int .i64 d := dep_of hD 11 54 (by kernel_rfl) rfl rfl
                have hwd := Hwd.out
                go_simp
                exact ⟨_, rfl, rfl, BH.refl _⟩
              · intro a W hB hF hD
                have p : a.tmps[49]?.getD undef = .agg #[.int .i64 k1, .string ⟨t1.toArray⟩, .int .i64 o1, .slice A1 kids1.len c1] := dep_of hD 6 49 (by kernel_rfl) rfl rfl
                have p' : a.tmps[50]?.getD undef = .slice A' NX c' := dep_of hD 7 50 (by kernel_rfl) rfl rfl
                have p'' : a.tmps[55]?.getD undef = .int .i64 (b + d) := dep_of hD 12 55 (by kernel_rfl) rfl rfl
                go_simp
                refine (HRc.out W hB).mono ?_
                rintro e u ⟨A2, c2, rfl, hk, hb⟩
                have hs := Below.size hB
                exact ⟨_, rfl, ⟨A2, c2, rfl, hk.keep (Nat.le_refl _) fun z hz _ => ⟨rfl, hz.elim Or.inl fun h => Or.inr (Nat.le_trans hs h)⟩⟩, hb⟩
              · intro a W hB hF hD
                obtain ⟨A2, c2, h, hk⟩ : ∃ A2 c2, a.tmps[56]?.getD undef = .agg #[.int .i64 y.k, .string ⟨y.t.toArray⟩, .int .i64 y.o, .slice A2 y.kids.len c2] ∧ KS W (fun z => S z ∨ wr.heap.size ≤ z) y.kids A2 c2 := dep_of hD 13 56 (by kernel_rfl) rfl rfl
                go_simp
                exact ⟨_, rfl, ⟨A2, c2, W.heap.size, rfl, heap_alloc_new W _, hk.bh (bh_alloc (BH.refl _) _)⟩, bh_alloc (BH.refl _) _⟩
              · intro a W hB hF hD
                have p : a.tmps[44]?.getD undef = .slice A5 acc.len c5 := dep_of hD 1 44 (by kernel_rfl) rfl rfl
                obtain ⟨A2, c2, g2, h, h2, hk⟩ : ∃ A2 c2 g2, a.tmps[57]?.getD undef = .slice (some ⟨g2, 0, none⟩) 1 1 ∧ W.heap[g2]? = some (.cells #[.int .i64 y.k, .string ⟨y.t.toArray⟩, .int .i64 y.o, .slice A2 y.kids.len c2] 25 (0, 0)) ∧ KS W (fun z => S z ∨ wr.heap.size ≤ z) y.kids A2 c2 := dep_of hD 14 57 (by kernel_rfl) rfl rfl
                have hrW := HRQ.out.after hB
                refine wp_rea (by rfl) (.tmp 44) (.tmp 57) _ (by rfl) w4.heap.size 25 i0 _ 4 56 Tryd.underlying23 hi hz0 hz1 hz2 rfl (by decide) (.slice A5 acc.len c5) acc.len xs ((Array.getD_eq_getD_getElem? ..).trans p) hrW.own (some ⟨g2, 0, none⟩) 1 1 [.int .i64 y.k, .string ⟨y.t.toArray⟩, .int .i64 y.o, .slice A2 y.kids.len c2] ((Array.getD_eq_getD_getElem? ..).trans h) (rea_one h2) (by have := HAi.out; unfold maxLen; omega) (by have := HAi.out; omega) hrW.size ?_
                intro v1 w5 ho hg ha
                obtain ⟨hM5, hrq⟩ := HRQ.out.push2 hB hk hg ha ho
                exact ⟨v1, rfl, hM5, _, hrq⟩
              · intro a W hF
                have h := same_of hF 7 (by kernel_rfl)
                go_simp
                exact ⟨_, rfl, rfl⟩
              · intro a W hF hD
                have p : a.tmps[59]?.getD undef = .pointer (some ⟨w.heap.size + 1 + 1, 3, none⟩) := depq_of hD 16 59 rfl (by kernel_rfl) rfl rfl
                obtain ⟨hM5, xs', hrq⟩ : _ ∧ ∃ xs', RQ w w4 (W.setCell ⟨w.heap.size + 2, 3, none⟩ (a.tmps[58]?.getD undef)) S (w.heap.size + 2) k o t (a.tmps[58]?.getD undef) (acc.app (.one y.k y.t y.kids y.o)) xs' := depq_of hD 15 58 rfl (by kernel_rfl) rfl rfl
                obtain ⟨v1, hv1⟩ : ∃ v1, a.tmps[58]?.getD undef = v1 := ⟨_, rfl⟩
                rw [hv1] at hrq
                obtain ⟨A6, c6, rfl, hc6⟩ := own_shape hrq.own
                obtain ⟨c0, c1, c2, c3, z0, z1, z2, z3⟩ := row4 hM5
                have HRq := Lib.hid hrq
                clear hrq hM5 hc6
                go_simp
                exact ⟨_, _, HRq.out⟩
            · intro a W hF hR
              have h8 := same_of hF 8 (by kernel_rfl)
              obtain ⟨v', xs', hrq⟩ := hR
              have HRq := Lib.hid hrq
              have HA := Lib.hid (Frm.act hF)
              clear hrq hF h8
              simp only [Exit.inBlock, Exit.then]
              apply_assumption
              refine Met.intro ?_
              go_step
              (repeat apply Exists.intro)
              refine ⟨?relc, ?eqc⟩
              case eqc => exact HA.out.trans rfl
              refine ⟨rfl, _, _, _, HRq.out, by rw [Fo.len_app, HAi.out]; rfl, Lib.hid ?_⟩
              have h := hmk.out
              rw [repL_cons, HY.out] at h
              rw [← h, Fo.app_app]
              rfl
          case rest =>
            obtain ⟨rfl, v', acc', xs', hrq, hlen, hmk'⟩ := hcut
            have HRq := Lib.hid (And.intro hrq hlen)
            clear hrq hlen
            go_wp2_with (fail)
            exact ⟨⟨i + 1, r1, _, _, _, rfl, HSuf.out.next, HRq.out.1, HRq.out.2, hmk'⟩, by simp; omega⟩

theorem rins_any {V : Int} (hV0 : 0 ≤ V) (hV1 : V ≤ 4294967296) : ∀ M, RIT V M := by
  intro M
  induction M with
  | zero => intro S k o b t kids A c x A' c' w hS hM; exact absurd hM (Nat.not_lt_zero _)
  | succ M ih => exact rins_step hV0 hV1 M ih
end Go.Proofs.YtddfpbcdopcdhaaDoor
