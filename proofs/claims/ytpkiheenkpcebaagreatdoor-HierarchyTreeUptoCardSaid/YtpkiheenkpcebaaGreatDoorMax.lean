/- telref1.DeclEqual of any two declarations, with fields. No condition but bounded sizes. telref1.DeclsEqual of any two lists of declarations. No condition but bounded sizes. -/
import Derived.Test.YtpkiheenkpcebaaGreatDoorMaw
import Derived.BigQuiet
set_option linter.unusedVariables false
set_option linter.unusedSimpArgs false
namespace Go.Proofs.YtpkiheenkpcebaaGreatDoor
open Go.RowKit Sx

theorem dfield (W : World) (a b c d e f q g : Value) :
    (Instr.field 37 (.agg #[a, b, c, d, e, f, q, g]) 2).run Tryz.prog W = .ok (.agg #[c, d, e, f]) W := by
  have hu := Tryz.underlying37
  unfold Instr.field
  simp [run_underlying hu, asAgg, go_sem]
theorem ffield (W : World) (a b c d e : Value) :
    (Instr.field 40 (.agg #[a, b, c, d, e]) 1).run Tryz.prog W = .ok (.agg #[b, c, d, e]) W := by
  have hu := Tryz.underlying40
  unfold Instr.field
  simp [run_underlying hu, asAgg, go_sem]
set_option maxHeartbeats 8000000 in
set_option maxRecDepth 100000 in
theorem rDeclEq_any (n n' : List UInt8) (ar ar' k k' o o' : Int) (t t' : List UInt8) (kids kids' : Fo) (cc cc' : Bool) (fs fs' : List (List UInt8 × Tm)) (A A' F F' : Option Addr) (c c' x x' : Nat) (w : World)
    (hN : fsize kids ≤ 1073741824) (hN' : fsize kids' ≤ 1073741824) (hK : KT w kids A c) (hK' : KT w kids' A' c') (S S' : Nat → Prop) (hF : FlS w S fs F x) (hF' : FlS w S' fs' F' x') (hfs : ∀ f ∈ fs, fsize f.2.kids ≤ 1073741824) (hfs' : ∀ f ∈ fs', fsize f.2.kids ≤ 1073741824) (hL : fs.length ≤ 1048576) (hL' : fs'.length ≤ 1048576) :
    Calls Tryz.prog 29 #[.agg #[.string ⟨n.toArray⟩, .int .i64 ar, .int .i64 k, .string ⟨t.toArray⟩, .int .i64 o, .slice A kids.len c, .bool cc, .slice F fs.length x], .agg #[.string ⟨n'.toArray⟩, .int .i64 ar', .int .i64 k', .string ⟨t'.toArray⟩, .int .i64 o', .slice A' kids'.len c', .bool cc', .slice F' fs'.length x']] w
      fun r w' => r = .returned (.bool (deB ⟨n, ar, ⟨k, t, kids, o⟩, cc, fs⟩ ⟨n', ar', ⟨k', t', kids', o'⟩, cc', fs'⟩)) ∧ BH w w' := by
  obtain ⟨Z, hZ⟩ : ∃ Z, deB ⟨n, ar, ⟨k, t, kids, o⟩, cc, fs⟩ ⟨n', ar', ⟨k', t', kids', o'⟩, cc', fs'⟩ = Z := ⟨_, rfl⟩
  rw [hZ]
  obtain ⟨q, hq⟩ : ∃ q, (cmp1 k t o kids k' t' o' kids' == 0) = q := ⟨_, rfl⟩
  have hz : Z = (decide (n = n') && (decide (ar = ar') && (decide (cc = cc') && (q && (decide (fs.length = fs'.length) && feB fs fs'))))) := by rw [← hZ, deB, cmpT]; simp only [hq]
  have HZ := Lib.hid hz
  have HFS := Lib.hid hfs
  have HFS' := Lib.hid hfs'
  have HE : Hid (∀ X, BH w X → Calls Tryz.prog 39 #[.agg #[.int .i64 k, .string ⟨t.toArray⟩, .int .i64 o, .slice A kids.len c], .agg #[.int .i64 k', .string ⟨t'.toArray⟩, .int .i64 o', .slice A' kids'.len c']] X fun e u => e = .returned (.bool q) ∧ BH X u) := Lib.hid fun X hX => by
    refine (hTermEq k o k' o' t t' kids kids' A A' c c' X (by omega) (by omega) (hK.below hX) (hK'.below hX)).mono ?_
    rintro e u ⟨rfl, hb⟩
    exact ⟨by rw [hq], hb⟩
  have HA := Lib.hid hF
  have HA' := Lib.hid hF'
  obtain ⟨L, hl⟩ : ∃ L, fs.length = L := ⟨_, rfl⟩
  obtain ⟨L', hl'⟩ : ∃ L', fs'.length = L' := ⟨_, rfl⟩
  rw [hl] at hL
  rw [hl'] at hL'
  have HL := Lib.hid hl
  have HL' := Lib.hid hl'
  rw [hl, hl']
  clear hq hz hZ hK hK' hF hF' hfs hfs' hl hl' hN hN'
  have e1 := heap_alloc_new w (.cells #[.string ⟨n.toArray⟩, .int .i64 ar, .int .i64 k, .string ⟨t.toArray⟩, .int .i64 o, .slice A kids.len c, .bool cc, .slice F L x] 37)
  have f1 := bh_alloc (BH.refl w) (.cells #[.string ⟨n.toArray⟩, .int .i64 ar, .int .i64 k, .string ⟨t.toArray⟩, .int .i64 o, .slice A kids.len c, .bool cc, .slice F L x] 37)
  have e2 := heap_alloc_new (w.alloc (.cells #[.string ⟨n.toArray⟩, .int .i64 ar, .int .i64 k, .string ⟨t.toArray⟩, .int .i64 o, .slice A kids.len c, .bool cc, .slice F L x] 37)) (.cells #[.string ⟨n'.toArray⟩, .int .i64 ar', .int .i64 k', .string ⟨t'.toArray⟩, .int .i64 o', .slice A' kids'.len c', .bool cc', .slice F' L' x'] 37)
  have f2 := bh_alloc f1 (.cells #[.string ⟨n'.toArray⟩, .int .i64 ar', .int .i64 k', .string ⟨t'.toArray⟩, .int .i64 o', .slice A' kids'.len c', .bool cc', .slice F' L' x'] 37)
  have e1' := (Below.heap_alloc (w.alloc (.cells #[.string ⟨n.toArray⟩, .int .i64 ar, .int .i64 k, .string ⟨t.toArray⟩, .int .i64 o, .slice A kids.len c, .bool cc, .slice F L x] 37)) (.cells #[.string ⟨n'.toArray⟩, .int .i64 ar', .int .i64 k', .string ⟨t'.toArray⟩, .int .i64 o', .slice A' kids'.len c', .bool cc', .slice F' L' x'] 37) w.heap.size (by simp)).trans e1
  rw [World.size_alloc] at e2
  obtain ⟨⟨r0, r1, r2, r3, r4, r5, r6, r7⟩, _⟩ := row8 e1'
  obtain ⟨⟨s0, s1, s2, s3, s4, s5, s6, s7⟩, _⟩ := row8 e2
  have HW := Lib.hid (And.intro e1' (And.intro e2 f2))
  clear e1 f1 e2 f2 e1'
  by_cases hn : n = n'
  · subst hn
    by_cases ha : ar = ar'
    · subst ha
      by_cases hc : cc = cc'
      · subst hc
        go_enter Tryz.func29, Tryz.ntmps29
        go_wp2_with (fail)
        refine (HE.out _ HW.out.2.2).mono ?_
        rintro e u ⟨rfl, hb⟩
        have HB := Lib.hid (BH.trans HW.out.2.2 hb)
        have hW1 := (Below.block hb _ (heap_lt HW.out.1)).trans HW.out.1
        have hW2 := (Below.block hb _ (heap_lt HW.out.2.1)).trans HW.out.2.1
        have HW1 := Lib.hid (And.intro hW1 hW2)
        clear r0 r1 r2 r3 r4 r5 r6 r7 s0 s1 s2 s3 s4 s5 s6 s7
        obtain ⟨⟨r0, r1, r2, r3, r4, r5, r6, r7⟩, _⟩ := row8 hW1
        obtain ⟨⟨s0, s1, s2, s3, s4, s5, s6, s7⟩, _⟩ := row8 hW2
        clear hb hW1 hW2
        cases q with
        | false =>
          go_wp2_with (fail)
          go_ret
          exact ⟨by rw [HZ.out]; simp, HB.out⟩
        | true =>
          by_cases hll : L = L'
          · subst hll
            go_wp2_with (fail)
            go_loopw [5] (fun iv wr => ∃ i : Nat, iv = .int .i64 (i : Int) ∧ i ≤ L ∧ BH w wr ∧ (wr.heap[w.heap.size]? = some (.cells #[.string ⟨n.toArray⟩, .int .i64 ar, .int .i64 k, .string ⟨t.toArray⟩, .int .i64 o, .slice A kids.len c, .bool cc, .slice F L x] 37 (0, 0)) ∧ wr.heap[w.heap.size + 1]? = some (.cells #[.string ⟨n.toArray⟩, .int .i64 ar, .int .i64 k', .string ⟨t'.toArray⟩, .int .i64 o', .slice A' kids'.len c', .bool cc, .slice F' L x'] 37 (0, 0))) ∧ feB fs fs' = feB (fs.drop i) (fs'.drop i)) (fun iv _ => L - (match iv with | .int _ n => n.toNat | _ => 0))
            case atStart => exact ⟨0, rfl, Nat.zero_le _, HB.out, HW1.out, rfl⟩
            case round =>
              obtain ⟨i, rfl, hil, hb, hWr, hfe⟩ := hrel
              have HWr := Lib.hid hWr
              clear r0 r1 r2 r3 r4 r5 r6 r7 s0 s1 s2 s3 s4 s5 s6 s7
              obtain ⟨⟨a0, a1, a2, a3, a4, a5, a6, a7⟩, _⟩ := row8 hWr.1
              obtain ⟨⟨s0, s1, s2, s3, s4, s5, s6, s7⟩, _⟩ := row8 hWr.2
              clear hWr
              have HBr := Lib.hid hb
              have HFE := Lib.hid hfe
              have hfl := HL.out
              have hfl' := HL'.out
              by_cases hlt : i < L
              · have hge : decide ((i : Int) < (L : Int)) = true := by rw [decide_eq_true_eq]; omega
                have hiL : (i : Int) < (L : Int) := by omega
                have hi0 : (0 : Int) ≤ (i : Int) := by omega
                have hi1 : wrap64 ((i : Int) + 1) = (i : Int) + 1 := wrap64_in (by omega) (by omega)
                obtain ⟨⟨n1, y1⟩, hy1⟩ : ∃ f, fs[i]? = some f := ⟨_, List.getElem?_eq_getElem (by omega)⟩
                obtain ⟨⟨n2, y2⟩, hy2⟩ : ∃ f, fs'[i]? = some f := ⟨_, List.getElem?_eq_getElem (by omega)⟩
                have hst := feB_take fs fs' i (by omega) (by omega) _ _ hy1 hy2
                obtain ⟨g, off, A1, c1, rfl, _, hg, p0, p1, p2, p3, p4, k1⟩ := (HA.out.bh hb).at hy1
                obtain ⟨g', off', A2, c2, rfl, _, hg', r0, r1, r2, r3, r4, k2⟩ := (HA'.out.bh hb).at hy2
                have b1 := HFS.out _ (List.mem_of_getElem? hy1)
                have b2 := HFS'.out _ (List.mem_of_getElem? hy2)
                obtain ⟨z1, u1, h1, j1⟩ := y1
                obtain ⟨z2, u2, h2, j2⟩ := y2
                simp only at p0 p1 p2 p3 p4 r0 r1 r2 r3 r4 k1 k2 b1 b2
                obtain ⟨q1, hq1⟩ : ∃ q1, (cmp1 z1 u1 j1 h1 z2 u2 j2 h2 == 0) = q1 := ⟨_, rfl⟩
                have hst2 : feB fs fs' = (decide (n1 = n2) && (q1 && feB (fs.drop (i + 1)) (fs'.drop (i + 1)))) := by rw [hfe, hst, cmpT, hq1]
                have HST := Lib.hid hst2
                have HC : Hid (∀ X, BH wr X → Calls Tryz.prog 39 #[.agg #[.int .i64 z1, .string ⟨u1.toArray⟩, .int .i64 j1, .slice A1 h1.len c1], .agg #[.int .i64 z2, .string ⟨u2.toArray⟩, .int .i64 j2, .slice A2 h2.len c2]] X fun e u => e = .returned (.bool q1) ∧ BH X u) := Lib.hid (by
                  intro X hX
                  refine (hTermEq z1 j1 z2 j2 u1 u2 h1 h2 A1 A2 c1 c2 X (by omega) (by omega) (k1.kt.below hX) (k2.kt.below hX)).mono ?_
                  rintro e u ⟨rfl, hb⟩
                  exact ⟨by rw [hq1], hb⟩)
                clear hfl hfl' hst hst2 hq1 k1 k2 b1 b2 hy1 hy2 hfe hb
                by_cases hnn : n1 = n2
                · subst hnn
                  have HPn := Lib.hid (below_drew wr)
                  clear a0 a1 a2 a3 a4 a5 a6 s0 s1 s2 s3 s4 s5 s6
                  cases q1 with
                  | true =>
                    go_wp2_with (fail)
                    go_region_held3 (fun w' => w'.cell? ⟨w.heap.size, 7, none⟩ = some (.slice (some ⟨g, off, none⟩) L x) ∧ w'.cell? ⟨w.heap.size + 1, 7, none⟩ = some (.slice (some ⟨g', off', none⟩) L x') ∧
                    w'.cell? ⟨g, off + i * 5, none⟩ = some (.string ⟨n1.toArray⟩) ∧ w'.cell? ⟨g, off + i * 5 + 1, none⟩ = some (.int .i64 z1) ∧ w'.cell? ⟨g, off + i * 5 + 2, none⟩ = some (.string ⟨u1.toArray⟩) ∧ w'.cell? ⟨g, off + i * 5 + 3, none⟩ = some (.int .i64 j1) ∧ w'.cell? ⟨g, off + i * 5 + 4, none⟩ = some (.slice A1 h1.len c1) ∧
                    w'.cell? ⟨g', off' + i * 5, none⟩ = some (.string ⟨n1.toArray⟩) ∧ w'.cell? ⟨g', off' + i * 5 + 1, none⟩ = some (.int .i64 z2) ∧ w'.cell? ⟨g', off' + i * 5 + 2, none⟩ = some (.string ⟨u2.toArray⟩) ∧ w'.cell? ⟨g', off' + i * 5 + 3, none⟩ = some (.int .i64 j2) ∧ w'.cell? ⟨g', off' + i * 5 + 4, none⟩ = some (.slice A2 h2.len c2)) (go_keep)
                      ((go_at_call 39; refine (HC.out _ HPn.out).mono ?_; rintro e u ⟨rfl, hb⟩; have HPn := Lib.hid (BH.trans HPn.out hb); clear hb; have y7 := BH.cell HPn.out a7; have m7 := BH.cell HPn.out s7; have l0 := BH.cell HPn.out p0; have l1 := BH.cell HPn.out p1; have l2 := BH.cell HPn.out p2; have l3 := BH.cell HPn.out p3; have l4 := BH.cell HPn.out p4; have t0 := BH.cell HPn.out r0; have t1 := BH.cell HPn.out r1; have t2 := BH.cell HPn.out r2; have t3 := BH.cell HPn.out r3; have t4 := BH.cell HPn.out r4))
                    have HB4 := Lib.hid (BH.trans HBr.out HPn.out)
                    have HW4 := Lib.hid (And.intro ((Below.block HPn.out _ (heap_lt HWr.out.1)).trans HWr.out.1) ((Below.block HPn.out _ (heap_lt HWr.out.2)).trans HWr.out.2))
                    go_wp2_with (fail)
                    exact ⟨⟨i + 1, rfl, hlt, HB4.out, HW4.out, by rw [HST.out]; simp⟩, by simp; omega⟩
                  | false =>
                    go_wp2_with (fail)
                    go_region_held3 (fun w' => w'.cell? ⟨w.heap.size, 7, none⟩ = some (.slice (some ⟨g, off, none⟩) L x) ∧ w'.cell? ⟨w.heap.size + 1, 7, none⟩ = some (.slice (some ⟨g', off', none⟩) L x') ∧
                    w'.cell? ⟨g, off + i * 5, none⟩ = some (.string ⟨n1.toArray⟩) ∧ w'.cell? ⟨g, off + i * 5 + 1, none⟩ = some (.int .i64 z1) ∧ w'.cell? ⟨g, off + i * 5 + 2, none⟩ = some (.string ⟨u1.toArray⟩) ∧ w'.cell? ⟨g, off + i * 5 + 3, none⟩ = some (.int .i64 j1) ∧ w'.cell? ⟨g, off + i * 5 + 4, none⟩ = some (.slice A1 h1.len c1) ∧
                    w'.cell? ⟨g', off' + i * 5, none⟩ = some (.string ⟨n1.toArray⟩) ∧ w'.cell? ⟨g', off' + i * 5 + 1, none⟩ = some (.int .i64 z2) ∧ w'.cell? ⟨g', off' + i * 5 + 2, none⟩ = some (.string ⟨u2.toArray⟩) ∧ w'.cell? ⟨g', off' + i * 5 + 3, none⟩ = some (.int .i64 j2) ∧ w'.cell? ⟨g', off' + i * 5 + 4, none⟩ = some (.slice A2 h2.len c2)) (go_keep)
                      ((go_at_call 39; refine (HC.out _ HPn.out).mono ?_; rintro e u ⟨rfl, hb⟩; have HPn := Lib.hid (BH.trans HPn.out hb); clear hb; have y7 := BH.cell HPn.out a7; have m7 := BH.cell HPn.out s7; have l0 := BH.cell HPn.out p0; have l1 := BH.cell HPn.out p1; have l2 := BH.cell HPn.out p2; have l3 := BH.cell HPn.out p3; have l4 := BH.cell HPn.out p4; have t0 := BH.cell HPn.out r0; have t1 := BH.cell HPn.out r1; have t2 := BH.cell HPn.out r2; have t3 := BH.cell HPn.out r3; have t4 := BH.cell HPn.out r4))
                    have HB4 := Lib.hid (BH.trans HBr.out HPn.out)
                    go_wp2_with (fail)
                    go_ret
                    exact ⟨by rw [HZ.out, HST.out]; simp, HB4.out⟩
                · have t1 := tba_ne hnn
                  have t4 : ((ByteArray.mk n1.toArray) == (ByteArray.mk n2.toArray)) = false := by
                    cases h : ((ByteArray.mk n1.toArray) == (ByteArray.mk n2.toArray)) with
                    | false => rfl
                    | true =>
                      have h' : (n1.toArray == n2.toArray) = true := h
                      exact absurd (congrArg ByteArray.mk (beq_iff_eq.1 h')) t1
                  have t5 : ((ByteArray.mk n1.toArray) != (ByteArray.mk n2.toArray)) = true := by rw [bne, t4]; rfl
                  have t6 : decide ((ByteArray.mk n1.toArray) = (ByteArray.mk n2.toArray)) = false := decide_eq_false t1
                  have HNN := Lib.hid (show decide (n1 = n2) = false by simpa using hnn)
                  clear a0 a1 a2 a3 a4 a5 a6 s0 s1 s2 s3 s4 s5 s6
                  go_wp2_with (fail)
                  go_quiet (fail)
                  go_wp2_with (fail)
                  go_ret
                  exact ⟨by rw [HZ.out, HST.out, HNN.out]; simp, below_drewN' HBr.out _⟩
              · have hge : decide ((i : Int) < (L : Int)) = false := by rw [decide_eq_false_iff_not]; omega
                have hie : i = L := by omega
                have HT := Lib.hid (show feB fs fs' = true by rw [hfe, List.drop_eq_nil_of_le (by omega), List.drop_eq_nil_of_le (by omega), feB])
                clear hie hfl hfl' hfe hb
                go_wp2_with (fail)
                go_ret
                exact ⟨by rw [HZ.out, HT.out, HL.out, HL'.out]; simp, HBr.out⟩
          · have t1 : ¬ ((L : Int) = (L' : Int)) := by omega
            have HLL := Lib.hid hll
            go_wp2_with (fail)
            go_ret
            exact ⟨by rw [HZ.out, HL.out, HL'.out]; have := HLL.out; simp [this], HB.out⟩
      · have t1 : decide (cc = cc') = false := by simpa using hc
        have t2 : (cc == cc') = false := by simpa using hc
        have HT := Lib.hid t1
        go_enter Tryz.func29, Tryz.ntmps29
        go_wp2_with (fail)
        go_ret
        exact ⟨by rw [HZ.out, HT.out]; simp, HW.out.2.2⟩
    · have t1 : decide (ar = ar') = false := by simpa using ha
      have t2 : (ar == ar') = false := by simpa using ha
      have HT := Lib.hid t1
      go_enter Tryz.func29, Tryz.ntmps29
      go_wp2_with (fail)
      go_ret
      exact ⟨by rw [HZ.out, HT.out]; simp, HW.out.2.2⟩
  · have t1 := tba_ne hn
    have t3 : decide (n = n') = false := by simpa using hn
    have HT := Lib.hid t3
    go_enter Tryz.func29, Tryz.ntmps29
    go_wp2_with (fail)
    go_ret
    exact ⟨by rw [HZ.out, HT.out]; simp, HW.out.2.2⟩
end Go.Proofs.YtpkiheenkpcebaaGreatDoor
namespace Go.Proofs.YtpkiheenkpcebaaGreatDoor.Sx
def desB : List De → List De → Bool
  | [], [] => true
  | d :: ds, e :: es => deB d e && desB ds es
  | _, _ => false
theorem desB_take (ds es : List De) (i : Nat) (hl : ds.length = es.length) (hi : i < ds.length) (d e : De) (hd : ds[i]? = some d) (he : es[i]? = some e) : desB (ds.drop i) (es.drop i) = (deB d e && desB (ds.drop (i + 1)) (es.drop (i + 1))) := by
  obtain ⟨h1, e1⟩ := List.getElem?_eq_some_iff.1 hd
  obtain ⟨h2, e2⟩ := List.getElem?_eq_some_iff.1 he
  rw [List.drop_eq_getElem_cons h1, List.drop_eq_getElem_cons h2, e1, e2, desB]
theorem desB_len : ∀ (ds es : List De), ds.length ≠ es.length → desB ds es = false := by
  intro ds
  induction ds with
  | nil => intro es h; cases es with
    | nil => exact absurd rfl h
    | cons e es => rfl
  | cons d ds ih => intro es h; cases es with
    | nil => rfl
    | cons e es => rw [desB, ih es (fun e => h (by simp [e])), Bool.and_false]
end Go.Proofs.YtpkiheenkpcebaaGreatDoor.Sx
namespace Go.Proofs.YtpkiheenkpcebaaGreatDoor
open Go.RowKit Sx

set_option maxHeartbeats 8000000 in
set_option maxRecDepth 100000 in
theorem rDeclsEq_any (ds es : List De) (A A' : Option Addr) (c c' : Nat) (w : World) (V V' : Int) (S S' : Nat → Prop) (hA : DcS w S ds A c) (hA' : DcS w S' es A' c') (hs : ∀ d ∈ ds, OkD V d) (hs' : ∀ d ∈ es, OkD V' d) (hL : ds.length ≤ 1048576) (hL' : es.length ≤ 1048576) :
    Calls Tryz.prog 13 #[.slice A ds.length c, .slice A' es.length c'] w fun r w' => r = .returned (.bool (desB ds es)) ∧ BH w w' := by
  obtain ⟨Z, hZ⟩ : ∃ Z, desB ds es = Z := ⟨_, rfl⟩
  rw [hZ]
  have HZ := Lib.hid hZ
  have HA := Lib.hid hA
  have HA' := Lib.hid hA'
  have HS := Lib.hid hs
  have HS' := Lib.hid hs'
  obtain ⟨L, hl⟩ : ∃ L, ds.length = L := ⟨_, rfl⟩
  obtain ⟨L', hl'⟩ : ∃ L', es.length = L' := ⟨_, rfl⟩
  rw [hl] at hL
  rw [hl'] at hL'
  have HL := Lib.hid hl
  have HL' := Lib.hid hl'
  rw [hl, hl']
  clear hZ hA hA' hs hs' hl hl'
  by_cases hll : L = L'
  · subst hll
    go_enter Tryz.func13, Tryz.ntmps13
    go_wp2_with (fail)
    go_loopw [5] (fun iv wr => ∃ i : Nat, iv = .int .i64 (i : Int) ∧ i ≤ L ∧ BH w wr ∧ desB ds es = desB (ds.drop i) (es.drop i)) (fun iv _ => L - (match iv with | .int _ n => n.toNat | _ => 0))
    case atStart => exact ⟨0, rfl, Nat.zero_le _, BH.refl _, rfl⟩
    case round =>
      obtain ⟨i, rfl, hil, hb, hfe⟩ := hrel
      have HBr := Lib.hid hb
      have hfl := HL.out
      have hfl' := HL'.out
      by_cases hlt : i < L
      · have hge : decide ((i : Int) < (L : Int)) = true := by rw [decide_eq_true_eq]; omega
        have hiL : (i : Int) < (L : Int) := by omega
        have hi0 : (0 : Int) ≤ (i : Int) := by omega
        have hi1 : wrap64 ((i : Int) + 1) = (i : Int) + 1 := wrap64_in (by omega) (by omega)
        obtain ⟨d, hd⟩ : ∃ d, ds[i]? = some d := ⟨_, List.getElem?_eq_getElem (by omega)⟩
        obtain ⟨e, he⟩ : ∃ e, es[i]? = some e := ⟨_, List.getElem?_eq_getElem (by omega)⟩
        have hst := desB_take ds es i (by omega) (by omega) _ _ hd he
        obtain ⟨g, off, A1, c1, F1, x1, rfl, _, hg, p0, p1, p2, p3, p4, p5, p6, p7, k1, f1⟩ := (HA.out.bh hb).at hd
        obtain ⟨g', off', A2, c2, F2, x2, rfl, _, hg', r0, r1, r2, r3, r4, r5, r6, r7, k2, f2⟩ := (HA'.out.bh hb).at he
        have b1 := HS.out _ (List.mem_of_getElem? hd)
        have b2 := HS'.out _ (List.mem_of_getElem? he)
        obtain ⟨n1, a1, ⟨z1, u1, h1, j1⟩, y1, fs1⟩ := d
        obtain ⟨n2, a2, ⟨z2, u2, h2, j2⟩, y2, fs2⟩ := e
        obtain ⟨q1, hq1⟩ : ∃ q1, deB ⟨n1, a1, ⟨z1, u1, h1, j1⟩, y1, fs1⟩ ⟨n2, a2, ⟨z2, u2, h2, j2⟩, y2, fs2⟩ = q1 := ⟨_, rfl⟩
        have hst2 : desB ds es = (q1 && desB (ds.drop (i + 1)) (es.drop (i + 1))) := by rw [hfe, hst, hq1]
        have HST := Lib.hid hst2
        obtain ⟨_, ⟨b11, _⟩, b12, b13'⟩ := b1
        obtain ⟨_, ⟨b21, _⟩, b22, b23'⟩ := b2
        have b13 := fun f hf => (b13' f hf).2.1
        have b23 := fun f hf => (b23' f hf).2.1
        simp only at p0 p1 p2 p3 p4 p5 p6 p7 r0 r1 r2 r3 r4 r5 r6 r7 k1 k2 f1 f2 b11 b12 b21 b22
        have HC : Hid (∀ X, BH wr X → Calls Tryz.prog 29 #[.agg #[.string ⟨n1.toArray⟩, .int .i64 a1, .int .i64 z1, .string ⟨u1.toArray⟩, .int .i64 j1, .slice A1 h1.len c1, .bool y1, .slice F1 fs1.length x1], .agg #[.string ⟨n2.toArray⟩, .int .i64 a2, .int .i64 z2, .string ⟨u2.toArray⟩, .int .i64 j2, .slice A2 h2.len c2, .bool y2, .slice F2 fs2.length x2]] X fun e u => e = .returned (.bool q1) ∧ BH X u) := Lib.hid fun X hX => by
          have hc := rDeclEq_any n1 n2 a1 a2 z1 z2 j1 j2 u1 u2 h1 h2 y1 y2 fs1 fs2 A1 A2 F1 F2 c1 c2 x1 x2 X b11 b21 (k1.kt.below hX) (k2.kt.below hX) _ _ (f1.bh hX) (f2.bh hX) b13 b23 b12 b22
          rw [hq1] at hc
          exact hc
        have HPn := Lib.hid (below_drew wr)
        clear hfl hfl' hst hst2 hq1 k1 k2 f1 f2 b11 b12 b13 b21 b22 b23 b13' b23' hd he hfe hb
        cases q1 with
        | true =>
          go_wp2_with (fail)
          go_region_held3 (fun w' => w'.cell? ⟨g, off + i * 8, none⟩ = some (.string ⟨n1.toArray⟩) ∧ w'.cell? ⟨g, off + i * 8 + 1, none⟩ = some (.int .i64 a1) ∧ w'.cell? ⟨g, off + i * 8 + 2, none⟩ = some (.int .i64 z1) ∧ w'.cell? ⟨g, off + i * 8 + 3, none⟩ = some (.string ⟨u1.toArray⟩) ∧ w'.cell? ⟨g, off + i * 8 + 4, none⟩ = some (.int .i64 j1) ∧ w'.cell? ⟨g, off + i * 8 + 5, none⟩ = some (.slice A1 h1.len c1) ∧ w'.cell? ⟨g, off + i * 8 + 6, none⟩ = some (.bool y1) ∧ w'.cell? ⟨g, off + i * 8 + 7, none⟩ = some (.slice F1 fs1.length x1) ∧ w'.cell? ⟨g', off' + i * 8, none⟩ = some (.string ⟨n2.toArray⟩) ∧ w'.cell? ⟨g', off' + i * 8 + 1, none⟩ = some (.int .i64 a2) ∧ w'.cell? ⟨g', off' + i * 8 + 2, none⟩ = some (.int .i64 z2) ∧ w'.cell? ⟨g', off' + i * 8 + 3, none⟩ = some (.string ⟨u2.toArray⟩) ∧ w'.cell? ⟨g', off' + i * 8 + 4, none⟩ = some (.int .i64 j2) ∧ w'.cell? ⟨g', off' + i * 8 + 5, none⟩ = some (.slice A2 h2.len c2) ∧ w'.cell? ⟨g', off' + i * 8 + 6, none⟩ = some (.bool y2) ∧ w'.cell? ⟨g', off' + i * 8 + 7, none⟩ = some (.slice F2 fs2.length x2)) (go_keep)
            ((go_at_call 29; refine (HC.out _ HPn.out).mono ?_; rintro e u ⟨rfl, hb⟩; have HPn := Lib.hid (BH.trans HPn.out hb); clear hb; have l0 := BH.cell HPn.out p0; have l1 := BH.cell HPn.out p1; have l2 := BH.cell HPn.out p2; have l3 := BH.cell HPn.out p3; have l4 := BH.cell HPn.out p4; have l5 := BH.cell HPn.out p5; have l6 := BH.cell HPn.out p6; have l7 := BH.cell HPn.out p7; have m0 := BH.cell HPn.out r0; have m1 := BH.cell HPn.out r1; have m2 := BH.cell HPn.out r2; have m3 := BH.cell HPn.out r3; have m4 := BH.cell HPn.out r4; have m5 := BH.cell HPn.out r5; have m6 := BH.cell HPn.out r6; have m7 := BH.cell HPn.out r7))
          have HB4 := Lib.hid (BH.trans HBr.out HPn.out)
          go_wp2_with (fail)
          exact ⟨⟨i + 1, rfl, hlt, HB4.out, by rw [HST.out]; simp⟩, by simp; omega⟩
        | false =>
          go_wp2_with (fail)
          go_region_held3 (fun w' => w'.cell? ⟨g, off + i * 8, none⟩ = some (.string ⟨n1.toArray⟩) ∧ w'.cell? ⟨g, off + i * 8 + 1, none⟩ = some (.int .i64 a1) ∧ w'.cell? ⟨g, off + i * 8 + 2, none⟩ = some (.int .i64 z1) ∧ w'.cell? ⟨g, off + i * 8 + 3, none⟩ = some (.string ⟨u1.toArray⟩) ∧ w'.cell? ⟨g, off + i * 8 + 4, none⟩ = some (.int .i64 j1) ∧ w'.cell? ⟨g, off + i * 8 + 5, none⟩ = some (.slice A1 h1.len c1) ∧ w'.cell? ⟨g, off + i * 8 + 6, none⟩ = some (.bool y1) ∧ w'.cell? ⟨g, off + i * 8 + 7, none⟩ = some (.slice F1 fs1.length x1) ∧ w'.cell? ⟨g', off' + i * 8, none⟩ = some (.string ⟨n2.toArray⟩) ∧ w'.cell? ⟨g', off' + i * 8 + 1, none⟩ = some (.int .i64 a2) ∧ w'.cell? ⟨g', off' + i * 8 + 2, none⟩ = some (.int .i64 z2) ∧ w'.cell? ⟨g', off' + i * 8 + 3, none⟩ = some (.string ⟨u2.toArray⟩) ∧ w'.cell? ⟨g', off' + i * 8 + 4, none⟩ = some (.int .i64 j2) ∧ w'.cell? ⟨g', off' + i * 8 + 5, none⟩ = some (.slice A2 h2.len c2) ∧ w'.cell? ⟨g', off' + i * 8 + 6, none⟩ = some (.bool y2) ∧ w'.cell? ⟨g', off' + i * 8 + 7, none⟩ = some (.slice F2 fs2.length x2)) (go_keep)
            ((go_at_call 29; refine (HC.out _ HPn.out).mono ?_; rintro e u ⟨rfl, hb⟩; have HPn := Lib.hid (BH.trans HPn.out hb); clear hb; have l0 := BH.cell HPn.out p0; have l1 := BH.cell HPn.out p1; have l2 := BH.cell HPn.out p2; have l3 := BH.cell HPn.out p3; have l4 := BH.cell HPn.out p4; have l5 := BH.cell HPn.out p5; have l6 := BH.cell HPn.out p6; have l7 := BH.cell HPn.out p7; have m0 := BH.cell HPn.out r0; have m1 := BH.cell HPn.out r1; have m2 := BH.cell HPn.out r2; have m3 := BH.cell HPn.out r3; have m4 := BH.cell HPn.out r4; have m5 := BH.cell HPn.out r5; have m6 := BH.cell HPn.out r6; have m7 := BH.cell HPn.out r7))
          have HB4 := Lib.hid (BH.trans HBr.out HPn.out)
          go_wp2_with (fail)
          go_ret
          exact ⟨by rw [← HZ.out, HST.out]; simp, HB4.out⟩
      · have hge : decide ((i : Int) < (L : Int)) = false := by rw [decide_eq_false_iff_not]; omega
        have HT := Lib.hid (show desB ds es = true by rw [hfe, List.drop_eq_nil_of_le (by omega), List.drop_eq_nil_of_le (by omega), desB])
        clear hfl hfl' hfe hb
        go_wp2_with (fail)
        go_ret
        exact ⟨by rw [← HZ.out, HT.out]; rfl, HBr.out⟩
  · have t1 : ¬ ((L : Int) = (L' : Int)) := by omega
    have HT := Lib.hid (show desB ds es = false from desB_len ds es (by rw [HL.out, HL'.out]; exact hll))
    go_enter Tryz.func13, Tryz.ntmps13
    go_wp2_with (fail)
    go_ret
    exact ⟨by rw [← HZ.out, HT.out]; rfl, BH.refl _⟩
end Go.Proofs.YtpkiheenkpcebaaGreatDoor
