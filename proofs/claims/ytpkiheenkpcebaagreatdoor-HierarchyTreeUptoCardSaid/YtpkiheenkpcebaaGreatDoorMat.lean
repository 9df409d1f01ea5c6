/- (*Hierarchy).add of a declaration with fields. No condition but bounded sizes. hierarchy.New. No condition. -/
import Derived.Test.YtpkiheenkpcebaaGreatDoorMas
import Derived.Test.YtpkiheenkpcebaaGreatDoorMan
import Derived.Deep.CutBlock
set_option linter.unusedVariables false
set_option linter.unusedSimpArgs false
namespace Go.Proofs.YtpkiheenkpcebaaGreatDoor
open Go.RowKit Sx

theorem infoStr : (Tryz.prog.info? 9).map (fun i => (i.zero, i.size, i.bytes)) = some (some (.string ⟨#[]⟩), 1, 16) := by kernel_rfl

/-- what the operations ahead of the store into the map leave -/
def adV (wc : World) (p b gD : Nat) (n : List UInt8) (ar k o : Int) (t : List UInt8) (kids : Fo) (A : Option Addr) (c : Nat) (cc : Bool) (F : Option Addr) (fs : List (List UInt8 × Tm)) (x : Nat) (j : Nat) (v : Value) (w : World) : Prop :=
  match j with
  | 0 => v = .pointer (some ⟨p, 0, none⟩)
  | 1 => v = .pointer (some ⟨p, 0, none⟩)
  | 2 => v = .pointer (some ⟨p, 1, none⟩)
  | 3 => v = .map (some b)
  | 4 => v = .pointer (some ⟨gD, 0, none⟩)
  | 5 => v = .string ⟨n.toArray⟩
  | 6 => v = .agg #[.string ⟨n.toArray⟩, .int .i64 ar, .int .i64 k, .string ⟨t.toArray⟩, .int .i64 o, .slice A kids.len c, .bool cc, .slice F fs.length x]
  | 7 => ∃ A2 c2 F2 x2, v = .agg #[.string ⟨n.toArray⟩, .int .i64 ar, .int .i64 k, .string ⟨t.toArray⟩, .int .i64 o, .slice A2 kids.len c2, .bool cc, .slice F2 fs.length x2] ∧ KS w (fun x => wc.heap.size ≤ x) kids A2 c2 ∧ FlS w (fun x => wc.heap.size ≤ x) fs F2 x2
  | _ => True
theorem adV_bh {wc : World} {p b gD : Nat} {n : List UInt8} {ar k o : Int} {t : List UInt8} {kids : Fo} {A : Option Addr} {c : Nat} {cc : Bool} {F : Option Addr} {fs : List (List UInt8 × Tm)} {x : Nat} {j : Nat} {v : Value} {w w' : World} (h : adV wc p b gD n ar k o t kids A c cc F fs x j v w) (hb : BH w w') : adV wc p b gD n ar k o t kids A c cc F fs x j v w' := by
  unfold adV at *
  split at h
  all_goals first
    | exact h
    | (obtain ⟨A2, c2, F2, x2, e, hk, hf⟩ := h; exact ⟨A2, c2, F2, x2, e, hk.bh hb, hf.bh hb⟩)

set_option maxHeartbeats 8000000 in
set_option maxRecDepth 100000 in
theorem hadd_any (V : Int) (B p b : Nat) (Q : Nat → Prop) (v : Value) (l : List (List UInt8 × Value)) (ds : List De) (d : De) (A F : Option Addr) (c x : Nat) (w : World) (h : Hier w B p b Q v l ds) (hBw : B ≤ w.heap.size) (hlen : ds.length ≤ 1000) (hok : OkD V d) (hnew : getM l d.name = none)
    (hV0 : 0 ≤ V) (hV1 : V ≤ 1152921504606846976) (hK : KS w (HS p b v Q) d.super.kids A c) (hFl : FlS w (HS p b v Q) d.fields F x) :
    Calls Tryz.prog 48 #[.pointer (some ⟨p, 0, none⟩), .agg #[.string ⟨d.name.toArray⟩, .int .i64 d.arity, .int .i64 d.super.k, .string ⟨d.super.t.toArray⟩, .int .i64 d.super.o, .slice A d.super.kids.len c, .bool d.conc, .slice F d.fields.length x]] w
      fun e w' => ∃ v' u, e = .returned (.tuple #[]) ∧ Hier w' B p b Q v' (l ++ [(d.name, u)]) (ds ++ [d]) ∧ KH p b v v' w w' := by
  obtain ⟨i0, hi, hz0, hz1, hz2⟩ := info_parts infoStr
  obtain ⟨n, ar, ⟨k, t, kids, o⟩, cc, fs⟩ := d
  simp only at hnew hK hFl ⊢
  have hn : n.length ≤ 1048576 := hok.1
  have HOk := Lib.hid hok
  have HFl := Lib.hid hFl
  clear hok hFl
  obtain ⟨A5, c5, rfl, hc5⟩ := own_shape h.own
  have f1 := bh_alloc (BH.refl w) (.cells #[.string ⟨n.toArray⟩, .int .i64 ar, .int .i64 k, .string ⟨t.toArray⟩, .int .i64 o, .slice A kids.len c, .bool cc, .slice F fs.length x] 37)
  have e1 := heap_alloc_new w (.cells #[.string ⟨n.toArray⟩, .int .i64 ar, .int .i64 k, .string ⟨t.toArray⟩, .int .i64 o, .slice A kids.len c, .bool cc, .slice F fs.length x] 37)
  have H := Lib.hid h
  have HK := Lib.hid hK
  have HNew := Lib.hid hnew
  have HF := Lib.hid (And.intro e1 f1)
  have hp1 := (Below.block f1 _ (heap_lt h.blk)).trans h.blk
  clear h hK hnew hc5
  go_enter Tryz.func48, Tryz.ntmps48
  go_upto_region 1 with (fail)
  refine gen_wp _ (fun X => X.heap[w.heap.size]? = some (.cells #[.string ⟨n.toArray⟩, .int .i64 ar, .int .i64 k, .string ⟨t.toArray⟩, .int .i64 o, .slice A kids.len c, .bool cc, .slice F fs.length x] 37 (0, 0)) ∧ BH w X) HF.out ?_
  rintro X1 ⟨xx1, xx2⟩
  obtain ⟨gD, hgD⟩ : ∃ gD, w.heap.size = gD := ⟨_, rfl⟩
  have HgD := Lib.hid hgD
  rw [hgD] at xx1 ⊢
  have HX := Lib.hid (And.intro xx1 xx2)
  obtain ⟨⟨r0, r1, r2, r3, r4, r5, r6, r7⟩, _⟩ := row8 xx1
  have hpX := (Below.block xx2 _ (heap_lt H.out.blk)).trans H.out.blk
  obtain ⟨s0, s1, y0, y1⟩ := row2 hpX
  have HO := Lib.hid (H.out.bh (BH.trans xx2 (below_drew X1))).own
  have HpX := Lib.hid hpX
  have hpl := heap_lt hpX
  have hbl : b < X1.heap.size := Nat.lt_of_lt_of_le H.out.map.lt (Below.size xx2)
  have hBX : B ≤ X1.heap.size := Nat.le_trans hBw (Below.size xx2)
  clear xx1 xx2 hgD hp1 e1 f1 hpX HF
  go_cut [] (fun wx => Hid (∃ v' : Value, X1.heap.size ≤ wx.heap.size ∧ wx.heap[p]? = some (.cells #[v', .map (some b)] 77 (0, 0)) ∧ wx.ownsRow B 9 1 v' (ds.length + 1) ((namesV ds) ++ [.string ⟨n.toArray⟩]) ∧ KH p b (.slice A5 ds.length c5) v' X1 wx ∧ wx.heap[b]? = X1.heap[b]? ∧ v'.ownBlock ≠ some p ∧ v'.ownBlock ≠ some b))
  case first =>
    go_region_law (refine step_app _ (by rfl) _ _ _ (by rfl) B 9 i0 _ 1 16 Tryz.underlying65 hi hz0 hz1 hz2 rfl (by decide) (.slice A5 ds.length c5) ds.length (namesV ds) (by rfl) (HO.out.alloc _) (some ⟨X1.heap.size, 0, none⟩) 1 1 [.string ⟨n.toArray⟩] (by rfl) (cel1 (heap_alloc_new _ _)) (by intro u hu; simp at hu; subst hu; rfl) (by unfold maxLen; omega) (by omega) (by simp; omega) ?_; intro v1 w5 ho hg ha; obtain ⟨A6, c6, rfl, hc6⟩ := own_shape ho; have hp5 := Lib.hid ((hg.block p (by simp; omega) (fun e => H.out.hvp e.symm)).trans ((Below.heap_alloc X1 _ p hpl).trans HpX.out)); have HO2 := Lib.hid (And.intro ho (And.intro hg ha)); obtain ⟨s0, s1, y0, y1⟩ := row2 hp5.out; clear ho hg ha hc6)
    all_goals
      go_wp2_with (fail)
      go_meet
      obtain ⟨ho, hg, ha⟩ := HO2.out
      have hs5 := hg.size
      simp at hs5
      have hne' : (Value.slice A6 (ds.length + 1) c6).ownBlock ≠ some p := by
        rcases ha with e | e
        · rw [e]; exact H.out.hvp
        · rw [e]; simp; omega
      refine Lib.hid ⟨.slice A6 (ds.length + 1) c6, by simp [size_set]; omega, heap_set (i := 0) hp5.out _, ?_, ⟨hg.os, hg.tape, hg.output, by simp [size_set]; omega, fun x hx hxp hxb hxv => ?_, ?_⟩, ?_, hne', ?_⟩
      · have := ho.kept (row := some p) (gb_setCell (p := ⟨p, 0, none⟩) (World.grownBy.refl _ _) (.inl rfl) (Value.slice A6 (ds.length + 1) c6)) (.inr hne')
        simpa using this
      · exact (heap_far hxp _).trans ((hg.block x (by simp; omega) (fun e => hxv e.symm)).trans (Below.heap_alloc X1 _ x hx))
      · rcases ha with e | e
        · exact .inl e
        · exact .inr ⟨_, by simp, e⟩
      · exact (heap_far (p := ⟨p, 0, none⟩) (fun e => H.out.hpb e.symm) _).trans ((hg.block b (by simp; omega) (fun e => H.out.hvb e.symm)).trans (Below.heap_alloc X1 _ b hbl))
      · rcases ha with e | e
        · rw [e]; exact H.out.hvb
        · rw [e]; simp; omega
  case rest =>
    obtain ⟨v', q1, q2, q3, q4, q5, q6, q7⟩ := hcut.out
    have hX1 := HX.out
    have hHX := H.out.bh hX1.2
    have hgd : gD ≠ p ∧ gD ≠ b ∧ (Value.slice A5 ds.length c5).ownBlock ≠ some gD := by
      have hg := HgD.out
      refine ⟨by have := heap_lt H.out.blk; omega, by have := H.out.map.lt; omega, fun e => by have := (H.out.own.lt gD e).2; omega⟩
    have hD := (q4.block gD (heap_lt hX1.1) hgd.1 hgd.2.1 hgd.2.2).trans hX1.1
    have hkp : ∀ x, HS p b (Value.slice A5 ds.length c5) Q x → x < X1.heap.size → wc.heap[x]? = X1.heap[x]? ∧ HS p b v' Q x := fun x hx hl => q4.far hx hl (fun y hy => Nat.lt_of_lt_of_le (H.out.hQ y hy) (Below.size hX1.2))
    have hKc : KS wc (HS p b v' Q) kids A c := (HK.out.bh hX1.2).keep q4.size hkp
    have hFc : FlS wc (HS p b v' Q) fs F x := (HFl.out.bh hX1.2).keep q4.size hkp
    have hMc : MapL wc b l := (hHX.map).keep q5
    have hRc : ∀ (i : Nat) (d : De), ds[i]? = some d → ∃ u : Value, l[i]? = some (d.name, u) ∧ DS wc (HS p b v' Q) u d := by
      intro i d hd
      obtain ⟨u, h1, h2⟩ := hHX.row i d hd
      exact ⟨u, h1, h2.keep q4.size hkp⟩
    have hKH : KH p b (.slice A5 ds.length c5) v' w wc := (KH.bh hX1.2).trans q4
    have HW := Lib.hid (And.intro q2 (And.intro q3 (And.intro hMc (And.intro hRc (And.intro (And.intro hKc hFc) (And.intro hD (And.intro hKH (And.intro q6 q7))))))))
    clear q1 q2 q3 q4 q5 q6 q7 hD hkp hKc hFc hMc hRc hKH hX1 hHX hcut HX HpX HO r0 r1 r2 r3 r4 r5 r6 r7 s0 s1 y0 y1
    go_upto_region 2 with (fail)
    obtain ⟨RR, hRR⟩ : ∃ RR : Act → World → Prop, RR = (fun (_ : Act) W => Hid (∃ u, Hier W B p b Q v' (l ++ [(n, u)]) (ds ++ [⟨n, ar, ⟨k, t, kids, o⟩, cc, fs⟩]) ∧ KH p b (.slice A5 ds.length c5) v' w W)) := ⟨_, rfl⟩
    have HRR := Lib.hid hRR
    clear hRR
    refine wp_region_last (γ := Unit) (by kernel_rfl) (fun _ => adV wc p b gD n ar k o t kids A c cc F fs x) (fun _ W => BH wc W) (fun _ W _ W' => BH W W') (fun _ _ => True) RR () 8 _ rfl (below_drew wc) (fun _ => trivial) (fun _ _ _ _ h1 h2 => BH.trans h1 h2) (fun _ _ _ _ _ _ h1 h2 => adV_bh h1 h2) (by kernel_rfl) ?_ ?_ ?_
    · refine ⟨?_, ?_, ?_, ?_, ?_, ?_, ?_, ?_, trivial⟩
      · intro m a W hI _ hF hD
        have h := same_of hF 0 (by kernel_rfl)
        go_simp
        exact ⟨_, rfl, rfl, BH.refl _⟩
      · intro m a W hI _ hF hD
        have h : a.tmps[15]?.getD undef = .pointer (some ⟨p, 0, none⟩) := dep_of hD 0 15 (by kernel_rfl) rfl rfl
        go_simp
        exact ⟨_, rfl, rfl, BH.refl _⟩
      · intro m a W hI _ hF hD
        have h : a.tmps[16]?.getD undef = .pointer (some ⟨p, 0, none⟩) := dep_of hD 1 16 (by kernel_rfl) rfl rfl
        go_simp
        exact ⟨_, rfl, rfl, BH.refl _⟩
      · intro m a W hI _ hF hD
        have h : a.tmps[17]?.getD undef = .pointer (some ⟨p, 1, none⟩) := dep_of hD 2 17 (by kernel_rfl) rfl rfl
        obtain ⟨s0, s1, _⟩ := row2 ((Below.block hI _ (heap_lt HW.out.1)).trans HW.out.1)
        go_simp
        exact ⟨_, rfl, rfl, BH.refl _⟩
      · intro m a W hI _ hF hD
        have h := same_of hF 3 (by kernel_rfl)
        go_simp
        exact ⟨_, rfl, rfl, BH.refl _⟩
      · intro m a W hI _ hF hD
        have h : a.tmps[19]?.getD undef = .pointer (some ⟨gD, 0, none⟩) := dep_of hD 4 19 (by kernel_rfl) rfl rfl
        obtain ⟨⟨r0, r1, r2, r3, r4, r5, r6, r7⟩, _⟩ := row8 ((Below.block hI _ (heap_lt HW.out.2.2.2.2.2.1)).trans HW.out.2.2.2.2.2.1)
        go_simp
        exact ⟨_, rfl, rfl, BH.refl _⟩
      · intro m a W hI _ hF hD
        have h := same_of hF 3 (by kernel_rfl)
        obtain ⟨⟨r0, r1, r2, r3, r4, r5, r6, r7⟩, _⟩ := row8 ((Below.block hI _ (heap_lt HW.out.2.2.2.2.2.1)).trans HW.out.2.2.2.2.2.1)
        go_simp
        exact ⟨_, rfl, rfl, BH.refl _⟩
      · intro m a W hI _ hF hD
        have h : a.tmps[21]?.getD undef = .agg #[.string ⟨n.toArray⟩, .int .i64 ar, .int .i64 k, .string ⟨t.toArray⟩, .int .i64 o, .slice A kids.len c, .bool cc, .slice F fs.length x] := dep_of hD 6 21 (by kernel_rfl) rfl rfl
        go_simp
        refine (copyDecl_any V ⟨n, ar, ⟨k, t, kids, o⟩, cc, fs⟩ A F c x W (HS p b v' Q) hV0 hV1 HOk.out (HW.out.2.2.2.2.1.1.bh hI) (HW.out.2.2.2.2.1.2.bh hI)).mono ?_
        rintro e u ⟨A2, c2, F2, x2, rfl, h1, h3, h2⟩
        have hs := Below.size hI
        exact ⟨_, rfl, ⟨A2, c2, F2, x2, rfl, h1.keep (Nat.le_refl _) fun x hx _ => ⟨rfl, Nat.le_trans hs hx⟩, h3.keep (Nat.le_refl _) fun x hx _ => ⟨rfl, Nat.le_trans hs hx⟩⟩, h2⟩
    · intro m a W hI hF hall
      have h18 : a.tmps[18]?.getD undef = .map (some b) := all_of hall 3 18 rfl rfl
      have h20 : a.tmps[20]?.getD undef = .string ⟨n.toArray⟩ := all_of hall 5 20 rfl rfl
      obtain ⟨A2, c2, F2, x2, h22, hk2, hf2⟩ : ∃ A2 c2 F2 x2, a.tmps[22]?.getD undef = .agg #[.string ⟨n.toArray⟩, .int .i64 ar, .int .i64 k, .string ⟨t.toArray⟩, .int .i64 o, .slice A2 kids.len c2, .bool cc, .slice F2 fs.length x2] ∧ KS W (fun x => wc.heap.size ≤ x) kids A2 c2 ∧ FlS W (fun x => wc.heap.size ≤ x) fs F2 x2 := all_of hall 7 22 rfl rfl
      obtain ⟨w1, w2, w3, w4, w5, w6, w7, w8, w9⟩ := HW.out
      have hMW : MapL W b l := w3.keep (Below.block hI _ w3.lt)
      obtain ⟨W', hrun, m1, m2, m3⟩ := hMW.push (P := Tryz.prog) (t := 75) Tryz.underlying9 Tryz.underlying75 (s := n) (by unfold maxLen; omega) (.agg #[.string ⟨n.toArray⟩, .int .i64 ar, .int .i64 k, .string ⟨t.toArray⟩, .int .i64 o, .slice A2 kids.len c2, .bool cc, .slice F2 fs.length x2]) HNew.out
      have hrun' : (Instr.mapUpdate 75 (.map (some b)) (.string ⟨n.toArray⟩) (.agg #[.string ⟨n.toArray⟩, .int .i64 ar, .int .i64 k, .string ⟨t.toArray⟩, .int .i64 o, .slice A2 kids.len c2, .bool cc, .slice F2 fs.length x2])).run Tryz.prog W = .ok () W' := hrun
      have hfin : RR a W' := by
        rw [HRR.out]
        have hsW := Below.size hI
        have hlp := heap_lt w1
        have hlb := w3.lt
        have hBl : ∀ x, x < wc.heap.size → x ≠ b → W'.heap[x]? = wc.heap[x]? := fun x hx hxb => (m2.block x (by omega) (fun e => hxb (by cases e; rfl))).trans (Below.block hI x hx)
        have hkp : ∀ x, HS p b v' Q x → x < wc.heap.size → W'.heap[x]? = wc.heap[x]? ∧ HS p b v' Q x := fun x hx hl => ⟨hBl x hl hx.1.2.1, hx⟩
        refine Lib.hid ⟨_, ⟨(hBl p hlp H.out.hpb).trans w1, ?_, m1, by simp [H.out.len], ?_, H.out.hpb, w8, w9, H.out.hB, fun y hy => by have := H.out.hQ y hy; have := w7.size; omega, H.out.hnQ.1, H.out.hnQ.2.1, ?_⟩, w7.trans ⟨m2.os.trans (Below.os hI), m2.tape.trans (Below.tape hI), m2.output.trans (Below.output hI), by omega, fun x hx _ hxb _ => hBl x hx hxb, .inl rfl⟩⟩
        · have o1 := w2.kept (row := none) (gb_below hI none) (by
            cases hv : v'.ownBlock with
            | none => exact .inl rfl
            | some x => exact .inr (by simp))
          have o2 := o1.kept (row := some b) m2 (.inr w9)
          simpa [namesV] using o2
        · intro i d' hd'
          rcases Nat.lt_or_ge i ds.length with hlt | hge
          · rw [List.getElem?_append_left hlt] at hd'
            obtain ⟨u, h1, h2⟩ := w4 i d' hd'
            refine ⟨u, ?_, h2.keep (by omega) hkp⟩
            rw [List.getElem?_append_left (by rw [H.out.len]; exact hlt)]
            exact h1
          · rw [List.getElem?_append_right hge] at hd'
            obtain ⟨h0, rfl⟩ : i - ds.length = 0 ∧ (⟨n, ar, ⟨k, t, kids, o⟩, cc, fs⟩ : De) = d' := by
              rcases hj : i - ds.length with _ | j
              · rw [hj] at hd'
                exact ⟨rfl, by simpa using hd'⟩
              · rw [hj] at hd'
                simp at hd'
            have hkk : ∀ x, wc.heap.size ≤ x → x < W.heap.size → W'.heap[x]? = W.heap[x]? ∧ HS p b v' Q x := fun x hx hl => ⟨m2.block x hl (fun e => by cases e; omega), ⟨by omega, by omega, fun e => by have := (w2.lt x e).2; omega⟩, fun hq => by have := H.out.hQ x hq; have := w7.size; omega⟩
            refine ⟨_, ?_, A2, c2, F2, x2, rfl, hk2.keep (by omega) hkk, hf2.keep (by omega) hkk⟩
            · rw [List.getElem?_append_right (by rw [H.out.len]; exact hge), H.out.len, h0]
              rfl
        · intro y hy hq
          have h1 := H.out.hQ y hq
          rcases w7.own with e | ⟨g, hg, e⟩
          · exact H.out.hnQ.2.2 y (e.symm.trans hy) hq
          · rw [e] at hy; cases hy; omega
      clear m1 m2 m3 hrun hMW w1 w2 w3 w4 w5 w6 w7 w8 w9
      go_simp
      exact hfin
    · intro a W hF hR
      rw [HRR.out] at hR
      obtain ⟨u, h1, h2⟩ := hR.out
      exact bodyPost_end (results_none rfl _ _ _) (hF.defers.trans rfl) ⟨v', u, rfl, h1, h2⟩
end Go.Proofs.YtpkiheenkpcebaaGreatDoor
namespace Go.Proofs.YtpkiheenkpcebaaGreatDoor
open Go.RowKit Sx

def nm0 : List (List UInt8) := [[73, 110, 116], [66, 111, 111, 108], [83, 116, 114, 105, 110, 103], [78, 105, 108]]
def dNew (s : List UInt8) : De := ⟨s, 0, ⟨0, [], .nil, 0⟩, true, []⟩
/-- the declarations of New -/
def ds0 : List De := nm0.map dNew

set_option maxHeartbeats 8000000 in
set_option maxRecDepth 100000 in
theorem hnew_any (Q : Nat → Prop) (w : World) (hQ : ∀ x, Q x → x < w.heap.size) : Calls Tryz.prog 10 #[] w fun e w' => ∃ p b v l, e = .returned (.pointer (some ⟨p, 0, none⟩)) ∧ Hier w' w.heap.size p b Q v l ds0 ∧ BH w w' := by
  have hmm := @run_makeMap Tryz.prog
  go_enter Tryz.func10, Tryz.ntmps10
  go_upto_region 2 with (fail)
  refine gen_wp _ (fun X => Hier X w.heap.size (w.heap.size + 1) w.heap.size Q (.slice none 0 0) [] [] ∧ BH w X) ?_ ?_
  · have h1 := bh_alloc (bh_alloc (BH.refl w) (.map #[] 0)) (.cells #[.slice none 0 0, .map (some w.heap.size)] 77)
    have h2 := heap_alloc_new (w.alloc (.map #[] 0)) (.cells #[.slice none 0 0, .map (some w.heap.size)] 77)
    rw [World.size_alloc] at h2
    exact ⟨⟨h2, World.ownsRow_nil _ _ _ _, (MapL.made w).keep (Below.heap_alloc (w.alloc (.map #[] 0)) _ w.heap.size (by simp)), rfl, fun i d hd => by simp at hd, by omega, by simp [Value.ownBlock], by simp [Value.ownBlock], ⟨by omega, Nat.le_refl _⟩, fun y hy => by have := hQ y hy; simp; omega, fun h => by have := hQ _ h; omega, fun h => by have := hQ _ h; omega, fun y hy => by simp [Value.ownBlock] at hy⟩, h1⟩
  rintro X ⟨hH, hb⟩
  have HH := Lib.hid hH
  have HB := Lib.hid hb
  have hpl := heap_lt hH.blk
  have hbl := hH.map.lt
  have hS := heap_alloc_new X (.cells #[.string ⟨#[73, 110, 116]⟩, .string ⟨#[66, 111, 111, 108]⟩, .string ⟨#[83, 116, 114, 105, 110, 103]⟩, .string ⟨#[78, 105, 108]⟩] 9)
  have fS := bh_alloc (BH.refl X) (.cells #[.string ⟨#[73, 110, 116]⟩, .string ⟨#[66, 111, 111, 108]⟩, .string ⟨#[83, 116, 114, 105, 110, 103]⟩, .string ⟨#[78, 105, 108]⟩] 9)
  have HS := Lib.hid (And.intro hS fS)
  clear hH hb hS fS hmm
  go_wp2_with (fail)
  go_loopw [9] (fun iv wr => ∃ (i : Nat) (v : Value) (l : List (List UInt8 × Value)), iv = .int .i64 (i : Int) ∧ i ≤ 4 ∧ Hier wr w.heap.size (w.heap.size + 1) w.heap.size Q v l (ds0.take i) ∧ BH w wr ∧ v.ownBlock ≠ some X.heap.size ∧
      wr.heap[X.heap.size]? = some (.cells #[.string ⟨#[73, 110, 116]⟩, .string ⟨#[66, 111, 111, 108]⟩, .string ⟨#[83, 116, 114, 105, 110, 103]⟩, .string ⟨#[78, 105, 108]⟩] 9 (0, 0))) (fun iv _ => 4 - (match iv with | .int _ n => n.toNat | _ => 0))
  case atStart => exact ⟨0, _, [], rfl, by omega, HH.out.bh HS.out.2, BH.trans HB.out HS.out.2, by simp [Value.ownBlock], HS.out.1⟩
  case round =>
    obtain ⟨i, v, l, rfl, hi4, hH, hb, hvS, hS⟩ := hrel
    have HHr := Lib.hid hH
    have HBr := Lib.hid hb
    have HVS := Lib.hid hvS
    have HSr := Lib.hid hS
    by_cases hlt : i < 4
    · obtain ⟨s, hs, hcell, hnew⟩ : ∃ s, nm0[i]? = some s ∧ wr.cell? ⟨X.heap.size, i, none⟩ = some (.string ⟨s.toArray⟩) ∧ findD (ds0.take i) s = none := by
        have h4 : i = 0 ∨ i = 1 ∨ i = 2 ∨ i = 3 := by omega
        rcases h4 with rfl | rfl | rfl | rfl
        · exact ⟨_, rfl, cell_of_row _ _ 0 _ _ _ hS, by decide⟩
        · exact ⟨_, rfl, cell_of_row _ _ 1 _ _ _ hS, by decide⟩
        · exact ⟨_, rfl, cell_of_row _ _ 2 _ _ _ hS, by decide⟩
        · exact ⟨_, rfl, cell_of_row _ _ 3 _ _ _ hS, by decide⟩
      have hsl : s.length ≤ 1048576 := by
        have hm : s ∈ nm0 := List.mem_of_getElem? hs
        have key : ∀ s ∈ nm0, s.length ≤ 1048576 := by decide
        exact key s hm
      have hge : decide ((i : Int) < 4) = true := by rw [decide_eq_true_eq]; omega
      have hiL : (i : Int) < 4 := by omega
      have hi0 : (0 : Int) ≤ (i : Int) := by omega
      have Hs := Lib.hid hs
      have HN := Lib.hid (HHr.out.none' hnew)
      clear hH hb hvS hS hs hnew
      go_wp2_with (fail)
      refine (hadd_any 1 w.heap.size (w.heap.size + 1) w.heap.size Q v l (ds0.take i) (dNew s) none none 0 0 wr HHr.out (Below.size HBr.out) (by rw [List.length_take]; omega) ⟨hsl, ⟨by show fsize Fo.nil ≤ _; decide, by show ([] : List UInt8).length ≤ _; decide, trivial, rfl⟩, by show ([] : List (List UInt8 × Tm)).length ≤ _; decide, fun f h => by cases h⟩ HN.out (by decide) (by decide) ⟨Nat.le_refl _, [], reads_nil _ _, rfl⟩ (FlS.nil _ _)).mono ?_
      rintro e wr2 ⟨v2, u, rfl, h1, h2⟩
      have H1 := Lib.hid (And.intro h1 h2)
      clear h1 h2
      go_wp2_with (fail)
      obtain ⟨h1, h2⟩ := H1.out
      have hsz := heap_lt HSr.out
      refine ⟨⟨i + 1, v2, l ++ [((dNew s).name, u)], rfl, hlt, ?_, Below.trans (show Below w.heap.size w wr from HBr.out) (h2.below HHr.out (Below.size HBr.out)), ?_, (h2.block _ hsz (by omega) (by omega) HVS.out).trans HSr.out⟩, by simp; omega⟩
      · have e1 : ds0.take (i + 1) = ds0.take i ++ [dNew s] := by
          rw [List.take_add_one, ds0, List.getElem?_map, Hs.out]
          rfl
        rw [e1]
        exact h1
      · rcases h2.own with e | ⟨g, hg, e⟩
        · rw [e]; exact HVS.out
        · rw [e]; intro e'; cases e'; omega
    · have h4 : i = 4 := by omega
      subst h4
      clear hH hb hvS hS
      go_wp2_with (fail)
      go_ret
      exact ⟨_, _, _, _, rfl, HHr.out, HBr.out⟩
end Go.Proofs.YtpkiheenkpcebaaGreatDoor
