/- (*Hierarchy).Clone. No condition but bounded sizes. (*Hierarchy).Equal. No condition but bounded sizes. -/
import Derived.Test.YtpkiheenkpcebaaGreatDoorMav
import Derived.Test.YtpkiheenkpcebaaGreatDoorMat
import Derived.Test.YtpkiheenkpcebaaGreatDoorMaq
import Derived.Test.YtpkiheenkpcebaaGreatDoorMax
import Derived.Test.YtpkiheenkpcebaaGreatDoorMbd
import Derived.Test.YtpkiheenkpcebaaGreatDoorMan
set_option linter.unusedVariables false
set_option linter.unusedSimpArgs false
namespace Go.Proofs.YtpkiheenkpcebaaGreatDoor
open Go.RowKit Sx

/-- the names of a hierarchy differ -/
theorem Hier.fresh {w : World} {B p b : Nat} {Q : Nat → Prop} {v : Value} {l : List (List UInt8 × Value)} {ds : List De} (h : Hier w B p b Q v l ds) {i : Nat} {d : De} (hd : ds[i]? = some d) : findD (ds.take i) d.name = none := by
  obtain ⟨es, clock, _, _, hn, _⟩ := h.map
  refine List.find?_eq_none.2 fun e he => ?_
  obtain ⟨j, hj⟩ := List.getElem?_of_mem he
  have hji : j < i := by
    have := (List.getElem?_eq_some_iff.1 hj).1
    rw [List.length_take] at this
    omega
  rw [List.getElem?_take, if_pos hji] at hj
  obtain ⟨u1, h1, _⟩ := h.row i d hd
  obtain ⟨u2, h2, _⟩ := h.row j e hj
  obtain ⟨hil, e1⟩ := List.getElem?_eq_some_iff.1 h1
  obtain ⟨hjl, e2⟩ := List.getElem?_eq_some_iff.1 h2
  have hne := List.pairwise_iff_getElem.1 hn j i (by simpa using hjl) (by simpa using hil) hji
  rw [List.getElem_map, List.getElem_map, e1, e2] at hne
  simpa using hne

set_option maxHeartbeats 8000000 in
set_option maxRecDepth 100000 in
theorem hclone_any (V : Int) (B p b : Nat) (Q : Nat → Prop) (v : Value) (l : List (List UInt8 × Value)) (ds : List De) (w : World) (H : Hier w B p b Q v l ds) (hds : ∀ d ∈ ds, OkD V d) (hBw : B ≤ w.heap.size) (hlen : ds.length ≤ 1000) (hV0 : 0 ≤ V) (hV1 : V ≤ 1152921504606846976) :
    Calls Tryz.prog 46 #[.pointer (some ⟨p, 0, none⟩)] w fun e w' => ∃ p2 b2 v2 l2, e = .returned (.pointer (some ⟨p2, 0, none⟩)) ∧ Hier w' w.heap.size p2 b2 (fun y => y = p ∨ y = b ∨ v.ownBlock = some y) v2 l2 ds ∧ BH w w' := by
  have hmm := @run_makeMap Tryz.prog
  obtain ⟨A5, c5, rfl, hc5⟩ := own_shape H.own
  obtain ⟨Q2, hQ2⟩ : ∃ Q2 : Nat → Prop, Q2 = (fun y => y = p ∨ y = b ∨ (Value.slice A5 ds.length c5).ownBlock = some y) := ⟨_, rfl⟩
  rw [← hQ2]
  have hQ : ∀ x, Q2 x → x < w.heap.size := by
    rw [hQ2]
    intro x hx
    rcases hx with rfl | rfl | hx
    · exact heap_lt H.blk
    · exact H.map.lt
    · exact (H.own.lt x hx).2
  have HH := Lib.hid H
  have HD := Lib.hid hds
  have HQ2 := Lib.hid hQ2
  have hC := Cel.of_own H.own
  have HC := Lib.hid hC
  have HQ := Lib.hid hQ
  clear H hds hC hc5 hQ2
  go_enter Tryz.func46, Tryz.ntmps46
  go_upto_region 2 with (fail)
  refine gen_wp _ (fun X => Hier X w.heap.size (w.heap.size + 1) w.heap.size Q2 (.slice none 0 0) [] [] ∧ BH w X) ?_ ?_
  · have h1 := bh_alloc (bh_alloc (BH.refl w) (.map #[] 0)) (.cells #[.slice none 0 0, .map (some w.heap.size)] 77)
    have h2 := heap_alloc_new (w.alloc (.map #[] 0)) (.cells #[.slice none 0 0, .map (some w.heap.size)] 77)
    rw [World.size_alloc] at h2
    exact ⟨⟨h2, World.ownsRow_nil _ _ _ _, (MapL.made w).keep (Below.heap_alloc (w.alloc (.map #[] 0)) _ w.heap.size (by simp)), rfl, fun i d hd => by simp at hd, by omega, by simp [Value.ownBlock], by simp [Value.ownBlock], ⟨by omega, Nat.le_refl _⟩, fun y hy => by have := hQ y hy; simp; omega, fun h => by have := hQ _ h; omega, fun h => by have := hQ _ h; omega, fun y hy => by simp [Value.ownBlock] at hy⟩, h1⟩
  rintro X ⟨hH, hb⟩
  have HX := Lib.hid (And.intro hH hb)
  obtain ⟨s0, s1, _⟩ := row2 (HH.out.bh hb).blk
  clear hH hb hmm hQ
  go_wp2_with (fail)
  go_loopw [14] (fun iv wr => ∃ (i : Nat), iv = .int .i64 (i : Int) ∧ i ≤ ds.length ∧ Hid (∃ (v2 : Value) (l2 : List (List UInt8 × Value)), Hier wr w.heap.size (w.heap.size + 1) w.heap.size Q2 v2 l2 (ds.take i) ∧ BH w wr)) (fun iv _ => ds.length - (match iv with | .int _ n => n.toNat | _ => 0))
  case atStart => exact ⟨0, rfl, Nat.zero_le _, Lib.hid ⟨_, [], HX.out.1, HX.out.2⟩⟩
  case round =>
    obtain ⟨i, rfl, hil, hR⟩ := hrel
    obtain ⟨v2, l2, hH2, hb2⟩ := hR.out
    have H2 := Lib.hid (And.intro hH2 hb2)
    by_cases hlt : i < ds.length
    · have hge : decide ((i : Int) < (ds.length : Int)) = true := by rw [decide_eq_true_eq]; omega
      have hiL : (i : Int) < (ds.length : Int) := by omega
      have hi0 : (0 : Int) ≤ (i : Int) := by omega
      obtain ⟨d, hd⟩ : ∃ d, ds[i]? = some d := ⟨_, List.getElem?_eq_getElem hlt⟩
      obtain ⟨g, off, rfl, hg, hcell⟩ := (HC.out.bh hb2).2.2.2.2 (by omega)
      have q0 := hcell i (strV d.name) (by rw [namesV, List.getElem?_map, hd]; rfl)
      obtain ⟨u, h1, A1, c1, F1, x1, rfl, hk1, hf1⟩ := HH.out.row i d hd
      have hu : getM l d.name = some (.agg #[.string ⟨d.name.toArray⟩, .int .i64 d.arity, .int .i64 d.super.k, .string ⟨d.super.t.toArray⟩, .int .i64 d.super.o, .slice A1 d.super.kids.len c1, .bool d.conc, .slice F1 d.fields.length x1]) := by
        obtain ⟨es, clock, _, _, hn, _⟩ := HH.out.map
        exact getM_some hn (List.mem_of_getElem? h1)
      have hgd := HD.out d (List.mem_of_getElem? hd)
      have g4 : d.name.length ≤ 1048576 := hgd.1
      have hl2 := MapL.look (P := Tryz.prog) (t := 75) (HH.out.bh hb2).map Tryz.underlying9 Tryz.underlying75 (zeroDecl wr) (s := d.name) (by unfold maxLen; omega) false
      rw [hu] at hl2
      have hrun : (Instr.lookup 75 (.map (some b)) (.string ⟨d.name.toArray⟩) false).run Tryz.prog wr = .ok (.agg #[.string ⟨d.name.toArray⟩, .int .i64 d.arity, .int .i64 d.super.k, .string ⟨d.super.t.toArray⟩, .int .i64 d.super.o, .slice A1 d.super.kids.len c1, .bool d.conc, .slice F1 d.fields.length x1]) wr := hl2
      have hkk : ∀ y, HS p b (Value.slice (some ⟨g, off, none⟩) ds.length c5) Q y → y < w.heap.size → wr.heap[y]? = w.heap[y]? ∧ HS (w.heap.size + 1) w.heap.size v2 Q2 y := fun y hy hl => ⟨Below.block hb2 y hl, ⟨by omega, by omega, fun e => by have := (hH2.own.lt y e).1; omega⟩, fun hq => by
        rw [HQ2.out] at hq
        rcases hq with hq | hq | hq
        · exact hy.1.1 hq
        · exact hy.1.2.1 hq
        · exact hy.1.2.2 hq⟩
      have hadd := hadd_any V w.heap.size (w.heap.size + 1) w.heap.size Q2 v2 l2 (ds.take i) d A1 F1 c1 x1 wr hH2 (Below.size hb2) (by rw [List.length_take]; omega) hgd (hH2.none' (HH.out.fresh hd)) hV0 hV1 (hk1.keep (Below.size hb2) hkk) (hf1.keep (Below.size hb2) hkk)
      have HAdd := Lib.hid hadd
      obtain ⟨w0, w1, _⟩ := row2 (HH.out.bh hb2).blk
      have HD2 := Lib.hid hd
      clear hb2 hH2 hR hu h1 hk1 hf1 hgd g4 hl2 hkk hadd hcell hd
      go_wp2_with (fail)
      refine HAdd.out.mono ?_
      rintro e u2 ⟨v3, u3, rfl, n1, n2⟩
      have HN := Lib.hid (And.intro n1 n2)
      clear n1 n2 q0 w0 w1 hrun
      go_wp2_with (fail)
      obtain ⟨n1, n2⟩ := HN.out
      obtain ⟨m1, m2⟩ := H2.out
      refine ⟨⟨i + 1, rfl, hlt, Lib.hid ⟨v3, l2 ++ [(d.name, u3)], ?_, Below.trans (show Below w.heap.size w wr from m2) (n2.below m1 (Below.size m2))⟩⟩, by simp; omega⟩
      rw [show ds.take (i + 1) = ds.take i ++ [d] from by rw [List.take_add_one, HD2.out]; rfl]
      exact n1
    · have hge : decide ((i : Int) < (ds.length : Int)) = false := by rw [decide_eq_false_iff_not]; omega
      have hge2 : decide (i < ds.length) = false := by rw [decide_eq_false_iff_not]; omega
      have htk := Lib.hid (show ds.take i = ds from List.take_of_length_le (by omega))
      clear hb2 hH2 hR
      go_wp2_with (fail)
      go_ret
      obtain ⟨m1, m2⟩ := H2.out
      rw [htk.out] at m1
      exact ⟨_, _, v2, l2, rfl, m1, m2⟩
end Go.Proofs.YtpkiheenkpcebaaGreatDoor
namespace Go.Proofs.YtpkiheenkpcebaaGreatDoor
open Go.RowKit Sx

/-- a declaration by its name -/
theorem Hier.look {w : World} {B p b : Nat} {Q : Nat → Prop} {v : Value} {l : List (List UInt8 × Value)} {ds : List De} {V : Int} (h : Hier w B p b Q v l ds) (hok : ∀ d ∈ ds, OkD V d) {i : Nat} {d : De} (hd : ds[i]? = some d) :
    ∃ A c F x, (∀ W, BH w W → (Instr.lookup 75 (.map (some b)) (.string ⟨d.name.toArray⟩) false).run Tryz.prog W = .ok (.agg #[.string ⟨d.name.toArray⟩, .int .i64 d.arity, .int .i64 d.super.k, .string ⟨d.super.t.toArray⟩, .int .i64 d.super.o, .slice A d.super.kids.len c, .bool d.conc, .slice F d.fields.length x]) W) ∧ KT w d.super.kids A c ∧ FlS w (HS p b v Q) d.fields F x := by
  obtain ⟨u, h1, A1, c1, F1, x1, rfl, hk1, hf1⟩ := h.row i d hd
  refine ⟨A1, c1, F1, x1, fun W hb => ?_, hk1.kt, hf1⟩
  have hu : getM l d.name = some (.agg #[.string ⟨d.name.toArray⟩, .int .i64 d.arity, .int .i64 d.super.k, .string ⟨d.super.t.toArray⟩, .int .i64 d.super.o, .slice A1 d.super.kids.len c1, .bool d.conc, .slice F1 d.fields.length x1]) := by
    obtain ⟨es, clock, _, _, hn, _⟩ := h.map
    exact getM_some hn (List.mem_of_getElem? h1)
  have g4 : d.name.length ≤ 1048576 := (hok d (List.mem_of_getElem? hd)).1
  have hl2 := MapL.look (P := Tryz.prog) (t := 75) (h.bh hb).map Tryz.underlying9 Tryz.underlying75 (zeroDecl W) (s := d.name) (by unfold maxLen; omega) false
  rw [hu] at hl2
  exact hl2

def e1V (p b p' b' : Nat) (d e : De) (A : Option Addr) (c : Nat) (F : Option Addr) (x : Nat) (A' : Option Addr) (c' : Nat) (F' : Option Addr) (x' : Nat) (z : Bool) (j : Nat) (v : Value) (_ : World) : Prop :=
  match j with
  | 0 => v = .pointer (some ⟨p, 0, none⟩)
  | 1 => v = .pointer (some ⟨p, 0, none⟩)
  | 2 => v = .pointer (some ⟨p, 1, none⟩)
  | 3 => v = .map (some b)
  | 4 => v = .string ⟨d.name.toArray⟩
  | 5 => v = .agg #[.string ⟨d.name.toArray⟩, .int .i64 d.arity, .int .i64 d.super.k, .string ⟨d.super.t.toArray⟩, .int .i64 d.super.o, .slice A d.super.kids.len c, .bool d.conc, .slice F d.fields.length x]
  | 6 => v = .pointer (some ⟨p', 0, none⟩)
  | 7 => v = .pointer (some ⟨p', 0, none⟩)
  | 8 => v = .pointer (some ⟨p', 1, none⟩)
  | 9 => v = .map (some b')
  | 10 => v = .string ⟨e.name.toArray⟩
  | 11 => v = .agg #[.string ⟨e.name.toArray⟩, .int .i64 e.arity, .int .i64 e.super.k, .string ⟨e.super.t.toArray⟩, .int .i64 e.super.o, .slice A' e.super.kids.len c', .bool e.conc, .slice F' e.fields.length x']
  | _ => v = .bool z

set_option maxHeartbeats 8000000 in
set_option maxRecDepth 100000 in
theorem hEq1 (V V' : Int) (B p b : Nat) (Q : Nat → Prop) (v : Value) (l : List (List UInt8 × Value)) (ds : List De) (B' p' b' : Nat) (Q' : Nat → Prop) (v' : Value) (l' : List (List UInt8 × Value)) (es : List De) (gh go : Nat) (i : Nat) (d e : De) (w : World)
    (H : Hier w B p b Q v l ds) (H' : Hier w B' p' b' Q' v' l' es) (hds : ∀ d ∈ ds, OkD V d) (hes : ∀ d ∈ es, OkD V' d) (hd : ds[i]? = some d) (he : es[i]? = some e)
    (hgh : w.heap[gh]? = some (.cells #[.pointer (some ⟨p, 0, none⟩)] 22 (0, 0))) (hgo : w.heap[go]? = some (.cells #[.pointer (some ⟨p', 0, none⟩)] 22 (0, 0))) :
    Calls Tryz.prog 77 #[.string ⟨d.name.toArray⟩, .string ⟨e.name.toArray⟩, .pointer (some ⟨gh, 0, none⟩), .pointer (some ⟨go, 0, none⟩)] w fun r w' => r = .returned (.bool (deB d e)) ∧ BH w w' := by
  obtain ⟨z, hz⟩ : ∃ z, deB d e = z := ⟨_, rfl⟩
  rw [hz]
  obtain ⟨A, c, F, x, hL, hk, hf⟩ := H.look hds hd
  obtain ⟨A', c', F', x', hL', hk', hf'⟩ := H'.look hes he
  have HL := Lib.hid hL
  have HL' := Lib.hid hL'
  have HS : Hid (∀ X, BH w X → Calls Tryz.prog 52 #[.agg #[.string ⟨d.name.toArray⟩, .int .i64 d.arity, .int .i64 d.super.k, .string ⟨d.super.t.toArray⟩, .int .i64 d.super.o, .slice A d.super.kids.len c, .bool d.conc, .slice F d.fields.length x], .agg #[.string ⟨e.name.toArray⟩, .int .i64 e.arity, .int .i64 e.super.k, .string ⟨e.super.t.toArray⟩, .int .i64 e.super.o, .slice A' e.super.kids.len c', .bool e.conc, .slice F' e.fields.length x']] X fun r u => r = .returned (.bool z) ∧ BH X u) := Lib.hid fun X hX => by
    have h := hSame V V' d e A A' F F' c c' x x' X _ _ (hds d (List.mem_of_getElem? hd)) (hes e (List.mem_of_getElem? he)) (hk.below hX) (hk'.below hX) (hf.bh hX) (hf'.bh hX)
    rw [hz] at h
    exact h
  obtain ⟨s0, s1, _⟩ := row2 H.blk
  obtain ⟨t0, t1, _⟩ := row2 H'.blk
  obtain ⟨g0, _⟩ := row1 hgh
  obtain ⟨g1, _⟩ := row1 hgo
  obtain ⟨RR, hRR⟩ : ∃ RR : World → Prop, RR = (fun W => BH w W) := ⟨_, rfl⟩
  have HRR := Lib.hid hRR
  clear hz hL hL' hk hk' hf hf' H H' hds hes hd he hgh hgo hRR
  go_enter Tryz.func77, Tryz.ntmps77
  go_upto_region 1 with (fail)
  go_cut [6] (fun s6 wx => s6 = .bool z ∧ RR wx)
  case first =>
    refine wp_region_facts (by kernel_rfl) (e1V p b p' b' d e A c F x A' c' F' x' z) (fun _ _ _ _ h _ => h) (by kernel_rfl) ?_ ?_
    · refine ⟨?_, ?_, ?_, ?_, ?_, ?_, ?_, ?_, ?_, ?_, ?_, ?_, ?_, ?_, trivial⟩
      · intro a W hI hF hD; have h := same_of hF 2 (by kernel_rfl); have l0 := BH.cell hI g0; go_simp; exact ⟨_, rfl, rfl, BH.refl _⟩
      · intro a W hI hF hD; have h : a.tmps[7]?.getD undef = .pointer (some ⟨p, 0, none⟩) := dep_of hD 0 7 (by kernel_rfl) rfl rfl; go_simp; exact ⟨_, rfl, rfl, BH.refl _⟩
      · intro a W hI hF hD; have h : a.tmps[8]?.getD undef = .pointer (some ⟨p, 0, none⟩) := dep_of hD 1 8 (by kernel_rfl) rfl rfl; go_simp; exact ⟨_, rfl, rfl, BH.refl _⟩
      · intro a W hI hF hD; have h : a.tmps[9]?.getD undef = .pointer (some ⟨p, 1, none⟩) := dep_of hD 2 9 (by kernel_rfl) rfl rfl; have l1 := BH.cell hI s1; go_simp; exact ⟨_, rfl, rfl, BH.refl _⟩
      · intro a W hI hF hD; have h := same_of hF 0 (by kernel_rfl); go_simp; exact ⟨_, rfl, rfl, BH.refl _⟩
      · intro a W hI hF hD; have h : a.tmps[10]?.getD undef = .map (some b) := dep_of hD 3 10 (by kernel_rfl) rfl rfl; have h' : a.tmps[11]?.getD undef = .string ⟨d.name.toArray⟩ := dep_of hD 4 11 (by kernel_rfl) rfl rfl; have hr := HL.out W hI; go_simp; exact ⟨_, rfl, rfl, BH.refl _⟩
      · intro a W hI hF hD; have h := same_of hF 3 (by kernel_rfl); have l0 := BH.cell hI g1; go_simp; exact ⟨_, rfl, rfl, BH.refl _⟩
      · intro a W hI hF hD; have h : a.tmps[13]?.getD undef = .pointer (some ⟨p', 0, none⟩) := dep_of hD 6 13 (by kernel_rfl) rfl rfl; go_simp; exact ⟨_, rfl, rfl, BH.refl _⟩
      · intro a W hI hF hD; have h : a.tmps[14]?.getD undef = .pointer (some ⟨p', 0, none⟩) := dep_of hD 7 14 (by kernel_rfl) rfl rfl; go_simp; exact ⟨_, rfl, rfl, BH.refl _⟩
      · intro a W hI hF hD; have h : a.tmps[15]?.getD undef = .pointer (some ⟨p', 1, none⟩) := dep_of hD 8 15 (by kernel_rfl) rfl rfl; have l1 := BH.cell hI t1; go_simp; exact ⟨_, rfl, rfl, BH.refl _⟩
      · intro a W hI hF hD; have h := same_of hF 1 (by kernel_rfl); go_simp; exact ⟨_, rfl, rfl, BH.refl _⟩
      · intro a W hI hF hD; have h : a.tmps[16]?.getD undef = .map (some b') := dep_of hD 9 16 (by kernel_rfl) rfl rfl; have h' : a.tmps[17]?.getD undef = .string ⟨e.name.toArray⟩ := dep_of hD 10 17 (by kernel_rfl) rfl rfl; have hr := HL'.out W hI; go_simp; exact ⟨_, rfl, rfl, BH.refl _⟩
      · intro a W hI hF hD
        have h : a.tmps[12]?.getD undef = .agg #[.string ⟨d.name.toArray⟩, .int .i64 d.arity, .int .i64 d.super.k, .string ⟨d.super.t.toArray⟩, .int .i64 d.super.o, .slice A d.super.kids.len c, .bool d.conc, .slice F d.fields.length x] := dep_of hD 5 12 (by kernel_rfl) rfl rfl
        have h' : a.tmps[18]?.getD undef = .agg #[.string ⟨e.name.toArray⟩, .int .i64 e.arity, .int .i64 e.super.k, .string ⟨e.super.t.toArray⟩, .int .i64 e.super.o, .slice A' e.super.kids.len c', .bool e.conc, .slice F' e.fields.length x'] := dep_of hD 11 18 (by kernel_rfl) rfl rfl
        have HC := Lib.hid (HS.out W hI)
        go_simp
        refine HC.out.mono ?_
        rintro r u ⟨rfl, hb⟩
        exact ⟨_, rfl, rfl, hb⟩
      · intro a W hI hF hD; have h : a.tmps[19]?.getD undef = .bool z := dep_of hD 12 19 (by kernel_rfl) rfl rfl; go_simp; exact ⟨_, rfl, rfl, BH.refl _⟩
    · intro a W hI hF hall
      have h6 : a.tmps[6]?.getD undef = .bool z := all_of hall 13 6 rfl rfl
      have HA2 := Lib.hid (Frm.act hF)
      have H6 := Lib.hid h6
      have HR : RR W := by rw [HRR.out]; exact hI
      have HRW := Lib.hid HR
      clear h6 hF hall hI HR
      simp only [Exit.inBlock, Exit.then]
      apply_assumption
      refine Met.intro ?_
      go_step
      (repeat apply Exists.intro)
      refine ⟨?_, HA2.out.trans rfl⟩
      exact ⟨(Array.getD_eq_getD_getElem? ..).trans H6.out, HRW.out⟩
  case rest =>
    obtain ⟨rfl, hC⟩ := hcut
    rw [HRR.out] at hC
    have HC := Lib.hid hC
    clear hC
    go_wp2_with (fail)
    go_ret
    exact ⟨rfl, HC.out⟩

/-- the names of two hierarchies, side by side -/
theorem hEqNames (V V' : Int) (B p b : Nat) (Q : Nat → Prop) (v : Value) (l : List (List UInt8 × Value)) (ds : List De) (B' p' b' : Nat) (Q' : Nat → Prop) (v' : Value) (l' : List (List UInt8 × Value)) (es : List De) (gh go : Nat) (A A' : Option Addr) (c c' : Nat) (w : World)
    (H : Hier w B p b Q v l ds) (H' : Hier w B' p' b' Q' v' l' es) (hds : ∀ d ∈ ds, OkD V d) (hes : ∀ d ∈ es, OkD V' d) (hv : v = .slice A ds.length c) (hv' : v' = .slice A' es.length c') (hL0 : ds.length ≤ 1000) (hL0' : es.length ≤ 1000)
    (hgh : w.heap[gh]? = some (.cells #[.pointer (some ⟨p, 0, none⟩)] 22 (0, 0))) (hgo : w.heap[go]? = some (.cells #[.pointer (some ⟨p', 0, none⟩)] 22 (0, 0))) :
    Calls Tryz.prog 76 #[.slice A ds.length c, .slice A' es.length c', .func (.func 77) #[] #[.pointer (some ⟨gh, 0, none⟩), .pointer (some ⟨go, 0, none⟩)]] w fun r w' => r = .returned (.bool (desB ds es)) ∧ BH w w' := by
  obtain ⟨Z, hZ⟩ : ∃ Z, desB ds es = Z := ⟨_, rfl⟩
  rw [hZ]
  obtain ⟨L, hl⟩ : ∃ L, ds.length = L := ⟨_, rfl⟩
  obtain ⟨L', hl'⟩ : ∃ L', es.length = L' := ⟨_, rfl⟩
  have HC1 : Hid (∀ X i d e, BH w X → ds[i]? = some d → es[i]? = some e → Calls Tryz.prog 77 #[.string ⟨d.name.toArray⟩, .string ⟨e.name.toArray⟩, .pointer (some ⟨gh, 0, none⟩), .pointer (some ⟨go, 0, none⟩)] X fun r u => r = .returned (.bool (deB d e)) ∧ BH X u) := Lib.hid fun X i d e hb hd he =>
    hEq1 V V' B p b Q v l ds B' p' b' Q' v' l' es gh go i d e X (H.bh hb) (H'.bh hb) hds hes hd he ((Below.block hb _ (heap_lt hgh)).trans hgh) ((Below.block hb _ (heap_lt hgo)).trans hgo)
  have ho := H.own
  have ho' := H'.own
  rw [hv] at ho
  rw [hv'] at ho'
  have hc := Cel.of_own ho
  have hc' := Cel.of_own ho'
  rw [hl] at hc hL0 ⊢
  rw [hl'] at hc' hL0' ⊢
  have HCel := Lib.hid hc
  have HCel' := Lib.hid hc'
  have HZ := Lib.hid hZ
  have HL := Lib.hid hl
  have HL' := Lib.hid hl'
  clear hZ hl hl' H H' hds hes hv hv' hgh hgo hc hc' ho ho'
  by_cases hll : L = L'
  · subst hll
    go_enter Tryz.func76, Tryz.ntmps76
    go_wp2_with (fail)
    go_loopw [17] (fun iv wr => ∃ i : Nat, iv = .int .i64 (i : Int) ∧ i ≤ L ∧ Hid (BH w wr ∧ Z = desB (ds.drop i) (es.drop i))) (fun iv _ => L - (match iv with | .int _ n => n.toNat | _ => 0))
    case atStart => exact ⟨0, rfl, Nat.zero_le _, Lib.hid ⟨BH.refl _, HZ.out.symm⟩⟩
    case round =>
      obtain ⟨i, rfl, hiL0, hR⟩ := hrel
      by_cases hlt : i < L
      · have hge : decide ((i : Int) < (L : Int)) = true := by rw [decide_eq_true_eq]; omega
        have hiL : (i : Int) < (L : Int) := by omega
        have hi0 : (0 : Int) ≤ (i : Int) := by omega
        obtain ⟨d, hd⟩ : ∃ d, ds[i]? = some d := ⟨_, List.getElem?_eq_getElem (by rw [HL.out]; exact hlt)⟩
        obtain ⟨e, he⟩ : ∃ e, es[i]? = some e := ⟨_, List.getElem?_eq_getElem (by rw [HL'.out]; exact hlt)⟩
        have hst := desB_take ds es i (by rw [HL.out, HL'.out]) (by rw [HL.out]; exact hlt) d e hd he
        obtain ⟨x1, x2⟩ := hR.out
        obtain ⟨g, off, rfl, hg, hcell⟩ := (HCel.out.bh x1).2.2.2.2 (by omega)
        obtain ⟨g', off', rfl, hg', hcell'⟩ := (HCel'.out.bh x1).2.2.2.2 (by omega)
        have q0 := hcell i (strV d.name) (by rw [namesV, List.getElem?_map, hd]; rfl)
        have q1 := hcell' i (strV e.name) (by rw [namesV, List.getElem?_map, he]; rfl)
        have hC := HC1.out wr i d e x1 hd he
        obtain ⟨z, hz⟩ : ∃ z, deB d e = z := ⟨_, rfl⟩
        rw [hz] at hC hst
        rw [hst] at x2
        have HC := Lib.hid hC
        have HX := Lib.hid (And.intro x1 x2)
        clear hst x1 x2 hg hg' hcell hcell' hC hz hR hd he
        go_wp2_with (fail)
        refine HC.out.mono ?_
        rintro r u ⟨rfl, hb⟩
        have HB := Lib.hid (BH.trans HX.out.1 hb)
        clear hb q0 q1
        cases z with
        | true =>
          go_wp2_with (fail)
          exact ⟨⟨i + 1, rfl, by omega, Lib.hid ⟨HB.out, by rw [HX.out.2]; rfl⟩⟩, by simp; omega⟩
        | false =>
          go_wp2_with (fail)
          go_ret
          exact ⟨by rw [HX.out.2]; rfl, HB.out⟩
      · have hge : decide ((i : Int) < (L : Int)) = false := by rw [decide_eq_false_iff_not]; omega
        have hge2 : decide (i < L) = false := by rw [decide_eq_false_iff_not]; omega
        have hie : i = L := by omega
        have hz : Z = true := by
          rw [hR.out.2, List.drop_of_length_le (by rw [HL.out, hie]; exact Nat.le_refl _), List.drop_of_length_le (by rw [HL'.out, hie]; exact Nat.le_refl _), desB]
        have Hzz := Lib.hid hz
        clear hz hie
        go_wp2_with (fail)
        go_ret
        exact ⟨by rw [Hzz.out]; rfl, hR.out.1⟩
  · have t1 : ¬ ((L : Int) = (L' : Int)) := by omega
    have HT := Lib.hid (show Z = false by rw [← HZ.out]; exact desB_len _ _ (by rw [HL.out, HL'.out]; exact hll))
    go_enter Tryz.func76, Tryz.ntmps76
    go_wp2_with (fail)
    go_ret
    exact ⟨by rw [HT.out]; rfl, BH.refl _⟩

def eqV (p p' gh go : Nat) (vh vo : Value) (z : Bool) (j : Nat) (v : Value) (_ : World) : Prop :=
  match j with
  | 0 => v = .pointer (some ⟨p', 0, none⟩)
  | 1 => v = .bool true
  | 2 => v = .bool true
  | 3 => v = .pointer (some ⟨p, 0, none⟩)
  | 4 => v = .pointer (some ⟨p, 0, none⟩)
  | 5 => v = .pointer (some ⟨p, 0, none⟩)
  | 6 => v = vh
  | 7 => v = .pointer (some ⟨p', 0, none⟩)
  | 8 => v = .pointer (some ⟨p', 0, none⟩)
  | 9 => v = .pointer (some ⟨p', 0, none⟩)
  | 10 => v = vo
  | 11 => v = .func (.func 77) #[] #[.pointer (some ⟨gh, 0, none⟩), .pointer (some ⟨go, 0, none⟩)]
  | _ => v = .bool z

set_option maxHeartbeats 8000000 in
set_option maxRecDepth 100000 in
theorem hEqual (V V' : Int) (B p b : Nat) (Q : Nat → Prop) (v : Value) (l : List (List UInt8 × Value)) (ds : List De) (B' p' b' : Nat) (Q' : Nat → Prop) (v' : Value) (l' : List (List UInt8 × Value)) (es : List De) (w : World)
    (H : Hier w B p b Q v l ds) (H' : Hier w B' p' b' Q' v' l' es) (hds : ∀ d ∈ ds, OkD V d) (hes : ∀ d ∈ es, OkD V' d) (hL0 : ds.length ≤ 1000) (hL0' : es.length ≤ 1000) :
    Calls Tryz.prog 47 #[.pointer (some ⟨p, 0, none⟩), .pointer (some ⟨p', 0, none⟩)] w fun r w' => r = .returned (.bool (desB ds es)) ∧ BH w w' := by
  obtain ⟨A, c, hv, _⟩ := own_shape H.own
  obtain ⟨A', c', hv', _⟩ := own_shape H'.own
  have f1 := bh_alloc (BH.refl w) (.cells #[.pointer (some ⟨p, 0, none⟩)] 22)
  have e1 := heap_alloc_new w (.cells #[.pointer (some ⟨p, 0, none⟩)] 22)
  have f2 := bh_alloc f1 (.cells #[.pointer (some ⟨p', 0, none⟩)] 22)
  have e2 := heap_alloc_new (w.alloc (.cells #[.pointer (some ⟨p, 0, none⟩)] 22)) (.cells #[.pointer (some ⟨p', 0, none⟩)] 22)
  have e1' := (Below.block (bh_alloc (BH.refl (w.alloc (.cells #[.pointer (some ⟨p, 0, none⟩)] 22))) (.cells #[.pointer (some ⟨p', 0, none⟩)] 22)) w.heap.size (by simp)).trans e1
  rw [World.size_alloc] at e2
  obtain ⟨z, hz⟩ : ∃ z, desB ds es = z := ⟨_, rfl⟩
  rw [hz]
  obtain ⟨RR, hRR⟩ : ∃ RR : World → Prop, RR = (fun W => BH w W) := ⟨_, rfl⟩
  have HRR := Lib.hid hRR
  have HX := Lib.hid (And.intro f2 (And.intro e1' e2))
  have HN : Hid (∀ X, BH w X → X.heap[w.heap.size]? = some (.cells #[.pointer (some ⟨p, 0, none⟩)] 22 (0, 0)) → X.heap[w.heap.size + 1]? = some (.cells #[.pointer (some ⟨p', 0, none⟩)] 22 (0, 0)) → Calls Tryz.prog 76 #[v, v', .func (.func 77) #[] #[.pointer (some ⟨w.heap.size, 0, none⟩), .pointer (some ⟨w.heap.size + 1, 0, none⟩)]] X fun r u => r = .returned (.bool z) ∧ BH X u) := Lib.hid fun X hb h1 h2 => by
    have h := hEqNames V V' B p b Q v l ds B' p' b' Q' v' l' es w.heap.size (w.heap.size + 1) A A' c c' X (H.bh hb) (H'.bh hb) hds hes hv hv' hL0 hL0' h1 h2
    rw [hz, ← hv, ← hv'] at h
    exact h
  have HH := Lib.hid (And.intro H.blk H'.blk)
  clear hz hRR f1 e1 f2 e2 e1' H H' hds hes hv hv'
  go_enter Tryz.func47, Tryz.ntmps47
  go_upto_region 1 with (fail)
  refine gen_wp _ (fun X => BH w X ∧ X.heap[w.heap.size]? = some (.cells #[.pointer (some ⟨p, 0, none⟩)] 22 (0, 0)) ∧ X.heap[w.heap.size + 1]? = some (.cells #[.pointer (some ⟨p', 0, none⟩)] 22 (0, 0))) HX.out ?_
  rintro X ⟨hX, y1, y2⟩
  obtain ⟨gh, hgh⟩ : ∃ gh, w.heap.size = gh := ⟨_, rfl⟩
  rw [hgh] at HN y1 y2 ⊢
  have HXX := Lib.hid (And.intro hX (And.intro y1 y2))
  obtain ⟨g0, _⟩ := row1 y1
  obtain ⟨g1, _⟩ := row1 y2
  obtain ⟨s0, _⟩ := row2 ((Below.block hX _ (heap_lt HH.out.1)).trans HH.out.1)
  obtain ⟨t0, _⟩ := row2 ((Below.block hX _ (heap_lt HH.out.2)).trans HH.out.2)
  clear hX y1 y2 hgh HX
  go_cut [4] (fun s4 wx => s4 = .bool z ∧ RR wx)
  case first =>
    refine wp_region_gfacts (by kernel_rfl) (eqV p p' gh (gh + 1) v v' z) (fun _ _ _ _ h _ => h) (fun _ => true) (by kernel_rfl) ?_ ?_
    · refine ⟨⟨rfl, ?_⟩, ⟨rfl, ?_⟩, ⟨rfl, ?_⟩, ⟨fun v w h => (by obtain rfl := (show v = .bool true from h); rfl), ?_⟩, ⟨fun v w h => (by obtain rfl := (show v = .bool true from h); rfl), ?_⟩, ⟨fun v w h => (by obtain rfl := (show v = .bool true from h); rfl), ?_⟩, ⟨fun v w h => (by obtain rfl := (show v = .bool true from h); rfl), ?_⟩, ⟨fun v w h => (by obtain rfl := (show v = .bool true from h); rfl), ?_⟩, ⟨fun v w h => (by obtain rfl := (show v = .bool true from h); rfl), ?_⟩, ⟨fun v w h => (by obtain rfl := (show v = .bool true from h); rfl), ?_⟩, ⟨fun v w h => (by obtain rfl := (show v = .bool true from h); rfl), ?_⟩, ⟨fun v w h => (by obtain rfl := (show v = .bool true from h); rfl), ?_⟩, ⟨fun v w h => (by obtain rfl := (show v = .bool true from h); rfl), ?_⟩, ⟨rfl, ?_⟩, ⟨rfl, ?_⟩, trivial⟩
      · intro a W hI hF hD; have h := same_of hF 3 (by kernel_rfl); have l0 := BH.cell hI g1; go_simp; exact ⟨_, rfl, rfl, BH.refl _⟩
      · intro a W hI hF hD; have h : a.tmps[5]?.getD undef = .pointer (some ⟨p', 0, none⟩) := dep_of hD 0 5 (by kernel_rfl) rfl rfl; go_simp; exact ⟨_, rfl, rfl, BH.refl _⟩
      · intro a W hI hF hD; have h : a.tmps[6]?.getD undef = .bool true := dep_of hD 1 6 (by kernel_rfl) rfl rfl; go_simp; exact ⟨_, rfl, rfl, BH.refl _⟩
      · intro a W hI hF hD; have h := same_of hF 2 (by kernel_rfl); have l0 := BH.cell hI g0; go_simp; exact ⟨_, rfl, rfl, BH.refl _⟩
      · intro a W hI hF hD; have h : a.tmps[8]?.getD undef = .pointer (some ⟨p, 0, none⟩) := dep_of hD 3 8 (by kernel_rfl) rfl rfl; go_simp; exact ⟨_, rfl, rfl, BH.refl _⟩
      · intro a W hI hF hD; have h : a.tmps[9]?.getD undef = .pointer (some ⟨p, 0, none⟩) := dep_of hD 4 9 (by kernel_rfl) rfl rfl; go_simp; exact ⟨_, rfl, rfl, BH.refl _⟩
      · intro a W hI hF hD; have h : a.tmps[10]?.getD undef = .pointer (some ⟨p, 0, none⟩) := dep_of hD 5 10 (by kernel_rfl) rfl rfl; have l1 := BH.cell hI s0; go_simp; exact ⟨_, rfl, rfl, BH.refl _⟩
      · intro a W hI hF hD; have h := same_of hF 3 (by kernel_rfl); have l0 := BH.cell hI g1; go_simp; exact ⟨_, rfl, rfl, BH.refl _⟩
      · intro a W hI hF hD; have h : a.tmps[12]?.getD undef = .pointer (some ⟨p', 0, none⟩) := dep_of hD 7 12 (by kernel_rfl) rfl rfl; go_simp; exact ⟨_, rfl, rfl, BH.refl _⟩
      · intro a W hI hF hD; have h : a.tmps[13]?.getD undef = .pointer (some ⟨p', 0, none⟩) := dep_of hD 8 13 (by kernel_rfl) rfl rfl; go_simp; exact ⟨_, rfl, rfl, BH.refl _⟩
      · intro a W hI hF hD; have h : a.tmps[14]?.getD undef = .pointer (some ⟨p', 0, none⟩) := dep_of hD 9 14 (by kernel_rfl) rfl rfl; have l1 := BH.cell hI t0; go_simp; exact ⟨_, rfl, rfl, BH.refl _⟩
      · intro a W hI hF hD; have h := same_of hF 2 (by kernel_rfl); have h' := same_of hF 3 (by kernel_rfl); go_simp; exact ⟨_, rfl, rfl, BH.refl _⟩
      · intro a W hI hF hD
        have h : a.tmps[11]?.getD undef = v := dep_of hD 6 11 (by kernel_rfl) rfl rfl
        have h' : a.tmps[15]?.getD undef = v' := dep_of hD 10 15 (by kernel_rfl) rfl rfl
        have h'' : a.tmps[16]?.getD undef = .func (.func 77) #[] #[.pointer (some ⟨gh, 0, none⟩), .pointer (some ⟨gh + 1, 0, none⟩)] := dep_of hD 11 16 (by kernel_rfl) rfl rfl
        have HC := Lib.hid (HN.out W (BH.trans HXX.out.1 hI) ((Below.block hI _ (heap_lt HXX.out.2.1)).trans HXX.out.2.1) ((Below.block hI _ (heap_lt HXX.out.2.2)).trans HXX.out.2.2))
        go_simp
        refine HC.out.mono ?_
        rintro r u ⟨rfl, hb⟩
        exact ⟨_, rfl, rfl, hb⟩
      · intro a W hI hF hD; have h : a.tmps[7]?.getD undef = .bool true := dep_of hD 2 7 (by kernel_rfl) rfl rfl; have h' : a.tmps[17]?.getD undef = .bool z := dep_of hD 12 17 (by kernel_rfl) rfl rfl; go_simp; exact ⟨_, rfl, rfl, BH.refl _⟩
      · intro a W hI hF hD; have h : a.tmps[18]?.getD undef = .bool z := dep_of hD 13 18 (by kernel_rfl) rfl rfl; go_simp; exact ⟨_, rfl, rfl, BH.refl _⟩
    · intro a W hI hF hall
      have h4 : a.tmps[4]?.getD undef = .bool z := all_of hall 14 4 rfl rfl
      have HA2 := Lib.hid (Frm.act hF)
      have H4 := Lib.hid h4
      have HR : RR W := by rw [HRR.out]; exact BH.trans HXX.out.1 hI
      have HRW := Lib.hid HR
      clear h4 hF hall hI HR
      simp only [Exit.inBlock, Exit.then]
      apply_assumption
      refine Met.intro ?_
      go_step
      (repeat apply Exists.intro)
      refine ⟨?_, HA2.out.trans rfl⟩
      exact ⟨(Array.getD_eq_getD_getElem? ..).trans H4.out, HRW.out⟩
  case rest =>
    obtain ⟨rfl, hC⟩ := hcut
    rw [HRR.out] at hC
    have HC := Lib.hid hC
    clear hC
    go_wp2_with (fail)
    go_ret
    exact ⟨rfl, HC.out⟩
end Go.Proofs.YtpkiheenkpcebaaGreatDoor
