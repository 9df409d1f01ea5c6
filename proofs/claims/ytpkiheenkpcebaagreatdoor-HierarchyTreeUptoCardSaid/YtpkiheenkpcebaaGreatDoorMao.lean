/- hierarchy.isValidSuper, areValidFields, isValid. No condition but bounded sizes. hierarchy.areValidFields, isValid. No condition but bounded sizes. Library functions' contracts (cmp.Compare, strings.Compare), laid from the shelf at this program's numbers. The plain comparison of terms: by kind, name, index, number of arguments, arguments; a total order. No condition. cmp.Or at four integers; telref1.order. telpher/telref1.TermCompare: the plain comparison. No condition but a bounded size. -/
import Derived.Test.YtpkiheenkpcebaaGreatDoorMaj
import Derived.Test.YtpkiheenkpcebaaGreatDoorMan
import Derived.Shelf.Small.Strs
import Derived.Shelf.Small.Wraps
import Derived.Test.YtpkiheenkpcebaaGreatDoorProg
import Derived.Test.YtpkiheenkpcebaaGreatDoorMaa
import Derived.Lib.Bytealg
import Derived.Lib.Small
import Derived.Test.YtpkiheenkpcebaaGreatDoorMab
import Derived.Deep.RegionHeld3
import Derived.Deep.DeepCutAuto
set_option linter.unusedVariables false
set_option linter.unusedSimpArgs false
namespace Go.Proofs.YtpkiheenkpcebaaGreatDoor
open Go.RowKit Sx

set_option maxHeartbeats 4000000 in
set_option maxRecDepth 100000 in
theorem hValidSuper (n : List UInt8) (ar k o : Int) (t : List UInt8) (kids : Fo) (A : Option Addr) (c : Nat) (cc : Bool) (F : Option Addr) (M x : Nat) (w : World) (hN : fsize kids ≤ 1073741824) (hK : KT w kids A c) (ht : t.length ≤ 1048576) (hl : lenT kids) :
    Calls Tryz.prog 80 #[.agg #[.string ⟨n.toArray⟩, .int .i64 ar, .int .i64 k, .string ⟨t.toArray⟩, .int .i64 o, .slice A kids.len c, .bool cc, .slice F M x]] w fun e w' => e = .returned (.bool (vsB ⟨k, t, kids, o⟩ ar)) ∧ BH w w' := by
  obtain ⟨p, hp⟩ : ∃ p, vtB k t o kids ar = p := ⟨_, rfl⟩
  have hC : ∀ X, BH w X → Calls Tryz.prog 109 #[.agg #[.int .i64 k, .string ⟨t.toArray⟩, .int .i64 o, .slice A kids.len c], .int .i64 ar] X fun e u => e = .returned (.bool p) ∧ BH X u := fun X hX =>
    (hValidTerm k o t kids A c ar X hN (hK.below hX) ht hl).mono fun e u h => ⟨by rw [h.1, hp], h.2⟩
  have hV : vsB ⟨k, t, kids, o⟩ ar = ((k == 0 || k == 2) && p) := by rw [vsB]; simp only [hp]
  obtain ⟨Z, hZ⟩ : ∃ Z, vsB ⟨k, t, kids, o⟩ ar = Z := ⟨_, rfl⟩
  rw [hZ] at hV ⊢
  have HZ := Lib.hid hV
  have HC := Lib.hid hC
  have e1 := heap_alloc_new w (.cells #[.string ⟨n.toArray⟩, .int .i64 ar, .int .i64 k, .string ⟨t.toArray⟩, .int .i64 o, .slice A kids.len c, .bool cc, .slice F M x] 37)
  have f1 := bh_alloc (BH.refl w) (.cells #[.string ⟨n.toArray⟩, .int .i64 ar, .int .i64 k, .string ⟨t.toArray⟩, .int .i64 o, .slice A kids.len c, .bool cc, .slice F M x] 37)
  have HF := Lib.hid f1
  obtain ⟨⟨r0, r1, r2, r3, r4, r5, r6, r7⟩, _⟩ := row8 e1
  clear hC hp hV hZ hK ht hl hN e1 f1
  by_cases h0 : k = 0
  · subst h0
    go_enter Tryz.func80, Tryz.ntmps80
    go_wp2_with (fail)
    refine (HC.out _ HF.out).mono ?_
    rintro e u ⟨rfl, hb⟩
    have HB := Lib.hid (BH.trans HF.out hb)
    clear hb r0 r1 r2 r3 r4 r5 r6 r7
    go_wp2_with (fail)
    go_ret
    exact ⟨by rw [HZ.out]; rfl, HB.out⟩
  · have t1 : (k == 0) = false := by simpa using h0
    have t2 : decide (k = 0) = false := by simpa using h0
    by_cases h2 : k = 2
    · subst h2
      go_enter Tryz.func80, Tryz.ntmps80
      go_wp2_with (fail)
      refine (HC.out _ HF.out).mono ?_
      rintro e u ⟨rfl, hb⟩
      have HB := Lib.hid (BH.trans HF.out hb)
      clear hb r0 r1 r2 r3 r4 r5 r6 r7
      go_wp2_with (fail)
      go_ret
      exact ⟨by rw [HZ.out]; rfl, HB.out⟩
    · have t3 : (k == 2) = false := by simpa using h2
      have t4 : decide (k = 2) = false := by simpa using h2
      go_enter Tryz.func80, Tryz.ntmps80
      go_wp2_with (fail)
      go_ret
      exact ⟨by rw [HZ.out, t1, t3]; rfl, HF.out⟩

end Go.Proofs.YtpkiheenkpcebaaGreatDoor
namespace Go.Proofs.YtpkiheenkpcebaaGreatDoor
open Go.RowKit Sx

theorem row5 {w : World} {g : Nat} {t : TypeId} {a b c d e : Value} (h : w.heap[g]? = some (.cells #[a, b, c, d, e] t (0, 0))) :
    w.cell? ⟨g, 0, none⟩ = some a ∧ w.cell? ⟨g, 1, none⟩ = some b ∧ w.cell? ⟨g, 2, none⟩ = some c ∧ w.cell? ⟨g, 3, none⟩ = some d ∧ w.cell? ⟨g, 4, none⟩ = some e :=
  ⟨cell_of_row w g 0 _ _ _ h, cell_of_row w g 1 _ _ _ h, cell_of_row w g 2 _ _ _ h, cell_of_row w g 3 _ _ _ h, cell_of_row w g 4 _ _ _ h⟩
def seenL (ns : List (List UInt8)) : List (List UInt8 × Value) := ns.map fun n => (n, .bool true)
theorem getM_seen (ns : List (List UInt8)) (s : List UInt8) : getM (seenL ns) s = if ns.contains s then some (.bool true) else none := by
  induction ns with
  | nil => rfl
  | cons n r ih =>
    rw [seenL, List.map_cons, getM, List.find?_cons]
    by_cases h : n = s
    · subst h
      simp
    · have h' : ¬ s = n := fun e => h e.symm
      simp only [decide_eq_false h]
      rw [show (List.find? (fun p => decide (p.1 = s)) (List.map (fun n => (n, Value.bool true)) r)).map Prod.snd = getM (seenL r) s from rfl, ih]
      simp [h']
theorem zeroBool (X : World) : (zeroValue 4).run Tryz.prog X = .ok (.bool false) X := by
  go_simp

set_option maxHeartbeats 8000000 in
set_option maxRecDepth 100000 in
theorem hValidFields (V : Int) (n : List UInt8) (ar : Int) (a2 a3 a4 a5 : Value) (cc : Bool) (fs : List (List UInt8 × Tm)) (F : Option Addr) (x : Nat) (w : World) (S : Nat → Prop) (hok : OkF V fs) (hFl : FlS w S fs F x) (h2 : a2.oneCell' = true) (h3 : a3.oneCell' = true) (h4 : a4.oneCell' = true) (h5 : a5.oneCell' = true) :
    Calls Tryz.prog 81 #[.agg #[.string ⟨n.toArray⟩, .int .i64 ar, a2, a3, a4, a5, .bool cc, .slice F fs.length x]] w fun e w' => e = .returned (.bool (avL ar fs [])) ∧ BH w w' := by
  obtain ⟨M, hM⟩ : ∃ M, fs.length = M := ⟨_, rfl⟩
  obtain ⟨Z, hZ⟩ : ∃ Z, avL ar fs [] = Z := ⟨_, rfl⟩
  obtain ⟨hfl, hff⟩ := hok
  have HFl := Lib.hid hFl
  rw [hM] at hfl ⊢
  rw [hZ]
  have HM := Lib.hid hM
  have HZ := Lib.hid hZ
  have HFF := Lib.hid hff
  have e1 := heap_alloc_new w (.cells #[.string ⟨n.toArray⟩, .int .i64 ar, a2, a3, a4, a5, .bool cc, .slice F M x] 37)
  have f1 := bh_alloc (BH.refl w) (.cells #[.string ⟨n.toArray⟩, .int .i64 ar, a2, a3, a4, a5, .bool cc, .slice F M x] 37)
  have e2 := Below.heap_alloc (w.alloc (.cells #[.string ⟨n.toArray⟩, .int .i64 ar, a2, a3, a4, a5, .bool cc, .slice F M x] 37)) (.map #[] 0) w.heap.size (by simp)
  have f2 := bh_alloc f1 (.map #[] 0)
  have m2 := MapL.made (w.alloc (.cells #[.string ⟨n.toArray⟩, .int .i64 ar, a2, a3, a4, a5, .bool cc, .slice F M x] 37))
  rw [World.size_alloc] at m2
  have HE := Lib.hid (And.intro (e2.trans e1) (And.intro f2 m2))
  obtain ⟨⟨r0, r1, r2, r3, r4, r5, r6, r7⟩, _⟩ := row8 (e2.trans e1)
  have hmm := @run_makeMap Tryz.prog
  clear hFl hM hZ hff e1 f1 e2 f2 m2
  go_enter Tryz.func81, Tryz.ntmps81
  go_wp2_with (fail)
  go_loopw [10] (fun iv wr => ∃ i : Nat, iv = .int .i64 (i : Int) ∧ i ≤ M ∧ Hid (wr.heap[w.heap.size]? = some (.cells #[.string ⟨n.toArray⟩, .int .i64 ar, a2, a3, a4, a5, .bool cc, .slice F M x] 37 (0, 0)) ∧ BH w wr ∧ MapL wr (w.heap.size + 1) (seenL ((fs.take i).map Prod.fst)) ∧ Z = avL ar (fs.drop i) ((fs.take i).map Prod.fst))) (fun iv _ => M - (match iv with | .int _ n => n.toNat | _ => 0))
  case atStart => exact ⟨0, rfl, Nat.zero_le _, Lib.hid ⟨HE.out.1, HE.out.2.1, HE.out.2.2, HZ.out.symm⟩⟩
  case round =>
    obtain ⟨i, rfl, hiM, hR⟩ := hrel
    clear hmm r0 r1 r2 r3 r4 r5 r6 r7
    by_cases hlt : i < M
    · have hge : decide ((i : Int) < (M : Int)) = true := by rw [decide_eq_true_eq]; omega
      have hiL : (i : Int) < (M : Int) := by omega
      have hi0 : (0 : Int) ≤ (i : Int) := by omega
      obtain ⟨⟨n1, ⟨k1, t1, h1, j1⟩⟩, hy⟩ : ∃ f, fs[i]? = some f := ⟨_, List.getElem?_eq_getElem (by rw [HM.out]; exact hlt)⟩
      have hd : fs.drop i = (n1, ⟨k1, t1, h1, j1⟩) :: fs.drop (i + 1) := by
        obtain ⟨hl, he⟩ := List.getElem?_eq_some_iff.1 hy
        rw [List.drop_eq_getElem_cons hl, he]
      have htk : (fs.take (i + 1)).map Prod.fst = (fs.take i).map Prod.fst ++ [n1] := by rw [List.take_add_one, hy]; simp
      obtain ⟨hf1, hf2, hf3, hf4, hf5⟩ := HFF.out _ (List.mem_of_getElem? hy)
      simp only at hf1 hf2 hf3 hf4 hf5
      obtain ⟨x1, x2, x3, x4⟩ := hR.out
      obtain ⟨g, off, A1, c1, rfl, _, hg, p0, p1, p2, p3, p4, hk1⟩ := (HFl.out.bh x2).at hy
      simp only at p0 p1 p2 p3 p4 hk1
      have eA := heap_alloc_new wr (.cells #[.string ⟨n1.toArray⟩, .int .i64 k1, .string ⟨t1.toArray⟩, .int .i64 j1, .slice A1 h1.len c1] 40)
      have fA := bh_alloc (BH.refl wr) (.cells #[.string ⟨n1.toArray⟩, .int .i64 k1, .string ⟨t1.toArray⟩, .int .i64 j1, .slice A1 h1.len c1] 40)
      obtain ⟨y0, y1, y2, y3, y4⟩ := row5 eA
      obtain ⟨id1, hid⟩ : ∃ id1, identC n1 = id1 := ⟨_, rfl⟩
      obtain ⟨vt, hvt⟩ : ∃ vt, vtB k1 t1 j1 h1 ar = vt := ⟨_, rfl⟩
      obtain ⟨sn, hsn⟩ : ∃ sn, ((fs.take i).map Prod.fst).contains n1 = sn := ⟨_, rfl⟩
      rw [hd, avL] at x4
      simp only [hid, hvt, hsn] at x4
      have HId : Hid (∀ X, Calls Tryz.prog 110 #[.string ⟨n1.toArray⟩] X fun e u => e = .returned (.bool id1) ∧ X = u) := Lib.hid fun X => by
        rw [← hid]
        exact identP_any ⟨n1.toArray⟩ X (by simp [ByteArray.size]; omega)
      have HVt : Hid (∀ X, BH wr X → Calls Tryz.prog 109 #[.agg #[.int .i64 k1, .string ⟨t1.toArray⟩, .int .i64 j1, .slice A1 h1.len c1], .int .i64 ar] X fun e u => e = .returned (.bool vt) ∧ BH X u) := Lib.hid fun X hX => by
        rw [← hvt]
        exact hValidTerm k1 j1 t1 h1 A1 c1 ar X hf2 (hk1.kt.below hX) hf3 hf4
      have hx3A : MapL (wr.alloc (.cells #[.string ⟨n1.toArray⟩, .int .i64 k1, .string ⟨t1.toArray⟩, .int .i64 j1, .slice A1 h1.len c1] 40)) (w.heap.size + 1) (seenL ((fs.take i).map Prod.fst)) := x3.keep (Below.block fA _ x3.lt)
      have hrun := hx3A.look (P := Tryz.prog) (t := 84) Tryz.underlying9 Tryz.underlying84 (zeroBool _) (s := n1) (by unfold maxLen; omega) false
      rw [getM_seen, hsn] at hrun
      have HRun := Lib.hid hrun
      have HX := Lib.hid (And.intro x1 (And.intro x2 (And.intro x3 x4)))
      have HA := Lib.hid (And.intro eA fA)
      have HTk := Lib.hid htk
      have HSn := Lib.hid hsn
      have HIdv := Lib.hid hid
      have HVtv := Lib.hid hvt
      clear hd htk hf2 hf3 hf4 hf5 x1 x2 x3 x4 hg hk1 eA fA hid hvt hsn hx3A hrun hR hy
      go_wp2_with (fail)
      refine (HId.out _).mono ?_
      rintro e u ⟨rfl, rfl⟩
      have HBA := Lib.hid (BH.trans HX.out.2.1 HA.out.2)
      have hxw := (Below.block HA.out.2 _ (heap_lt HX.out.1)).trans HX.out.1
      obtain ⟨⟨r0, r1, r2, r3, r4, r5, r6, r7⟩, _⟩ := row8 hxw
      have HXW := Lib.hid hxw
      clear hxw
      cases id1 with
      | false =>
        go_wp2_with (fail)
        go_ret
        exact ⟨by rw [HX.out.2.2.2]; rfl, HBA.out⟩
      | true =>
        cases sn with
        | true =>
          have hrun := HRun.out
          simp only [if_true, lookV] at hrun
          go_wp2_with (fail)
          go_ret
          exact ⟨by rw [HX.out.2.2.2]; rfl, HBA.out⟩
        | false =>
          have hrun := HRun.out
          simp only [Bool.false_eq_true, if_false, lookV] at hrun
          go_wp2_with (fail)
          refine (HVt.out _ HA.out.2).mono ?_
          rintro e u ⟨rfl, hb⟩
          have HB := Lib.hid hb
          have HBu := Lib.hid (BH.trans HBA.out hb)
          have hxu := (Below.block hb _ (heap_lt HXW.out)).trans HXW.out
          have hfu := (Below.block hb _ (heap_lt HA.out.1)).trans HA.out.1
          have HU := Lib.hid (And.intro hxu hfu)
          clear hrun hb y0 y1 y2 y3 y4 r0 r1 r2 r3 r4 r5 r6 r7
          obtain ⟨y0, y1, y2, y3, y4⟩ := row5 hfu
          clear hxu hfu
          cases vt with
          | false =>
            go_wp2_with (fail)
            go_ret
            exact ⟨by rw [HX.out.2.2.2]; rfl, HBu.out⟩
          | true =>
            have hmu : MapL u (w.heap.size + 1) (seenL ((fs.take i).map Prod.fst)) := HX.out.2.2.1.keep ((Below.block HB.out _ (by have := HX.out.2.2.1.lt; simp; omega)).trans (Below.block HA.out.2 _ HX.out.2.2.1.lt))
            have HMu := Lib.hid hmu
            clear hmu
            go_wp2_with (at_mapUpdate; go_loud (refine wpList_mapPush _ (by rfl) _ _ _ _ (by rfl) 9 4 Tryz.underlying9 Tryz.underlying84 (w.heap.size + 1) (seenL ((fs.take i).map Prod.fst)) (by rfl) HMu.out n1 (by unfold maxLen; omega) (.bool true) (by rfl) (by rfl) (by rw [getM_seen, HSn.out]; rfl) ?_))
            intro w5 hm5 hg5 hs5
            have hfin : Hid (w5.heap[w.heap.size]? = some (.cells #[.string ⟨n.toArray⟩, .int .i64 ar, a2, a3, a4, a5, .bool cc, .slice (some ⟨g, off, none⟩) M x] 37 (0, 0)) ∧ BH w w5 ∧ MapL w5 (w.heap.size + 1) (seenL ((fs.take (i + 1)).map Prod.fst)) ∧ Z = avL ar (fs.drop (i + 1)) ((fs.take (i + 1)).map Prod.fst)) := by
              refine Lib.hid ⟨?_, ?_, ?_, ?_⟩
              · exact (hg5.block _ (heap_lt HU.out.1) (by simp)).trans HU.out.1
              · exact below_gb_of HBu.out hg5 (by omega)
              · rw [HTk.out]
                simpa only [seenL, List.map_append, List.map_take, List.map_cons, List.map_nil] using hm5
              · rw [HTk.out, HX.out.2.2.2]
                rfl
            clear hm5 hg5 hs5 y0 y1 y2 y3 y4
            go_wp2_with (fail)
            exact ⟨⟨i + 1, rfl, by omega, hfin⟩, by simp; omega⟩
    · have hge : decide ((i : Int) < (M : Int)) = false := by rw [decide_eq_false_iff_not]; omega
      have hge2 : decide (i < M) = false := by rw [decide_eq_false_iff_not]; omega
      have hie : i = M := by omega
      have hz : Z = true := by
        obtain ⟨_, _, _, x4⟩ := hR.out
        rw [x4, List.drop_of_length_le (by rw [HM.out, hie]; exact Nat.le_refl _), avL]
      have Hz := Lib.hid hz
      clear hz hie
      go_wp2_with (fail)
      go_ret
      exact ⟨by rw [Hz.out]; rfl, hR.out.2.1⟩

set_option maxHeartbeats 4000000 in
set_option maxRecDepth 100000 in
theorem hValid (V : Int) (d : De) (A F : Option Addr) (c x : Nat) (w : World) (S : Nat → Prop) (hok : OkD V d) (hK : KT w d.super.kids A c) (hFl : FlS w S d.fields F x) :
    Calls Tryz.prog 51 #[.agg #[.string ⟨d.name.toArray⟩, .int .i64 d.arity, .int .i64 d.super.k, .string ⟨d.super.t.toArray⟩, .int .i64 d.super.o, .slice A d.super.kids.len c, .bool d.conc, .slice F d.fields.length x]] w fun e w' => e = .returned (.bool (vdB d)) ∧ BH w w' := by
  obtain ⟨n, ar, ⟨k, t, kids, o⟩, cc, fs⟩ := d
  obtain ⟨hn, ⟨hN, ht, hl, hcl⟩, hofs⟩ := hok
  simp only at hn hN ht hl hcl hofs hK hFl ⊢
  obtain ⟨p, hp⟩ : ∃ p, tnB n = p := ⟨_, rfl⟩
  obtain ⟨q, hq⟩ : ∃ q, vsB ⟨k, t, kids, o⟩ ar = q := ⟨_, rfl⟩
  obtain ⟨r, hr⟩ : ∃ r, avL ar fs [] = r := ⟨_, rfl⟩
  obtain ⟨M, hM⟩ : ∃ M, fs.length = M := ⟨_, rfl⟩
  have HC : Hid (∀ X, BH w X → Calls Tryz.prog 79 #[.string ⟨n.toArray⟩] X fun e u => e = .returned (.bool p) ∧ BH X u) := Lib.hid fun X hX =>
    (hTypeName n X hn).mono fun e u h => ⟨by rw [h.1, hp], h.2⟩
  have HD : Hid (∀ X, BH w X → Calls Tryz.prog 80 #[.agg #[.string ⟨n.toArray⟩, .int .i64 ar, .int .i64 k, .string ⟨t.toArray⟩, .int .i64 o, .slice A kids.len c, .bool cc, .slice F M x]] X fun e u => e = .returned (.bool q) ∧ BH X u) := Lib.hid fun X hX =>
    (hValidSuper n ar k o t kids A c cc F M x X hN (hK.below hX) ht hl).mono fun e u h => ⟨by rw [h.1, hq], h.2⟩
  have HV : Hid (∀ X, BH w X → Calls Tryz.prog 81 #[.agg #[.string ⟨n.toArray⟩, .int .i64 ar, .int .i64 k, .string ⟨t.toArray⟩, .int .i64 o, .slice A kids.len c, .bool cc, .slice F M x]] X fun e u => e = .returned (.bool r) ∧ BH X u) := Lib.hid fun X hX => by
    have h := hValidFields V n ar (.int .i64 k) (.string ⟨t.toArray⟩) (.int .i64 o) (.slice A kids.len c) cc fs F x X S hofs (hFl.bh hX) rfl rfl rfl rfl
    rw [hM] at h
    exact h.mono fun e u h => ⟨by rw [h.1, hr], h.2⟩
  have hV : vdB ⟨n, ar, ⟨k, t, kids, o⟩, cc, fs⟩ = (p && (decide (0 ≤ ar) && (q && (decide (M = 0) || (cc && r))))) := by rw [vdB]; simp only [hp, hq, hr, hM]
  obtain ⟨Z, hZ⟩ : ∃ Z, vdB ⟨n, ar, ⟨k, t, kids, o⟩, cc, fs⟩ = Z := ⟨_, rfl⟩
  rw [hZ] at hV ⊢
  rw [hM]
  have HZ := Lib.hid hV
  have e1 := heap_alloc_new w (.cells #[.string ⟨n.toArray⟩, .int .i64 ar, .int .i64 k, .string ⟨t.toArray⟩, .int .i64 o, .slice A kids.len c, .bool cc, .slice F M x] 37)
  have f1 := bh_alloc (BH.refl w) (.cells #[.string ⟨n.toArray⟩, .int .i64 ar, .int .i64 k, .string ⟨t.toArray⟩, .int .i64 o, .slice A kids.len c, .bool cc, .slice F M x] 37)
  have HF := Lib.hid (And.intro e1 f1)
  have hM2 : M ≤ 1048576 := by rw [← hM]; exact hofs.1
  obtain ⟨⟨r0, r1, r2, r3, r4, r5, r6, r7⟩, _⟩ := row8 e1
  clear hp hq hV hZ hK ht hl hN hn e1 f1 hr hM hFl hofs hcl
  go_enter Tryz.func51, Tryz.ntmps51
  go_wp2_with (fail)
  refine (HC.out _ HF.out.2).mono ?_
  rintro e u ⟨rfl, hb⟩
  have HB := Lib.hid (BH.trans HF.out.2 hb)
  have HN := Lib.hid ((Below.block hb _ (heap_lt HF.out.1)).trans HF.out.1)
  clear hb r0 r1 r2 r3 r4 r5 r6 r7
  obtain ⟨⟨r0, r1, r2, r3, r4, r5, r6, r7⟩, _⟩ := row8 HN.out
  cases p with
  | false =>
    go_wp2_with (fail)
    go_ret
    exact ⟨by rw [HZ.out]; rfl, HB.out⟩
  | true =>
    by_cases ha : ar < 0
    · have t1 : decide (ar < 0) = true := by simpa using ha
      have t2 : decide (0 ≤ ar) = false := by rw [decide_eq_false_iff_not]; omega
      go_wp2_with (fail)
      go_ret
      exact ⟨by rw [HZ.out, t2]; rfl, HB.out⟩
    · have t1 : decide (ar < 0) = false := by simpa using ha
      have t2 : decide (0 ≤ ar) = true := by rw [decide_eq_true_eq]; omega
      go_wp2_with (fail)
      refine (HD.out _ HB.out).mono ?_
      rintro e u2 ⟨rfl, hb⟩
      have HB2 := Lib.hid (BH.trans HB.out hb)
      have HN2 := Lib.hid ((Below.block hb _ (heap_lt HN.out)).trans HN.out)
      clear hb r0 r1 r2 r3 r4 r5 r6 r7
      obtain ⟨⟨r0, r1, r2, r3, r4, r5, r6, r7⟩, _⟩ := row8 HN2.out
      cases q with
      | false =>
        go_wp2_with (fail)
        go_ret
        exact ⟨by rw [HZ.out, t2]; rfl, HB2.out⟩
      | true =>
        by_cases hm0 : M = 0
        · subst hm0
          go_wp2_with (fail)
          go_ret
          exact ⟨by rw [HZ.out, t2]; rfl, HB2.out⟩
        · have t3 : decide (M = 0) = false := by simpa using hm0
          have t4 : ((M : Int) == 0) = false := by rw [beq_eq_false_iff_ne]; omega
          have t5 : decide ((M : Int) = 0) = false := by rw [decide_eq_false_iff_not]; omega
          cases cc with
          | false =>
            go_wp2_with (fail)
            go_ret
            exact ⟨by rw [HZ.out, t2, t3]; rfl, HB2.out⟩
          | true =>
            go_wp2_with (fail)
            refine (HV.out _ HB2.out).mono ?_
            rintro e u3 ⟨rfl, hb⟩
            have HB3 := Lib.hid (BH.trans HB2.out hb)
            clear hb
            go_wp2_with (fail)
            go_ret
            exact ⟨by rw [HZ.out, t2, t3]; rfl, HB3.out⟩
end Go.Proofs.YtpkiheenkpcebaaGreatDoor
namespace Go.Proofs
open Go.Shelf Go.RowKit Go.Lib
def Tryz.lays106_ren : Go.Shelf.Ren := ⟨fun | 106 => 137 | 213 => 165 | 265 => 190 | n => n, fun | 9 => 9 | 3 => 3 | n => n, fun | n => n⟩
theorem Tryz.lays106 : Go.Proofs.Lays.n106 Tryz.prog Tryz.lays106_ren := {
  mixed := by kernel_rfl
  f106 := Tryz.func137.trans (congrArg some (by kernel_rfl))
  f213 := Tryz.func165.trans (congrArg some (by kernel_rfl))
  f265 := Tryz.func190.trans (congrArg some (by kernel_rfl))
  t3 := Tryz.underlying3
  a3 := Tryz.isAgg3
  z3 := Tryz.sizeOf3
  v3 := Tryz.zeroValue3
  t9 := Tryz.underlying9
  a9 := Tryz.isAgg9
  z9 := Tryz.sizeOf9
  v9 := Tryz.zeroValue9 }
theorem Tryz.strings_Compare (a b : ByteArray) (w : World) :
    Calls Tryz.prog 137 #[.string a, .string b] w fun e w' => e = .returned (.int .i64 (Lib.compareBytes a.data.toList b.data.toList)) ∧ w' = w := Any.strings_Compare Tryz.lays106 a b w
def Tryz.lays122_ren : Go.Shelf.Ren := ⟨fun | 122 => 136 | 215 => 164 | n => n, fun | 3 => 3 | 4 => 4 | n => n, fun | n => n⟩
theorem Tryz.lays122 : Go.Proofs.Lays.n122 Tryz.prog Tryz.lays122_ren := {
  mixed := by kernel_rfl
  f122 := Tryz.func136.trans (congrArg some (by kernel_rfl))
  f215 := Tryz.func164.trans (congrArg some (by kernel_rfl))
  t3 := Tryz.underlying3
  a3 := Tryz.isAgg3
  z3 := Tryz.sizeOf3
  v3 := Tryz.zeroValue3
  t4 := Tryz.underlying4
  a4 := Tryz.isAgg4
  z4 := Tryz.sizeOf4
  v4 := Tryz.zeroValue4 }
theorem Tryz.cmp_Compare_int (x y : Int) (w : World) :
    Calls Tryz.prog 136 #[.int .i64 x, .int .i64 y] w fun e w' => e = .returned (.int .i64 (Lib.compareInt x y)) ∧ w' = w := Any.cmp_Compare_int Tryz.lays122 x y w
end Go.Proofs
namespace Go.Proofs.YtpkiheenkpcebaaGreatDoor.Sx
open Go.Lib

def lx (a b : Int) : Int := if a = 0 then b else a
def cmpF : Fo → Fo → Int
  | .cons k t kids o rest, .cons k' t' kids' o' rest' =>
    lx (lx (compareInt k k') (lx (compareBytes t t') (lx (compareInt o o') (lx (compareInt (kids.len : Nat) (kids'.len : Nat)) (cmpF kids kids'))))) (cmpF rest rest')
  | _, _ => 0
def cmp1 (k : Int) (t : List UInt8) (o : Int) (kids : Fo) (k' : Int) (t' : List UInt8) (o' : Int) (kids' : Fo) : Int :=
  lx (compareInt k k') (lx (compareBytes t t') (lx (compareInt o o') (lx (compareInt (kids.len : Nat) (kids'.len : Nat)) (cmpF kids kids'))))
theorem cmpF_cons (k : Int) (t : List UInt8) (kids : Fo) (o : Int) (rest : Fo) (k' : Int) (t' : List UInt8) (kids' : Fo) (o' : Int) (rest' : Fo) :
    cmpF (.cons k t kids o rest) (.cons k' t' kids' o' rest') = lx (cmp1 k t o kids k' t' o' kids') (cmpF rest rest') := rfl

theorem lx_neg (a b : Int) : lx (-a) (-b) = - lx a b := by
  unfold lx
  split <;> split <;> omega
theorem compareInt_neg (x y : Int) : compareInt y x = - compareInt x y := by
  unfold compareInt
  repeat' split
  all_goals first | rfl | (exfalso; omega)
theorem lt_irr {a b : UInt8} (h : a < b) (h' : b < a) : False := by
  rw [UInt8.lt_iff_toNat_lt] at h h'
  omega
theorem compareBytes_neg (x : List UInt8) : ∀ y, compareBytes y x = - compareBytes x y := by
  induction x with
  | nil => intro y; cases y <;> rfl
  | cons a x ih =>
    intro y
    cases y with
    | nil => rfl
    | cons b y =>
      simp only [compareBytes]
      by_cases h1 : a < b
      · have h2 : ¬ b < a := fun h => lt_irr h1 h
        simp [h1, h2]
      · by_cases h2 : b < a
        · simp [h1, h2]
        · simp [h1, h2, ih]
theorem cmpF_neg (f : Fo) : ∀ g, cmpF g f = - cmpF f g := by
  induction f with
  | nil => intro g; cases g <;> rfl
  | cons k t kids o rest ihk ihr =>
    intro g
    cases g with
    | nil => rfl
    | cons k' t' kids' o' rest' =>
      rw [cmpF_cons, cmpF_cons, cmp1, cmp1, compareInt_neg k, compareBytes_neg t, compareInt_neg o, compareInt_neg (kids.len : Nat), ihk, ihr]
      simp only [lx_neg]
theorem cmp1_neg (k : Int) (t : List UInt8) (o : Int) (kids : Fo) (k' : Int) (t' : List UInt8) (o' : Int) (kids' : Fo) : cmp1 k' t' o' kids' k t o kids = - cmp1 k t o kids k' t' o' kids' := by
  rw [cmp1, cmp1, compareInt_neg k, compareBytes_neg t, compareInt_neg o, compareInt_neg (kids.len : Nat), cmpF_neg]
  simp only [lx_neg]

/-- the signs of three comparisons fit together -/
def T3 (x y z : Int) : Prop := (x ≤ 0 → y ≤ 0 → z ≤ 0) ∧ (x ≤ 0 → y < 0 → z < 0) ∧ (x < 0 → y ≤ 0 → z < 0) ∧ (x = 0 → y = 0 → z = 0)
theorem T3.lx {x y z x' y' z' : Int} (h : T3 x y z) (h' : x = 0 → y = 0 → T3 x' y' z') : T3 (lx x x') (lx y y') (lx z z') := by
  obtain ⟨h1, h2, h3, h4⟩ := h
  by_cases hx : x = 0
  · by_cases hy : y = 0
    · have hz := h4 hx hy
      obtain ⟨k1, k2, k3, k4⟩ := h' hx hy
      simp only [Sx.lx, hx, hy, hz, if_true]
      exact ⟨k1, k2, k3, k4⟩
    · simp only [Sx.lx, hx, hy, if_true, if_false]
      refine ⟨fun a b => ?_, fun a b => ?_, fun a b => ?_, fun a b => absurd b hy⟩
      all_goals
        have := h2 (by omega) (by omega)
        rw [if_neg (by omega)]
        omega
  · simp only [Sx.lx, hx, if_false]
    refine ⟨fun a b => ?_, fun a b => ?_, fun a b => ?_, fun a b => absurd a hx⟩
    all_goals
      by_cases hy : y = 0
      · have := h3 (by omega) (by omega)
        rw [if_neg (by omega)]
        omega
      · rw [if_neg hy] at b
        have := h3 (by omega) (by omega)
        rw [if_neg (by omega)]
        omega
theorem T3.int (a b c : Int) : T3 (compareInt a b) (compareInt b c) (compareInt a c) := by
  unfold compareInt
  refine ⟨?_, ?_, ?_, ?_⟩
  all_goals
    repeat' split
    all_goals omega
theorem T3.bytes (a : List UInt8) : ∀ b c, T3 (compareBytes a b) (compareBytes b c) (compareBytes a c) := by
  induction a with
  | nil =>
    intro b c
    cases b <;> cases c <;> simp [compareBytes, T3]
    all_goals (try split) <;> (try split) <;> (try omega)
  | cons x a ih =>
    intro b c
    cases b with
    | nil => cases c <;> simp [compareBytes, T3] <;> (try split) <;> (try split) <;> (try omega)
    | cons y b =>
      cases c with
      | nil => simp [compareBytes, T3] <;> (try split) <;> (try split) <;> (try omega)
      | cons z c =>
        have e : ∀ (p q : UInt8) (u v : List UInt8), compareBytes (p :: u) (q :: v) = Sx.lx (compareInt (p.toNat : Nat) (q.toNat : Nat)) (compareBytes u v) := by
          intro p q u v
          simp only [compareBytes, Sx.lx, compareInt, UInt8.lt_iff_toNat_lt]
          by_cases h1 : p.toNat < q.toNat
          · simp [h1]
          · by_cases h2 : q.toNat < p.toNat
            · have : ¬ p.toNat = q.toNat := by omega
              simp [h1, h2]
            · simp [h1, h2]
        rw [e, e, e]
        exact (T3.int _ _ _).lx fun _ _ => ih b c
theorem compareInt_zero {x y : Int} (h : compareInt x y = 0) : x = y := by
  unfold compareInt at h
  repeat' split at h
  all_goals omega
theorem T3.fo (f : Fo) : ∀ g h, f.len = g.len → g.len = h.len → T3 (cmpF f g) (cmpF g h) (cmpF f h) := by
  induction f with
  | nil =>
    intro g h h1 h2
    cases g with
    | cons => simp [Fo.len] at h1
    | nil => cases h with
      | cons => simp [Fo.len] at h2
      | nil => simp [cmpF, T3]
  | cons k t kids o rest ihk ihr =>
    intro g h h1 h2
    cases g with
    | nil => simp [Fo.len] at h1
    | cons k1 t1 kids1 o1 rest1 => cases h with
      | nil => simp [Fo.len] at h2
      | cons k2 t2 kids2 o2 rest2 =>
        simp only [Fo.len] at h1 h2
        rw [cmpF_cons, cmpF_cons, cmpF_cons, cmp1, cmp1, cmp1]
        refine T3.lx ?_ fun _ _ => ihr _ _ (by omega) (by omega)
        refine (T3.int _ _ _).lx fun _ _ => (T3.bytes _ _ _).lx fun _ _ => (T3.int _ _ _).lx fun _ _ => (T3.int _ _ _).lx fun e1 e2 => ihk _ _ ?_ ?_
        · have := compareInt_zero e1; omega
        · have := compareInt_zero e2; omega
theorem T3.one (k : Int) (t : List UInt8) (o : Int) (kids : Fo) (k1 : Int) (t1 : List UInt8) (o1 : Int) (kids1 : Fo) (k2 : Int) (t2 : List UInt8) (o2 : Int) (kids2 : Fo) :
    T3 (cmp1 k t o kids k1 t1 o1 kids1) (cmp1 k1 t1 o1 kids1 k2 t2 o2 kids2) (cmp1 k t o kids k2 t2 o2 kids2) := by
  rw [cmp1, cmp1, cmp1]
  refine (T3.int _ _ _).lx fun _ _ => (T3.bytes _ _ _).lx fun _ _ => (T3.int _ _ _).lx fun _ _ => (T3.int _ _ _).lx fun e1 e2 => T3.fo _ _ _ ?_ ?_
  · have := compareInt_zero e1; omega
  · have := compareInt_zero e2; omega
theorem cmp1_self (k : Int) (t : List UInt8) (o : Int) (kids : Fo) : cmp1 k t o kids k t o kids = 0 := by
  have := cmp1_neg k t o kids k t o kids
  omega
end Go.Proofs.YtpkiheenkpcebaaGreatDoor.Sx
namespace Go.Proofs.YtpkiheenkpcebaaGreatDoor
open Go.RowKit Sx

set_option maxHeartbeats 1000000 in
theorem or_any (g : Nat) (a b c d : Int) (w : World) (h0 : w.cell? ⟨g, 0, none⟩ = some (.int .i64 a)) (h1 : w.cell? ⟨g, 1, none⟩ = some (.int .i64 b)) (h2 : w.cell? ⟨g, 2, none⟩ = some (.int .i64 c)) (h3 : w.cell? ⟨g, 3, none⟩ = some (.int .i64 d)) :
    Calls Tryz.prog 135 #[.slice (some ⟨g, 0, none⟩) 4 4] w fun e w' => e = .returned (.int .i64 (lx a (lx b (lx c d)))) ∧ w' = w := by
  obtain ⟨V, hV⟩ : ∃ V, lx a (lx b (lx c d)) = V := ⟨_, rfl⟩
  rw [hV]
  have HV := Lib.hid hV
  clear hV
  go_enter Tryz.func135, Tryz.ntmps135
  go_wp2_with (fail)
  go_loopw [2, 5, 8] (fun s2 _ iv wr => Hid (s2 = .int .i64 0) ∧ ∃ i : Nat, iv = .int .i64 (i : Int) ∧ i ≤ 4 ∧ Hid (wr = w) ∧ Hid (lx a (lx b (lx c d)) = (match i with | 0 => lx a (lx b (lx c d)) | 1 => lx b (lx c d) | 2 => lx c d | 3 => d | _ => 0))) (fun _ _ iv _ => 4 - (match iv with | .int _ n => n.toNat | _ => 0))
  case atStart => exact ⟨Lib.hid rfl, 0, rfl, by omega, Lib.hid rfl, Lib.hid rfl⟩
  case round =>
    obtain ⟨hs2, i, rfl, hi, hw, hE⟩ := hrel
    obtain rfl := hs2.out
    obtain rfl := hw.out
    clear hs2 hw
    match i, hi with
    | 0, _ =>
      by_cases ha : a = 0
      · subst ha
        go_wp2_with (fail)
        exact ⟨⟨Lib.hid rfl, 1, rfl, by omega, Lib.hid trivial, Lib.hid (by simp [lx])⟩, by simp⟩
      · go_wp2_with (fail)
        go_ret
        exact ⟨congrArg (fun z : Int => Ending.returned (.int .i64 z)) (by rw [← HV.out]; simp [lx, ha]), rfl⟩
    | 1, _ =>
      by_cases ha : b = 0
      · subst ha
        go_wp2_with (fail)
        exact ⟨⟨Lib.hid rfl, 2, rfl, by omega, Lib.hid trivial, Lib.hid (by rw [hE.out]; simp [lx])⟩, by simp⟩
      · go_wp2_with (fail)
        go_ret
        exact ⟨congrArg (fun z : Int => Ending.returned (.int .i64 z)) (by rw [← HV.out, hE.out]; simp [lx, ha]), rfl⟩
    | 2, _ =>
      by_cases ha : c = 0
      · subst ha
        go_wp2_with (fail)
        exact ⟨⟨Lib.hid rfl, 3, rfl, by omega, Lib.hid trivial, Lib.hid (by rw [hE.out]; simp [lx])⟩, by simp⟩
      · go_wp2_with (fail)
        go_ret
        exact ⟨congrArg (fun z : Int => Ending.returned (.int .i64 z)) (by rw [← HV.out, hE.out]; simp [lx, ha]), rfl⟩
    | 3, _ =>
      by_cases ha : d = 0
      · subst ha
        go_wp2_with (fail)
        exact ⟨⟨Lib.hid rfl, 4, rfl, by omega, Lib.hid trivial, Lib.hid (by exact hE.out)⟩, by simp⟩
      · go_wp2_with (fail)
        go_ret
        exact ⟨congrArg (fun z : Int => Ending.returned (.int .i64 z)) (by rw [← HV.out, hE.out]), rfl⟩
    | 4, _ =>
      go_wp2_with (fail)
      go_ret
      exact ⟨congrArg (fun z : Int => Ending.returned (.int .i64 z)) (by rw [← HV.out, hE.out]), rfl⟩

theorem or_new (a b c d : Int) (e : TypeId) (w : World) :
    Calls Tryz.prog 135 #[.slice (some ⟨w.heap.size, 0, none⟩) 4 4] (w.alloc (.cells #[.int .i64 a, .int .i64 b, .int .i64 c, .int .i64 d] e (0, 0))) fun e' w' => e' = .returned (.int .i64 (lx a (lx b (lx c d)))) ∧ w' = w.alloc (.cells #[.int .i64 a, .int .i64 b, .int .i64 c, .int .i64 d] e (0, 0)) := by
  obtain ⟨h0, h1, h2, h3⟩ := box4 w (.int .i64 a) (.int .i64 b) (.int .i64 c) (.int .i64 d) e
  exact or_any _ _ _ _ _ _ h0 h1 h2 h3
end Go.Proofs.YtpkiheenkpcebaaGreatDoor
namespace Go.Proofs.YtpkiheenkpcebaaGreatDoor
open Go.RowKit Sx

theorem lx_ne {a b : Int} (h : ¬ a = 0) : lx a b = a := if_neg h
theorem lx_0 (b : Int) : lx 0 b = b := if_pos rfl
theorem cI_self (x : Int) : Lib.compareInt x x = 0 := by
  unfold Lib.compareInt
  repeat' split
  all_goals omega
theorem cI_ne {x y : Int} (h : ¬ x = y) : Lib.compareInt x y = (if decide (x < y) then -1 else 1) ∧ ¬ Lib.compareInt x y = 0 := by
  unfold Lib.compareInt
  by_cases h1 : x < y
  · simp [h1]
  · have h2 : x > y := by omega
    simp [h1, h2]
theorem cB_self (x : List UInt8) : Lib.compareBytes x x = 0 := by
  have := compareBytes_neg x x
  omega
theorem cB_ne (x : List UInt8) : ∀ y, ¬ x = y → Lib.compareBytes x y = (if Op.bytesLess x y then -1 else 1) ∧ ¬ Lib.compareBytes x y = 0 := by
  induction x with
  | nil =>
    intro y h
    cases y with
    | nil => exact absurd rfl h
    | cons b y => simp [Lib.compareBytes, Op.bytesLess]
  | cons a x ih =>
    intro y h
    cases y with
    | nil => simp [Lib.compareBytes, Op.bytesLess]
    | cons b y =>
      simp only [Lib.compareBytes, Op.bytesLess]
      by_cases h1 : a < b
      · simp [h1]
      · by_cases h2 : b < a
        · have h3 : ¬ a = b := fun e => by subst e; exact h1 h2
          simp [h1, h2, h3]
        · have h3 : a = b := by
            rw [UInt8.lt_iff_toNat_lt] at h1 h2
            exact UInt8.toNat_inj.1 (by omega)
          subst h3
          have := ih y (fun e => h (by rw [e]))
          simp only [h1, if_false, decide_false, Bool.false_or, beq_self_eq_true, Bool.true_and]
          exact this
theorem tba_ne {t t' : List UInt8} (h : ¬ t = t') : ¬ (ByteArray.mk t.toArray = ByteArray.mk t'.toArray) := fun e => h (by
  have := congrArg (fun b : ByteArray => b.data.toList) e
  simpa using this)
theorem cmp_k {k k' : Int} {b F : Int} (h : ¬ k = k') (hF : lx (Lib.compareInt k k') b = F) : (if decide (k < k') then (-1 : Int) else 1) = F := by
  rw [← hF, lx_ne (cI_ne h).2, (cI_ne h).1]
theorem cmp_s {k k' : List UInt8} {b F : Int} (h : ¬ k = k') (hF : lx (Lib.compareBytes k k') b = F) : (if Op.bytesLess k k' then (-1 : Int) else 1) = F := by
  rw [← hF, lx_ne (cB_ne _ _ h).2, (cB_ne _ _ h).1]
theorem cmp_k0 {k : Int} {b F : Int} (hF : lx (Lib.compareInt k k) b = F) : b = F := by rw [← hF, cI_self, lx_0]
theorem cmp_s0 {k : List UInt8} {b F : Int} (hF : lx (Lib.compareBytes k k) b = F) : b = F := by rw [← hF, cB_self, lx_0]

end Go.Proofs.YtpkiheenkpcebaaGreatDoor
