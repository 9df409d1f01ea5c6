/- (*Hierarchy).Declare in short; Decls: what it answers. No condition but bounded sizes. (*Hierarchy).Supertype at the example of chapter 3. telref1.Var, Named. No condition. telref1.order. No condition. -/
import Derived.Test.YtpkiheenkpcebaaGreatDoorMau
import Derived.Test.YtpkiheenkpcebaaGreatDoorMai
import Derived.Test.YtpkiheenkpcebaaGreatDoorMae
import Derived.Test.YtpkiheenkpcebaaGreatDoorMao
set_option linter.unusedVariables false
set_option linter.unusedSimpArgs false
namespace Go.Proofs.YtpkiheenkpcebaaGreatDoor
open Go.RowKit Sx

theorem hDeclare (V : Int) (B p b : Nat) (Q : Nat → Prop) (v : Value) (l : List (List UInt8 × Value)) (ds : List De) (d : De) (A F : Option Addr) (c x : Nat) (w : World) (H : Hier w B p b Q v l ds) (hds : ∀ d ∈ ds, OkD V d) (hd : OkD V d) (hBw : B ≤ w.heap.size) (hlen : ds.length ≤ 1000)
    (hV0 : 0 ≤ V) (hV1 : V ≤ 1152921504606846976) (hK : KS w (HS p b v Q) d.super.kids A c) (hFl : FlS w (HS p b v Q) d.fields F x) :
    Calls Tryz.prog 16 #[.pointer (some ⟨p, 0, none⟩), .agg #[.string ⟨d.name.toArray⟩, .int .i64 d.arity, .int .i64 d.super.k, .string ⟨d.super.t.toArray⟩, .int .i64 d.super.o, .slice A d.super.kids.len c, .bool d.conc, .slice F d.fields.length x]] w (DeclPost B p b Q v l ds d w) := by
  obtain ⟨n, ar, ⟨k, t, kids, o⟩, cc, fs⟩ := d
  simp only at hK hFl ⊢
  cases hf : findD ds n with
  | none => exact hDeclare_of V B p b Q v l ds n ar k o t kids cc fs fs.length rfl A F c x w H hBw hlen hd hV0 hV1 hK hFl [] 0 0 0 [] none .nil 0 false [] 0 none 0 false (by rw [H.none' hf]; rfl) (fun h => by cases h) (fun _ => hf)
  | some d1 =>
    obtain ⟨hn, u, hu, A1, c1, F1, x1, rfl, hk1, hf1⟩ := H.some' hf
    have hg := hds _ (List.mem_of_find?_eq_some hf)
    obtain ⟨n1, r1, ⟨k1, t1, f1s, o1⟩, q1, fs1⟩ := d1
    exact hDeclare_of V B p b Q v l ds n ar k o t kids cc fs fs.length rfl A F c x w H hBw hlen hd hV0 hV1 hK hFl n1 r1 k1 o1 t1 A1 f1s c1 q1 fs1 fs1.length F1 x1 true (by rw [hu]; rfl) (fun _ => ⟨hf, hk1.kt, rfl, hf1, hg⟩) (fun h => by cases h)

theorem infoDecl : (Tryz.prog.info? 37).map (fun i => (i.zero, i.size, i.bytes)) = some (some (.agg #[.string ⟨#[]⟩, .int .i64 0, .int .i64 0, .string ⟨#[]⟩, .int .i64 0, .slice none 0 0, .bool false, .slice none 0 0]), 8, 112) := by kernel_rfl

set_option maxHeartbeats 8000000 in
set_option maxRecDepth 100000 in
theorem hDecls_any (V : Int) (B p b : Nat) (Q : Nat → Prop) (v : Value) (l : List (List UInt8 × Value)) (ds : List De) (w : World) (H : Hier w B p b Q v l ds) (hds : ∀ d ∈ ds, OkD V d) (hBw : B ≤ w.heap.size) (hlen : ds.length ≤ 1000) (hV0 : 0 ≤ V) (hV1 : V ≤ 1152921504606846976) :
    Calls Tryz.prog 12 #[.pointer (some ⟨p, 0, none⟩)] w fun e w' => ∃ A c, e = .returned (.slice A ds.length c) ∧ DcS w' (fun x => w.heap.size ≤ x) ds A c ∧ BH w w' := by
  obtain ⟨i0, hi, hz0, hz1, hz2⟩ := info_parts infoDecl
  obtain ⟨A5, c5, rfl, hc5⟩ := own_shape H.own
  have HH := Lib.hid H
  have HD := Lib.hid hds
  obtain ⟨s0, s1, _⟩ := row2 H.blk
  have hC := Cel.of_own H.own
  have HC := Lib.hid hC
  clear H hds hC hc5
  go_enter Tryz.func12, Tryz.ntmps12
  go_wp2_with (fail)
  go_loopw [3, 11] (fun s3 iv wr => ∃ (i : Nat) (xs : List Value), iv = .int .i64 (i : Int) ∧ i ≤ ds.length ∧ wr.ownsRow w.heap.size 37 8 s3 i xs ∧ BH w wr ∧ DX wr (fun x => w.heap.size ≤ x ∧ s3.ownBlock ≠ some x) (ds.take i) xs) (fun _ iv _ => ds.length - (match iv with | .int _ n => n.toNat | _ => 0))
  case atStart => exact ⟨0, [], rfl, Nat.zero_le _, World.ownsRow_nil _ _ _ _, BH.refl _, rfl⟩
  case round =>
    obtain ⟨i, xs, rfl, hil, hown, hbh, hdx⟩ := hrel
    obtain ⟨A6, c6, rfl, hc6⟩ := own_shape hown
    have HO := Lib.hid hown
    have HB := Lib.hid hbh
    have HX := Lib.hid hdx
    clear hown hc6 hdx
    by_cases hlt : i < ds.length
    · have hge : decide ((i : Int) < (ds.length : Int)) = true := by rw [decide_eq_true_eq]; omega
      have hiL : (i : Int) < (ds.length : Int) := by omega
      have hi0 : (0 : Int) ≤ (i : Int) := by omega
      obtain ⟨d, hd⟩ : ∃ d, ds[i]? = some d := ⟨_, List.getElem?_eq_getElem hlt⟩
      obtain ⟨g, off, rfl, hg, hcell⟩ := (HC.out.bh hbh).2.2.2.2 (by omega)
      have q0 := hcell i (strV d.name) (by rw [namesV, List.getElem?_map, hd]; rfl)
      have hfd : ∃ u, getM l d.name = some u ∧ DS wr (HS p b (Value.slice (some ⟨g, off, none⟩) ds.length c5) Q) u d := by
        obtain ⟨u, h1, h2⟩ := (HH.out.bh hbh).row i d hd
        obtain ⟨es, clock, _, _, hn, _⟩ := HH.out.map
        exact ⟨u, getM_some hn (List.mem_of_getElem? h1), h2⟩
      obtain ⟨u, hu, A1, c1, F1, x1, rfl, hk1, hf1⟩ := hfd
      have hgd := HD.out d (List.mem_of_getElem? hd)
      have g4 : d.name.length ≤ 1048576 := hgd.1
      have hl2 := MapL.look (P := Tryz.prog) (t := 75) (HH.out.bh hbh).map Tryz.underlying9 Tryz.underlying75 (zeroDecl wr) (s := d.name) (by unfold maxLen; omega) false
      rw [hu] at hl2
      have hrun : (Instr.lookup 75 (.map (some b)) (.string ⟨d.name.toArray⟩) false).run Tryz.prog wr = .ok (.agg #[.string ⟨d.name.toArray⟩, .int .i64 d.arity, .int .i64 d.super.k, .string ⟨d.super.t.toArray⟩, .int .i64 d.super.o, .slice A1 d.super.kids.len c1, .bool d.conc, .slice F1 d.fields.length x1]) wr := hl2
      have hcp := copyDecl_any V d A1 F1 c1 x1 wr _ hV0 hV1 hgd hk1 hf1
      have HCp := Lib.hid hcp
      obtain ⟨w0, w1, _⟩ := row2 (HH.out.bh hbh).blk
      have HD2 := Lib.hid hd
      clear hbh hu hk1 hf1 hgd g4 hl2 hcp hcell hd
      go_wp2_with (fail)
      refine HCp.out.mono ?_
      rintro e u2 ⟨A2, c2, F2, x2, rfl, h1, h3, h2⟩
      have HB2 := Lib.hid (BH.trans HB.out h2)
      have HO2 := Lib.hid (HO.out.kept (row := none) (gb_below h2 none) (by
        cases hv : (Value.slice A6 i c6).ownBlock with
        | none => exact .inl rfl
        | some x => exact .inr (by simp)))
      have HX2 : Hid (DX u2 (fun x => w.heap.size ≤ x ∧ (Value.slice A6 i c6).ownBlock ≠ some x) (ds.take (i + 1)) (xs ++ eight d A2 c2 F2 x2)) := Lib.hid (by
        rw [show ds.take (i + 1) = ds.take i ++ [d] from by rw [List.take_add_one, HD2.out]; rfl]
        have hkk : ∀ x, wr.heap.size ≤ x → x < u2.heap.size → u2.heap[x]? = u2.heap[x]? ∧ (w.heap.size ≤ x ∧ (Value.slice A6 i c6).ownBlock ≠ some x) := fun x hx _ => ⟨rfl, by have := Below.size HB.out; omega, fun e => by have := (HO.out.lt x e).2; omega⟩
        exact DX.app (DX.single (h1.keep (Nat.le_refl _) hkk) (h3.keep (Nat.le_refl _) hkk)) _ _ (HX.out.bh h2))
      clear h1 h2 h3 w0 w1 hrun q0
      go_wp2_with (at_builtin; go_loud (refine wpList_rea (by rfl) _ _ _ (by rfl) w.heap.size 37 i0 _ 8 112 Tryz.underlying25 hi hz0 hz1 hz2 rfl (by decide) (.slice A6 i c6) i xs (by rfl) (HO2.out.alloc _) (some ⟨u2.heap.size, 0, none⟩) 1 1 (eight d A2 c2 F2 x2) (by rfl) (rea8 (heap_alloc_new u2 _)) (by unfold maxLen; omega) (by omega) (by have := Below.size HB2.out; simp; omega) ?_))
      intro v1 w5 ho hg1 ha
      obtain ⟨A7, c7, rfl, hc7⟩ := own_shape ho
      have HO3 := Lib.hid ho
      have HB5 := Lib.hid (bh_own (bh_alloc HB2.out (.cells #[.string ⟨d.name.toArray⟩, .int .i64 d.arity, .int .i64 d.super.k, .string ⟨d.super.t.toArray⟩, .int .i64 d.super.o, .slice A2 d.super.kids.len c2, .bool d.conc, .slice F2 d.fields.length x2] 37)) hg1 (fun q hq => (HO.out.lt q hq).1))
      have HX3 : Hid (DX w5 (fun x => w.heap.size ≤ x ∧ (Value.slice A7 (i + 1) c7).ownBlock ≠ some x) (ds.take (i + 1)) (xs ++ eight d A2 c2 F2 x2)) := Lib.hid (by
        refine DX.keep (Nat.le_trans (by simp) hg1.size) (fun x hx hl => ⟨(hg1.block x (by simp; omega) (fun e => hx.2 e.symm)).trans (Below.block (bh_alloc (BH.refl u2) _) x hl), hx.1, fun e => ?_⟩) _ _ HX2.out
        rcases ha with h | h
        · exact hx.2 (h.symm.trans e)
        · rw [h] at e; simp at e; omega)
      clear ho hg1 ha hc7
      go_wp2_with (fail)
      exact ⟨⟨i + 1, _, rfl, hlt, HO3.out, HB5.out, HX3.out⟩, by simp; omega⟩
    · have hge : decide ((i : Int) < (ds.length : Int)) = false := by rw [decide_eq_false_iff_not]; omega
      have hge2 : decide (i < ds.length) = false := by rw [decide_eq_false_iff_not]; omega
      have hie : i = ds.length := by omega
      have HI := Lib.hid hie
      clear hbh hie
      go_wp2_with (fail)
      go_ret
      have hX := HX.out
      rw [HI.out, List.take_length] at hX
      refine ⟨A6, c6, by rw [← HI.out]; rfl, ?_, HB.out⟩
      have hO := HO.out
      rw [HI.out] at hO
      exact (DcS.own rfl hO hX).keep (Nat.le_refl _) fun y hy _ => ⟨rfl, hy.elim (fun h => h.1) fun h => h⟩
end Go.Proofs.YtpkiheenkpcebaaGreatDoor
namespace Go.Proofs.YtpkiheenkpcebaaGreatDoor.Sx
def sList : List UInt8 := [76, 105, 115, 116]
def sVec : List UInt8 := [86, 101, 99]
def sInt : List UInt8 := [73, 110, 116]
def hV1 : Fo := .cons 5 [] .nil 0 .nil
def hI1 : Fo := .cons 2 sInt .nil 0 .nil
def dList : De := ⟨sList, 1, ⟨0, [], .nil, 0⟩, false, []⟩
def dVec : De := ⟨sVec, 1, ⟨2, sList, hV1, 0⟩, false, []⟩
theorem ins_ex : rep1 (Gi hI1) shi 2 sList 0 hV1 0 = ⟨2, sList, hI1, 0⟩ := by kernel_rfl
end Go.Proofs.YtpkiheenkpcebaaGreatDoor.Sx
namespace Go.Proofs.YtpkiheenkpcebaaGreatDoor
open Go.RowKit Sx

set_option maxHeartbeats 4000000 in
set_option maxRecDepth 100000 in
theorem hSuperCalled_vec (p : Nat) (A1 F1 : Option Addr) (c1 x1 : Nat) (w : World) : Calls Tryz.prog 69 #[.pointer (some ⟨p, 0, none⟩), .string ⟨#[76, 105, 115, 116]⟩, .agg #[.string ⟨#[86, 101, 99]⟩, .int .i64 1, .int .i64 2, .string ⟨#[76, 105, 115, 116]⟩, .int .i64 0, .slice A1 1 c1, .bool false, .slice F1 0 x1]] w fun e w' => e = .returned (.tuple #[.agg #[.int .i64 2, .string ⟨#[76, 105, 115, 116]⟩, .int .i64 0, .slice A1 1 c1], .bool true]) ∧ BH w w' := by
  have e1 := heap_alloc_new w (.cells #[.string ⟨#[86, 101, 99]⟩, .int .i64 1, .int .i64 2, .string ⟨#[76, 105, 115, 116]⟩, .int .i64 0, .slice A1 1 c1, .bool false, .slice F1 0 x1] 37)
  have f1 := bh_alloc (BH.refl w) (.cells #[.string ⟨#[86, 101, 99]⟩, .int .i64 1, .int .i64 2, .string ⟨#[76, 105, 115, 116]⟩, .int .i64 0, .slice A1 1 c1, .bool false, .slice F1 0 x1] 37)
  have e2 := heap_alloc_new (w.alloc (.cells #[.string ⟨#[86, 101, 99]⟩, .int .i64 1, .int .i64 2, .string ⟨#[76, 105, 115, 116]⟩, .int .i64 0, .slice A1 1 c1, .bool false, .slice F1 0 x1] 37)) (.cells #[.int .i64 0, .string ⟨#[]⟩, .int .i64 0, .slice none 0 0] 34)
  have f2 := bh_alloc f1 (.cells #[.int .i64 0, .string ⟨#[]⟩, .int .i64 0, .slice none 0 0] 34)
  have e1' := (Below.heap_alloc (w.alloc (.cells #[.string ⟨#[86, 101, 99]⟩, .int .i64 1, .int .i64 2, .string ⟨#[76, 105, 115, 116]⟩, .int .i64 0, .slice A1 1 c1, .bool false, .slice F1 0 x1] 37)) (.cells #[.int .i64 0, .string ⟨#[]⟩, .int .i64 0, .slice none 0 0] 34) w.heap.size (by simp)).trans e1
  rw [World.size_alloc] at e2
  obtain ⟨⟨r0, r1, r2, r3, r4, r5, r6, r7⟩, _⟩ := row8 e1'
  obtain ⟨b0, b1, b2, b3, y0, y1, y2, y3⟩ := row4 e2
  have HE := Lib.hid (And.intro e2 f2)
  clear e1 f1 e2 f2 e1'
  go_enter Tryz.func69, Tryz.ntmps69
  go_wp2_with (fail)
  obtain ⟨m0, m1, m2, m3, _⟩ := row4 (s4 HE.out.1 (.int .i64 2) (.string ⟨#[76, 105, 115, 116]⟩) (.int .i64 0) (.slice A1 1 c1))
  exact bodyPost_ret (v := .tuple #[.agg #[.int .i64 2, .string ⟨#[76, 105, 115, 116]⟩, .int .i64 0, .slice A1 1 c1], .bool true]) (by simp [results, Tryz.results69, go_sem, m0, m1, m2, m3]) rfl ⟨rfl, bh_alloc (bh_alloc (BH.refl w) _) _⟩

/-- the ghost of a region that makes a term's variable and stores into it -/
def l4I (W : World) (U : Array Value) (m : Option (Nat × Bool)) (w : World) : Prop :=
  BH W w ∧ (∀ g, m = some (g, false) → W.heap.size ≤ g ∧ w.heap[g]? = some (.cells #[.int .i64 0, .string ⟨#[]⟩, .int .i64 0, .slice none 0 0] 34 (0, 0))) ∧ (∀ g, m = some (g, true) → W.heap.size ≤ g ∧ w.heap[g]? = some (.cells U 34 (0, 0)))
def l4T (W : World) (U : Array Value) (m : Option (Nat × Bool)) (w : World) (m' : Option (Nat × Bool)) (w' : World) : Prop := l4I W U m' w' ∧ (∀ g s, m = some (g, s) → m' = some (g, s) ∨ m' = some (g, true))
theorem l4I_bh {W : World} {U : Array Value} {m : Option (Nat × Bool)} {w w' : World} (h : l4I W U m w) (hb : BH w w') : l4I W U m w' :=
  ⟨BH.trans h.1 hb, fun g hg => ⟨(h.2.1 g hg).1, (Below.block hb _ (heap_lt (h.2.1 g hg).2)).trans (h.2.1 g hg).2⟩, fun g hg => ⟨(h.2.2 g hg).1, (Below.block hb _ (heap_lt (h.2.2 g hg).2)).trans (h.2.2 g hg).2⟩⟩
theorem l4T_refl {W : World} {U : Array Value} {m : Option (Nat × Bool)} {w w' : World} (h : l4I W U m w) (hb : BH w w') : l4T W U m w m w' := ⟨l4I_bh h hb, fun g s e => .inl e⟩
theorem l4_alloc {W w : World} {U : Array Value} (h : l4I W U none w) : l4T W U none w (some (w.heap.size, false)) (w.alloc (.cells #[.int .i64 0, .string ⟨#[]⟩, .int .i64 0, .slice none 0 0] 34)) :=
  ⟨⟨BH.trans h.1 (bh_alloc (BH.refl w) _), fun g hg => by cases hg; exact ⟨Below.size h.1, heap_alloc_new w _⟩, fun g hg => by cases hg⟩, fun g s e => by cases e⟩
def spV (p b gN : Nat) (A1 F1 : Option Addr) (c1 x1 : Nat) (m : Option (Nat × Bool)) (j : Nat) (v : Value) (w : World) : Prop :=
  match j with
  | 0 => v = .pointer (some ⟨p, 0, none⟩)
  | 1 => v = .string ⟨#[76, 105, 115, 116]⟩
  | 2 => v = .pointer (some ⟨p, 0, none⟩)
  | 3 => v = .pointer (some ⟨p, 0, none⟩)
  | 4 => v = .pointer (some ⟨p, 1, none⟩)
  | 5 => v = .map (some b)
  | 6 => v = .pointer (some ⟨gN, 1, none⟩)
  | 7 => v = .string ⟨#[86, 101, 99]⟩
  | 8 => v = .agg #[.string ⟨#[86, 101, 99]⟩, .int .i64 1, .int .i64 2, .string ⟨#[76, 105, 115, 116]⟩, .int .i64 0, .slice A1 1 c1, .bool false, .slice F1 0 x1]
  | 9 => v = .tuple #[.agg #[.int .i64 2, .string ⟨#[76, 105, 115, 116]⟩, .int .i64 0, .slice A1 1 c1], .bool true]
  | 10 => v = .tuple #[.agg #[.int .i64 2, .string ⟨#[76, 105, 115, 116]⟩, .int .i64 0, .slice A1 1 c1], .bool true]
  | 11 => v = .agg #[.int .i64 2, .string ⟨#[76, 105, 115, 116]⟩, .int .i64 0, .slice A1 1 c1]
  | 12 => v = .bool true
  | 13 => ∃ g s, v = .pointer (some ⟨g, 0, none⟩) ∧ m = some (g, s)
  | 14 => ∃ g, m = some (g, true)
  | _ => v = .bool true
theorem spV_T {p b gN : Nat} {A1 F1 : Option Addr} {c1 x1 : Nat} {U : Array Value} {W : World} (m m' : Option (Nat × Bool)) (j : Nat) (v : Value) (w w' : World) (h : spV p b gN A1 F1 c1 x1 m j v w) (hT : l4T W U m w m' w') : spV p b gN A1 F1 c1 x1 m' j v w' := by
  unfold spV at *
  split at h
  all_goals first
    | exact h
    | (obtain ⟨g, s, e, hm⟩ := h; rcases hT.2 g s hm with h | h; exact ⟨g, s, e, h⟩; exact ⟨g, true, e, h⟩)
    | (obtain ⟨g, hm⟩ := h; rcases hT.2 g true hm with h | h; exact ⟨g, h⟩; exact ⟨g, h⟩)

set_option maxHeartbeats 16000000 in
set_option maxRecDepth 100000 in
theorem hSuper_vec (B p b : Nat) (Q : Nat → Prop) (v : Value) (l : List (List UInt8 × Value)) (ds : List De) (A : Option Addr) (c : Nat) (w : World) (H : Hier w B p b Q v l ds) (hf : findD ds sVec = some dVec) (hK : KT w hI1 A c) :
    Calls Tryz.prog 35 #[.pointer (some ⟨p, 0, none⟩), .agg #[.int .i64 2, .string ⟨#[86, 101, 99]⟩, .int .i64 0, .slice A 1 c], .string ⟨#[76, 105, 115, 116]⟩] w fun e w' => ∃ A' c', e = .returned (.tuple #[.agg #[.int .i64 2, .string ⟨#[76, 105, 115, 116]⟩, .int .i64 0, .slice A' 1 c'], .bool true]) ∧ KT w' hI1 A' c' ∧ BH w w' := by
  obtain ⟨hn, u, hu, A1, c1, F1, x1, rfl, hk1, _⟩ := H.some' hf
  have e1 := heap_alloc_new w (.cells #[.int .i64 2, .string ⟨#[86, 101, 99]⟩, .int .i64 0, .slice A 1 c] 34)
  have f1 := bh_alloc (BH.refl w) (.cells #[.int .i64 2, .string ⟨#[86, 101, 99]⟩, .int .i64 0, .slice A 1 c] 34)
  have e2 := heap_alloc_new (w.alloc (.cells #[.int .i64 2, .string ⟨#[86, 101, 99]⟩, .int .i64 0, .slice A 1 c] 34)) (.cells #[.int .i64 0, .string ⟨#[]⟩, .int .i64 0, .slice none 0 0] 34)
  have f2 := bh_alloc f1 (.cells #[.int .i64 0, .string ⟨#[]⟩, .int .i64 0, .slice none 0 0] 34)
  have e1' := (Below.heap_alloc (w.alloc (.cells #[.int .i64 2, .string ⟨#[86, 101, 99]⟩, .int .i64 0, .slice A 1 c] 34)) (.cells #[.int .i64 0, .string ⟨#[]⟩, .int .i64 0, .slice none 0 0] 34) w.heap.size (by simp)).trans e1
  rw [World.size_alloc] at e2
  obtain ⟨b0, b1, b2, b3, _⟩ := row4 e1'
  have HE := Lib.hid (And.intro e1' (And.intro e2 f2))
  have HH := Lib.hid H
  have HK := Lib.hid hK
  have HK1 := Lib.hid hk1.kt
  have HF := Lib.hid hf
  have HU := Lib.hid hu
  have hne := tba_ne (show ¬ sVec = sList by decide)
  have hne' : ¬ ((⟨#[86, 101, 99]⟩ : ByteArray) = ⟨#[76, 105, 115, 116]⟩) := hne
  clear e1 f1 e2 f2 e1' H hK hk1 hf hu hne hn
  go_enter Tryz.func35, Tryz.ntmps35
  go_wp2_with (fail)
  refine (hDeclares B p b Q v l ds 2 0 sVec A 1 c _ (HH.out.bh HE.out.2.2) (by decide)).mono ?_
  rintro e u1 ⟨rfl, hb⟩
  have hdc : dcB ds sVec 1 = true := by rw [dcB, HF.out]; rfl
  rw [hdc]
  have HB := Lib.hid (And.intro (BH.trans HE.out.2.2 hb) (And.intro ((Below.block hb _ (heap_lt HE.out.1)).trans HE.out.1) ((Below.block hb _ (heap_lt HE.out.2.1)).trans HE.out.2.1)))
  clear hb hdc b0 b1 b2 b3
  go_upto_region 7 with (fail)
  obtain ⟨gN, hgN⟩ : ∃ gN, w.heap.size = gN := ⟨_, rfl⟩
  have HgN := Lib.hid hgN
  rw [hgN] at HB ⊢
  clear hgN HE
  go_cut [8, 9] (fun s8 s9 wx => ∃ g8, s8 = .pointer (some ⟨g8, 0, none⟩) ∧ s9 = .bool true ∧ Hid (BH u1 wx ∧ wx.heap[g8]? = some (.cells #[.int .i64 2, .string ⟨#[76, 105, 115, 116]⟩, .int .i64 0, .slice A1 1 c1] 34 (0, 0))))
  case first =>
    refine wp_region_ghost (by kernel_rfl) (spV p b gN A1 F1 c1 x1) (l4I u1 #[.int .i64 2, .string ⟨#[76, 105, 115, 116]⟩, .int .i64 0, .slice A1 1 c1]) (l4T u1 #[.int .i64 2, .string ⟨#[76, 105, 115, 116]⟩, .int .i64 0, .slice A1 1 c1]) (fun j m => j = 13 → m = none) none ⟨below_drew u1, fun g h => (by cases h), fun g h => (by cases h)⟩ (fun _ _ => rfl) (fun _ _ _ _ _ h => h.1) spV_T (by kernel_rfl) ?_ ?_
    · refine ⟨?_, ?_, ?_, ?_, ?_, ?_, ?_, ?_, ?_, ?_, ?_, ?_, ?_, ?_, ?_, ?_, trivial⟩
      · intro m a W hI _ hF hD
        have h := same_of hF 0 (by kernel_rfl)
        go_simp
        exact ⟨_, rfl, m, rfl, l4T_refl hI (BH.refl _), fun _ _ h => h⟩
      · intro m a W hI _ hF hD
        have h := same_of hF 2 (by kernel_rfl)
        go_simp
        exact ⟨_, rfl, m, rfl, l4T_refl hI (BH.refl _), fun _ _ h => h⟩
      · intro m a W hI _ hF hD
        have h := same_of hF 0 (by kernel_rfl)
        go_simp
        exact ⟨_, rfl, m, rfl, l4T_refl hI (BH.refl _), fun _ _ h => h⟩
      · intro m a W hI _ hF hD
        have h : a.tmps[28]?.getD undef = .pointer (some ⟨p, 0, none⟩) := dep_of hD 2 28 (by kernel_rfl) rfl rfl
        go_simp
        exact ⟨_, rfl, m, rfl, l4T_refl hI (BH.refl _), fun _ _ h => h⟩
      · intro m a W hI _ hF hD
        have h : a.tmps[29]?.getD undef = .pointer (some ⟨p, 0, none⟩) := dep_of hD 3 29 (by kernel_rfl) rfl rfl
        go_simp
        exact ⟨_, rfl, m, rfl, l4T_refl hI (BH.refl _), fun _ _ h => h⟩
      · intro m a W hI _ hF hD
        have h : a.tmps[30]?.getD undef = .pointer (some ⟨p, 1, none⟩) := dep_of hD 4 30 (by kernel_rfl) rfl rfl
        obtain ⟨s0, s1, _⟩ := row2 (HH.out.bh (BH.trans HB.out.1 hI.1)).blk
        go_simp
        exact ⟨_, rfl, m, rfl, l4T_refl hI (BH.refl _), fun _ _ h => h⟩
      · intro m a W hI _ hF hD
        have h := same_of hF 4 (by kernel_rfl)
        go_simp
        exact ⟨_, rfl, m, rfl, l4T_refl hI (BH.refl _), fun _ _ h => h⟩
      · intro m a W hI _ hF hD
        have h : a.tmps[32]?.getD undef = .pointer (some ⟨gN, 1, none⟩) := dep_of hD 6 32 (by kernel_rfl) rfl rfl
        obtain ⟨s0, s1, s2, s3, _⟩ := row4 ((Below.block hI.1 _ (heap_lt HB.out.2.1)).trans HB.out.2.1)
        go_simp
        exact ⟨_, rfl, m, rfl, l4T_refl hI (BH.refl _), fun _ _ h => h⟩
      · intro m a W hI _ hF hD
        have h : a.tmps[31]?.getD undef = .map (some b) := dep_of hD 5 31 (by kernel_rfl) rfl rfl
        have h' : a.tmps[33]?.getD undef = .string ⟨#[86, 101, 99]⟩ := dep_of hD 7 33 (by kernel_rfl) rfl rfl
        have hl2 := MapL.look (P := Tryz.prog) (t := 75) (HH.out.bh (BH.trans HB.out.1 hI.1)).map Tryz.underlying9 Tryz.underlying75 (zeroDecl W) (s := sVec) (by decide) false
        rw [HU.out] at hl2
        have hrun : (Instr.lookup 75 (.map (some b)) (.string ⟨#[86, 101, 99]⟩) false).run Tryz.prog W = .ok (.agg #[.string ⟨#[86, 101, 99]⟩, .int .i64 1, .int .i64 2, .string ⟨#[76, 105, 115, 116]⟩, .int .i64 0, .slice A1 1 c1, .bool false, .slice F1 0 x1]) W := hl2
        clear hl2
        go_simp
        exact ⟨_, rfl, m, rfl, l4T_refl hI (BH.refl _), fun _ _ h => h⟩
      · intro m a W hI _ hF hD
        have h : a.tmps[26]?.getD undef = .pointer (some ⟨p, 0, none⟩) := dep_of hD 0 26 (by kernel_rfl) rfl rfl
        have h' : a.tmps[27]?.getD undef = .string ⟨#[76, 105, 115, 116]⟩ := dep_of hD 1 27 (by kernel_rfl) rfl rfl
        have h'' : a.tmps[34]?.getD undef = .agg #[.string ⟨#[86, 101, 99]⟩, .int .i64 1, .int .i64 2, .string ⟨#[76, 105, 115, 116]⟩, .int .i64 0, .slice A1 1 c1, .bool false, .slice F1 0 x1] := dep_of hD 8 34 (by kernel_rfl) rfl rfl
        go_simp
        refine (hSuperCalled_vec p A1 F1 c1 x1 W).mono ?_
        rintro e u ⟨rfl, hb⟩
        exact ⟨_, rfl, m, rfl, l4T_refl hI hb, fun _ _ h => h⟩
      · intro m a W hI _ hF hD
        have h : a.tmps[35]?.getD undef = .tuple #[.agg #[.int .i64 2, .string ⟨#[76, 105, 115, 116]⟩, .int .i64 0, .slice A1 1 c1], .bool true] := dep_of hD 9 35 (by kernel_rfl) rfl rfl
        go_simp
        exact ⟨_, rfl, m, rfl, l4T_refl hI (BH.refl _), fun _ _ h => h⟩
      · intro m a W hI _ hF hD
        have h : a.tmps[25]?.getD undef = .tuple #[.agg #[.int .i64 2, .string ⟨#[76, 105, 115, 116]⟩, .int .i64 0, .slice A1 1 c1], .bool true] := dep_of hD 10 25 (by kernel_rfl) rfl rfl
        go_simp
        exact ⟨_, rfl, m, rfl, l4T_refl hI (BH.refl _), fun _ _ h => h⟩
      · intro m a W hI _ hF hD
        have h : a.tmps[25]?.getD undef = .tuple #[.agg #[.int .i64 2, .string ⟨#[76, 105, 115, 116]⟩, .int .i64 0, .slice A1 1 c1], .bool true] := dep_of hD 10 25 (by kernel_rfl) rfl rfl
        go_simp
        exact ⟨_, rfl, m, rfl, l4T_refl hI (BH.refl _), fun _ _ h => h⟩
      · intro m a W hI hZ hF hD
        obtain rfl : m = none := hZ rfl
        go_simp
        exact ⟨_, rfl, some (W.heap.size, false), ⟨_, _, rfl, rfl⟩, l4_alloc hI, fun j hj e => absurd e hj⟩
      · intro m a W hI hZ hF hD
        obtain ⟨g, s, h5, rfl⟩ : ∃ g s, a.tmps[8]?.getD undef = .pointer (some ⟨g, 0, none⟩) ∧ m = some (g, s) := dep_of hD 13 8 (by kernel_rfl) rfl rfl
        have h15 : a.tmps[36]?.getD undef = .agg #[.int .i64 2, .string ⟨#[76, 105, 115, 116]⟩, .int .i64 0, .slice A1 1 c1] := dep_of hD 11 36 (by kernel_rfl) rfl rfl
        obtain ⟨y0, y1, y2, y3, hg, hblk⟩ : ∃ y0 y1 y2 y3, u1.heap.size ≤ g ∧ W.heap[g]? = some (.cells #[y0, y1, y2, y3] 34 (0, 0)) := by
          cases s with
          | false => exact ⟨_, _, _, _, hI.2.1 g rfl⟩
          | true => exact ⟨_, _, _, _, hI.2.2 g rfl⟩
        obtain ⟨h0, h1, h2, h3, z0, z1, z2, z3⟩ := row4 hblk
        have hfin := s4 hblk (.int .i64 2) (.string ⟨#[76, 105, 115, 116]⟩) (.int .i64 0) (.slice A1 1 c1)
        have hbs := below_gb_of (BH.refl u1) (s4_gb (gb_below hI.1 (some g)) hg (.int .i64 2) (.string ⟨#[76, 105, 115, 116]⟩) (.int .i64 0) (.slice A1 1 c1)) hg
        have HFin := Lib.hid (And.intro hfin hbs)
        clear hfin hbs hblk hD hF
        go_simp
        exact ⟨.bool true, some (g, true), ⟨g, rfl⟩, ⟨⟨HFin.out.2, fun g' h => (by cases h), fun g' h => (by cases h; exact ⟨hg, HFin.out.1⟩)⟩, fun g' s' e => (by cases e; exact .inr rfl)⟩, fun j hj hz e => absurd (hz e) (by simp)⟩
      · intro m a W hI _ hF hD
        have h : a.tmps[37]?.getD undef = .bool true := dep_of hD 12 37 (by kernel_rfl) rfl rfl
        go_simp
        exact ⟨_, rfl, m, rfl, l4T_refl hI (BH.refl _), fun _ _ h => h⟩
    · intro m a W hI hF hN hall
      obtain ⟨g, s, h5, hm⟩ : ∃ g s, a.tmps[8]?.getD undef = .pointer (some ⟨g, 0, none⟩) ∧ m = some (g, s) := all_of hall 13 8 rfl rfl
      have h6 : a.tmps[9]?.getD undef = .bool true := all_of hall 15 9 rfl rfl
      obtain ⟨_, g', hm'⟩ : ∃ v : Value, ∃ g', m = some (g', true) := hN 14 _ rfl rfl
      have hgg : g' = g := by rw [hm'] at hm; cases hm; rfl
      have HR := Lib.hid (And.intro h5 (And.intro h6 (And.intro hI.1 (hI.2.2 g (by rw [hm', hgg])).2)))
      have HA := Lib.hid (Frm.act hF)
      clear h5 h6 hm hm' hgg hF hI hN hall
      simp only [Exit.inBlock, Exit.then]
      apply_assumption
      refine Met.intro ?_
      go_step
      (repeat apply Exists.intro)
      refine ⟨?rela, ?eqa⟩
      case eqa => exact HA.out.trans rfl
      exact ⟨g, (Array.getD_eq_getD_getElem? ..).trans HR.out.1, (Array.getD_eq_getD_getElem? ..).trans HR.out.2.1, Lib.hid HR.out.2.2⟩
  case rest =>
    obtain ⟨g8, rfl, rfl, hC⟩ := hcut
    have hn := (Below.block hC.out.1 _ (heap_lt HB.out.2.1)).trans HB.out.2.1
    have hr := (Below.block hC.out.1 _ (heap_lt HB.out.2.2)).trans HB.out.2.2
    have HBw := Lib.hid (BH.trans HB.out.1 hC.out.1)
    have HR := Lib.hid hr
    obtain ⟨b0, b1, b2, b3, _⟩ := row4 hn
    obtain ⟨s0, s1, s2, s3, _⟩ := row4 hC.out.2
    clear hn hr
    have hI := instantiate_any 1 2 0 sList hV1 A1 c1 hI1 A c wc (by decide) (by decide) (by decide) (wid_of_size (by decide)) (by decide) (HK1.out.below HBw.out) (HK.out.below HBw.out) (by decide)
    rw [ins_ex] at hI
    have HI := Lib.hid hI
    clear hI
    go_wp2_with (fail)
    refine HI.out.mono ?_
    rintro e u2 ⟨A2, c2, rfl, h1, h2⟩
    have HR2 := Lib.hid (And.intro ((Below.block h2 _ (heap_lt HR.out)).trans HR.out) (And.intro (BH.trans HBw.out h2) (And.intro h1 (Below.size h2))))
    clear h1 h2 b0 b1 b2 b3 s0 s1 s2 s3
    obtain ⟨b0, b1, b2, b3, y0, y1, y2, y3⟩ := row4 HR2.out.1
    go_wp2_with (fail)
    obtain ⟨m0, m1, m2, m3, _⟩ := row4 (s4 HR2.out.1 (.int .i64 2) (.string ⟨sList.toArray⟩) (.int .i64 0) (.slice A2 hI1.len c2))
    have hgs := heap_lt HR.out
    have hgw := HgN.out
    have hsz := HR2.out.2.2.2
    refine bodyPost_ret (v := .tuple #[.agg #[.int .i64 2, .string ⟨sList.toArray⟩, .int .i64 0, .slice A2 hI1.len c2], .bool true]) (by simp [results, Tryz.results35, go_sem, m0, m1, m2, m3]) rfl ⟨A2, c2, rfl, ?_, ?_⟩
    · exact (HR2.out.2.2.1.keep (S' := fun _ => True) (by simp [size_set]) fun x hx hl => ⟨s4_far (by rcases hx with hx | hx; exact hx.elim; omega) _ _ _ _, trivial⟩).kt
    · exact below_gb_of (BH.refl w) (s4_gb (N := gN + 1) (gb_below HR2.out.2.1 (some (gN + 1))) (by omega) _ _ _ _) (by omega)
end Go.Proofs.YtpkiheenkpcebaaGreatDoor
namespace Go.Proofs.YtpkiheenkpcebaaGreatDoor
open Go.RowKit Sx

theorem setI_one (x : Int) : setI [x] = [x] := by unfold setI; rw [List.mergeSort_singleton]; rfl

theorem varC (i : Int) (w : World) : Calls Tryz.prog 49 #[.int .i64 i] w fun e w' => e = .returned (.agg #[.int .i64 5, .string ⟨#[]⟩, .int .i64 i, .slice none 0 0]) ∧ BH w w' := by
  go_enter Tryz.func49, Tryz.ntmps49
  go_wp2_with (fail)
  obtain ⟨m0, m1, m2, m3⟩ := box4 w (.int .i64 5) (.string ⟨#[]⟩) (.int .i64 i) (.slice none 0 0) 34
  exact bodyPost_ret (v := .agg #[.int .i64 5, .string ⟨#[]⟩, .int .i64 i, .slice none 0 0]) (by simp [results, Tryz.results49, go_sem, m0, m1, m2, m3]) rfl ⟨rfl, (Below.refl _ _).alloc (Nat.le_refl _) _⟩
theorem namedC (s : ByteArray) (A : Option Addr) (n c : Nat) (w : World) : Calls Tryz.prog 17 #[.string s, .slice A n c] w fun e w' => e = .returned (.agg #[.int .i64 2, .string s, .int .i64 0, .slice A n c]) ∧ BH w w' := by
  go_enter Tryz.func17, Tryz.ntmps17
  go_wp2_with (fail)
  obtain ⟨m0, m1, m2, m3⟩ := box4 w (.int .i64 2) (.string s) (.int .i64 0) (.slice A n c) 34
  exact bodyPost_ret (v := .agg #[.int .i64 2, .string s, .int .i64 0, .slice A n c]) (by simp [results, Tryz.results17, go_sem, m0, m1, m2, m3]) rfl ⟨rfl, (Below.refl _ _).alloc (Nat.le_refl _) _⟩

end Go.Proofs.YtpkiheenkpcebaaGreatDoor
namespace Go.Proofs.YtpkiheenkpcebaaGreatDoor
open Go.RowKit Sx

set_option maxHeartbeats 1000000 in
theorem order_any (b : Bool) (w : World) :
    Calls Tryz.prog 107 #[.bool b] w fun e w' => e = .returned (.int .i64 (if b then -1 else 1)) ∧ w' = w := by
  go_enter Tryz.func107, Tryz.ntmps107
  cases b
  all_goals
    go_wp2_with (fail)
    go_ret
    exact ⟨rfl, rfl⟩

end Go.Proofs.YtpkiheenkpcebaaGreatDoor
