/- tellaw3.HierarchyClone: the walk. What is laid: the two tables of names. The bound: at most 2^20 integers. -/
import Derived.Test.YtpkiheenkpcebaaGreatDoorMbt
import Derived.Test.YtpkiheenkpcebaaGreatDoorMbr
set_option linter.unusedVariables false
set_option linter.unusedSimpArgs false
namespace Go.Proofs.YtpkiheenkpcebaaGreatDoor.Sx
def sLater : List UInt8 := [76, 97, 116, 101, 114]
def dLater : De := ⟨sLater, 0, ⟨0, [], .nil, 0⟩, false, []⟩
theorem vd_later : vdB dLater = true := by
  rw [vdB, vsB]
  show (tnB sLater && (decide ((0 : Int) ≤ 0) && ((((0 : Int) == 0 || (0 : Int) == 2) && vtB 0 [] 0 .nil 0) && (decide (0 = 0) || (false && avL 0 [] []))))) = true
  rw [vt_any]
  decide
theorem de_later {ds : List De} (h : ∀ d ∈ ds, d.name ≠ sLater ∧ d.name ≠ []) (hl : ds.length < 60) : declE ds dLater = 0 ∧ declD ds dLater = ds ++ [dLater] := by
  have h1 : findD ds dLater.name = none := List.find?_eq_none.2 fun d hd => by simp only [decide_eq_true_eq]; exact (h d hd).1
  have h2 : findD ds [] = none := List.find?_eq_none.2 fun d hd => by simpa using (h d hd).2
  have h3 : declE ds dLater = 0 := by
    rw [declE, if_neg (by rw [vd_later]; simp), if_neg (by decide), h1]
    show (if 60 ≤ ds.length then (8 : Int) else if (ev1 (dcB ds) 0 [] .nil && kfB ds sLater 0 []) = false then 5 else if concB ds [] = true then 10 else 0) = 0
    rw [if_neg (by omega), if_neg (by simp [ev1, evL, kfB]), if_neg (by rw [concB, h2]; simp)]
  exact ⟨h3, by rw [declD, if_pos ⟨h3, h1⟩]⟩
end Go.Proofs.YtpkiheenkpcebaaGreatDoor.Sx
namespace Go.Proofs.YtpkiheenkpcebaaGreatDoor.JH
open Go.RowKit Sx TL

/-- the clone's blocks are none of the first one's -/
def QC (q n m : Nat) (y : Nat) : Prop := y = q ∨ (n ≤ y ∧ y < m)

/-- what telmake.Decls and Hierarchies leave of a slice of integers -/
def HsP (w0 : World) (W : World) (e : Ending) (W' : World) : Prop :=
  ∃ (ds : List De) (B p b q : Nat) (v : Value) (l : List (List UInt8 × Value)), e = .returned (.tuple #[.pointer (some ⟨p, 0, none⟩), .pointer (some ⟨q, 0, none⟩), .bool true]) ∧ Hier W' B p b (fun y => y = q) v l ds ∧ w0.heap.size ≤ B ∧ B ≤ W'.heap.size ∧ ds.length ≤ 16 ∧ (∀ d ∈ ds, OkD 3 d ∧ d.name ≠ sLater ∧ d.name ≠ []) ∧ BH W W'

set_option maxHeartbeats 4000000 in
theorem dh_any {w0 w : World} {X : XG} (B : XB w0 X) (hXb : X.b = w.heap.size) (hB : Below w0.heap.size w0 w) (hl : X.len ≤ 1048576) (hx : ∀ s ∈ X.XW, s ≠ sLater ∧ s ≠ []) (Q : Value → World → Prop)
    (hQ : ∀ (A : Option Addr) (n c : Nat) (u : World), BH w u → Calls Tryz.prog 20 #[.slice A n c] u (HsP w0 w) → Q (.slice A n c) u) :
    Calls Tryz.prog 19 #[.slice X.a X.len X.cap] w fun e u => ∃ v, e = .returned v ∧ Q v u := by
  refine (decls_any w0 w X B hXb hB (by unfold maxLen; omega)).mono ?_
  rintro e u1 ⟨k1, gB, u0, v, es, xs, rfl, hx1, hes, hok, hb⟩
  obtain ⟨gd, cd, rfl, hgd0, hgd1⟩ := hx1.shape (by simp [baseD])
  have hdc := hx1.dcs
  refine ⟨_, rfl, hQ _ _ _ _ hb ?_⟩
  have hP : ∀ d ∈ baseD ++ es, OkD 3 d ∧ d.name ≠ sLater ∧ d.name ≠ [] := by
    intro d hd
    rcases List.mem_append.1 hd with hd | hd
    · have key : ∀ d ∈ baseD, d.name ≠ sLater ∧ d.name ≠ [] := by decide
      exact ⟨baseD_okD d hd, key d hd⟩
    · exact ⟨(hok d hd).okD B.sX (by omega) (by decide), hx _ (hok d hd).1⟩
  have hP0 : ∀ d ∈ ds0, OkD 3 d ∧ d.name ≠ sLater ∧ d.name ≠ [] := by
    intro d hd
    have key : ∀ d ∈ ds0, d.name ≠ sLater ∧ d.name ≠ [] := by decide
    exact ⟨(good0 d hd).mono (by decide), key d hd⟩
  have hlen : (baseD ++ es).length ≤ 12 := by
    rw [List.length_append, show baseD.length = 8 from rfl]
    omega
  refine (hierarchies_any 3 (baseD ++ es) (some ⟨gd, 0, none⟩) cd u1 hdc (by decide) (by decide) (fun d hd => (hP d hd).1) (fun d hd => (hP0 d hd).1) (by omega)).mono ?_
  rintro e u2 ⟨p, b, q, vH, lH, rfl, h1, h2, h3, h4⟩
  refine ⟨hds (baseD ++ es), u1.heap.size, p, b, q, vH, lH, rfl, h1, Nat.le_trans (Below.size hB) (Below.size hb), Below.size h3, ?_, fold_mem _ _ _ hP0 hP, BH.trans hb h3⟩
  have h := fold_len (baseD ++ es) ds0
  have h5 : ds0.length = 4 := rfl
  rw [hds]
  omega

set_option maxHeartbeats 16000000 in
set_option maxRecDepth 100000 in
theorem clone_walk (a0 : Option Addr) (len0 cap0 : Nat) (z0 : List Int) (a1 : Option Addr) (len1 cap1 : Nat) (z1 : List Int) (w : World)
    (hr0 : IsRow .i64 w a0 len0 cap0 z0) (hr1 : IsRow .i64 w a1 len1 cap1 z1) (hb0 : len0 ≤ 1048576) (hb1 : len1 ≤ 1048576) (Wl : List (List UInt8)) (gw ow cw : Nat) (tW : TabW w 1 4 Wl gw ow cw) (hs : ∀ s ∈ Wl, s.length ≤ 1000) (Xl : List (List UInt8)) (gx ox cx : Nat) (tX : TabW w 0 4 Xl gx ox cx) (hsx : ∀ s ∈ Xl, s.length ≤ 1000 ∧ s ≠ sLater ∧ s ≠ []) :
    Calls Tryz.prog 9 #[.slice a0 len0 cap0, .slice a1 len1 cap1] w fun e w' => e = .returned (.bool true) ∧ Below w.heap.size w w' := by
  have B1 : XB w ⟨w.heap.size, a0, len0, cap0, z0, Wl, gw, ow, cw, Xl, gx, ox, cx⟩ := ⟨tW, tX, hs, fun s h => (hsx s h).1, Nat.le_refl _, hr0.ints.2⟩
  have HD1 : Hid (∀ Q : Value → World → Prop, (∀ (A : Option Addr) (n c : Nat) (u : World), BH w u → Calls Tryz.prog 20 #[.slice A n c] u (HsP w w) → Q (.slice A n c) u) → Calls Tryz.prog 19 #[.slice a0 len0 cap0] w fun e u => ∃ v, e = .returned v ∧ Q v u) := Lib.hid fun Q hQ => dh_any B1 rfl (Below.refl _ _) hb0 (fun s h => (hsx s h).2) Q hQ
  have HD2 : Hid (∀ W, BH w W → ∀ Q : Value → World → Prop, (∀ (A : Option Addr) (n c : Nat) (u : World), BH W u → Calls Tryz.prog 20 #[.slice A n c] u (HsP w W) → Q (.slice A n c) u) → Calls Tryz.prog 19 #[.slice a1 len1 cap1] W fun e u => ∃ v, e = .returned v ∧ Q v u) := Lib.hid fun W hW Q hQ => by
    have B2 : XB w ⟨W.heap.size, a1, len1, cap1, z1, Wl, gw, ow, cw, Xl, gx, ox, cx⟩ := ⟨tW, tX, hs, fun s h => (hsx s h).1, Below.size hW, hr1.ints.2⟩
    exact dh_any B2 rfl hW hb1 (fun s h => (hsx s h).2) Q hQ
  clear hr0 hr1 tW tX hs hsx B1
  go_enter Tryz.func9, Tryz.ntmps9
  go_wp2_with (fail)
  refine (HD1.out (fun v u => ∃ A n c, v = .slice A n c ∧ BH w u ∧ Calls Tryz.prog 20 #[.slice A n c] u (HsP w w)) (fun A n c u h1 h2 => ⟨A, n, c, rfl, h1, h2⟩)).mono ?_
  rintro e u1 ⟨_, rfl, A1, n1, c1, rfl, hb1, hc1⟩
  have HC1 := Lib.hid hc1
  clear hc1 hb1 HD1
  go_wp2_with (fail)
  refine HC1.out.mono ?_
  rintro e u2 ⟨ds, B, p, b, q, v, l, rfl, h1, h2, h3, h4, h5, h6⟩
  have HH := Lib.hid (And.intro h1 (And.intro h2 (And.intro h3 (And.intro h4 (And.intro h5 h6)))))
  clear h1 h2 h3 h4 h5 h6 HC1
  go_wp2_with (fail)
  refine (HD2.out _ HH.out.2.2.2.2.2 (fun v u => ∃ A n c, v = .slice A n c ∧ BH u2 u ∧ Calls Tryz.prog 20 #[.slice A n c] u (HsP w u2)) (fun A n c u h1 h2 => ⟨A, n, c, rfl, h1, h2⟩)).mono ?_
  rintro e u3 ⟨_, rfl, A3, n3, c3, rfl, hb3, hc3⟩
  have HC3 := Lib.hid hc3
  clear hc3 hb3 HD2
  go_wp2_with (fail)
  refine HC3.out.mono ?_
  rintro e u4 ⟨es, B', p', b', q', v', l', rfl, h1, h2, h3, h4, h5, h6⟩
  have HO := Lib.hid (And.intro h1 (And.intro h2 (And.intro h3 (And.intro h4 (And.intro h5 h6)))))
  clear h1 h2 h3 h4 h5 h6 HC3
  go_wp2_with (fail)
  refine (check3_any _).mono ?_
  rintro e u5 ⟨rfl, hb5⟩
  obtain ⟨h1, h2, h3, h4, h5, h6⟩ := HH.out
  obtain ⟨o1, o2, o3, o4, o5, o6⟩ := HO.out
  have b25 := BH.trans o6 hb5
  have hB5 : B ≤ u5.heap.size := Nat.le_trans h3 (Below.size b25)
  have H5 := Lib.hid (h1.bh b25)
  have O5 := Lib.hid (o1.bh hb5)
  have HBw := Lib.hid (show BH w u5 from BH.trans h6 b25)
  have HOk := Lib.hid (And.intro (fun d hd => (h5 d hd).1) (And.intro (fun d hd => (h5 d hd).2) (And.intro (fun d hd => (o5 d hd).1) (And.intro h4 o4))))
  have HSz := Lib.hid (And.intro h2 (And.intro hB5 (Nat.le_trans o3 (Below.size hb5))))
  clear h1 h2 h3 h4 h5 h6 o1 o2 o3 o4 o5 o6 b25 hb5 hB5 HH HO
  go_wp2_with (fail)
  refine (hclone_any 3 B p b _ v l ds u5 H5.out HOk.out.1 HSz.out.2.1 (by have := HOk.out.2.2.2.1; omega) (by decide) (by decide)).mono ?_
  rintro e u6 ⟨p2, b2, v2, l2, rfl, hC, hb6⟩
  have hs6 := Below.size hb6
  have H6 : Hid (Hier u6 B p b (QC q u5.heap.size u6.heap.size) v l ds) := Lib.hid (H5.out.keep (Below.size hb6) (fun x hx hl => ⟨Below.block hb6 x hl, fun h => by rcases h with h | h; exact hx h; omega⟩) (fun x hx => by rcases hx with rfl | hx; have := H5.out.hQ x rfl; omega; exact hx.2))
  have C6 := Lib.hid hC
  have O6 := Lib.hid (O5.out.bh hb6)
  have HB6 := Lib.hid (And.intro (BH.trans HBw.out hb6) hs6)
  clear hC hb6 hs6
  obtain ⟨Q2, hQ2⟩ : ∃ Q2 : Nat → Prop, Q2 = (fun y => y = p ∨ y = b ∨ v.ownBlock = some y) := ⟨_, rfl⟩
  rw [← hQ2] at C6
  have HQ2 := Lib.hid hQ2
  clear hQ2
  obtain ⟨z, hz⟩ : ∃ z, desB ds es = z := ⟨_, rfl⟩
  have Hz := Lib.hid hz
  have hzz : (z != z) = false := by simp
  have hl1 : ds.length ≤ 16 := HOk.out.2.2.2.1
  have hl2 : es.length ≤ 16 := HOk.out.2.2.2.2
  clear hz
  go_wp2_with (fail)
  refine (hEqual 3 3 _ p2 b2 _ v2 l2 ds B p b _ v l ds u6 C6.out H6.out HOk.out.1 HOk.out.1 (by omega) (by omega)).mono ?_
  rintro e u7 ⟨rfl, hb7⟩
  rw [desB_self]
  have HB7 := Lib.hid hb7
  clear hb7
  go_wp2_with (fail)
  refine (hEqual 3 3 _ p b _ v l ds _ p2 b2 _ v2 l2 ds u7 (H6.out.bh HB7.out) (C6.out.bh HB7.out) HOk.out.1 HOk.out.1 (by omega) (by omega)).mono ?_
  rintro e u8 ⟨rfl, hb8⟩
  rw [desB_self]
  have HB8 := Lib.hid (BH.trans HB7.out hb8)
  clear hb8 HB7
  go_wp2_with (fail)
  refine (hEqual 3 3 _ p b _ v l ds _ p' b' _ v' l' es u8 (H6.out.bh HB8.out) (O6.out.bh HB8.out) HOk.out.1 HOk.out.2.2.1 (by omega) (by omega)).mono ?_
  rintro e u9 ⟨rfl, hb9⟩
  rw [Hz.out]
  have HB9 := Lib.hid (BH.trans HB8.out hb9)
  clear hb9 HB8
  go_wp2_with (fail)
  refine (hDecls_any 3 B p b _ v l ds u9 (H6.out.bh HB9.out) HOk.out.1 (by have := HSz.out.2.1; have := Below.size HB9.out; have := HB6.out.2; omega) (by omega) (by decide) (by decide)).mono ?_
  rintro e u10 ⟨A10, c10, rfl, hd10, hb10⟩
  have HD10 := Lib.hid hd10
  have HB10 := Lib.hid (BH.trans HB9.out hb10)
  clear hb10 hd10 HB9
  go_wp2_with (fail)
  refine (hDecls_any 3 B' p' b' _ v' l' es u10 (O6.out.bh HB10.out) HOk.out.2.2.1 (by have := HSz.out.2.2; have := Below.size HB10.out; have := HB6.out.2; omega) (by omega) (by decide) (by decide)).mono ?_
  rintro e u11 ⟨A11, c11, rfl, hd11, hb11⟩
  have HE := Lib.hid (rDeclsEq_any ds es A10 A11 c10 c11 u11 3 3 _ _ (HD10.out.bh hb11) hd11 HOk.out.1 HOk.out.2.2.1 (by omega) (by omega))
  have HB11 := Lib.hid (BH.trans HB10.out hb11)
  clear hb11 hd11 HB10 HD10
  go_wp2_with (fail)
  refine HE.out.mono ?_
  rintro e u12 ⟨rfl, hb12⟩
  rw [Hz.out]
  have HB12 := Lib.hid (BH.trans HB11.out hb12)
  clear hb12 HB11 HE
  go_wp2_with (fail)
  refine (hDecls_any 3 B p b _ v l ds u12 (H6.out.bh HB12.out) HOk.out.1 (by have := HSz.out.2.1; have := Below.size HB12.out; have := HB6.out.2; omega) (by omega) (by decide) (by decide)).mono ?_
  rintro e u13 ⟨A13, c13, rfl, hd13, hb13⟩
  have HB13 := Lib.hid (BH.trans HB12.out hb13)
  clear hb13 hd13 HB12
  have HLt := Lib.hid (de_later (ds := ds) HOk.out.2.1 (by omega))
  have hok9 : ∀ d ∈ ds ++ [dLater], OkD 3 d := good_app HOk.out.1 (okD_of (by decide))
  have HOk9 := Lib.hid hok9
  have hlen9 : (ds ++ [dLater]).length = ds.length + 1 := by simp
  have HLen9 := Lib.hid hlen9
  clear hok9 hlen9
  have hb513 : u5.heap.size ≤ u13.heap.size := by have := Below.size HB13.out; have := HB6.out.2; omega
  go_wp2_with (fail)
  refine (hDeclare 3 u5.heap.size p2 b2 _ v2 l2 ds dLater none none 0 0 u13 (C6.out.bh HB13.out) HOk.out.1 (okD_of (by decide)) hb513 (by omega) (by decide) (by decide) ⟨Nat.le_refl _, [], reads_nil _ _, rfl⟩ (FlS.nil _ _)).mono ?_
  rintro e u14 ⟨v3, l3, rfl, n1, n2⟩
  rw [HLt.out.1]
  rw [HLt.out.2] at n1
  have c6 := C6.out
  have hp2b : u5.heap.size ≤ p2 ∧ p2 < u6.heap.size := ⟨c6.hB.1, heap_lt c6.blk⟩
  have hb2b : u5.heap.size ≤ b2 ∧ b2 < u6.heap.size := ⟨c6.hB.2, c6.map.lt⟩
  have hv2b : ∀ g, v2.ownBlock = some g → u5.heap.size ≤ g ∧ g < u6.heap.size := fun g e => c6.own.lt g e
  have H14 : Hid (Hier u14 B p b (QC q u5.heap.size u6.heap.size) v l ds) := Lib.hid ((H6.out.bh HB13.out).keep n2.size (fun x hx hl => ⟨n2.block x hl (fun e => hx (.inr (e ▸ hp2b))) (fun e => hx (.inr (e ▸ hb2b))) (fun e => hx (.inr (hv2b x e))), hx⟩) (fun x hx => Nat.lt_of_lt_of_le ((H6.out.bh HB13.out).hQ x hx) n2.size))
  have C14 := Lib.hid n1
  have HB14 := Lib.hid (And.intro (Below.trans (BH.trans HB6.out.1 HB13.out) ((n2.below (C6.out.bh HB13.out) hb513).mono (Below.size HBw.out))) (Nat.le_trans hb513 n2.size))
  clear n1 n2 c6 hp2b hb2b hv2b hb513 C6 H6 O6 O5 H5 HB13
  go_wp2_with (fail)
  refine (hDecls_any 3 B p b _ v l ds u14 H14.out HOk.out.1 (by have := HSz.out.2.1; have := HB14.out.2; omega) (by omega) (by decide) (by decide)).mono ?_
  rintro e u15 ⟨A15, c15, rfl, hd15, hb15⟩
  have HB15 := Lib.hid hb15
  clear hb15 hd15
  have HD15 := Lib.hid (hDecls_any 3 u5.heap.size p2 b2 _ v3 l3 (ds ++ [dLater]) u15 (C14.out.bh HB15.out) HOk9.out (Nat.le_trans HB14.out.2 (Below.size HB15.out)) (by rw [HLen9.out]; omega) (by decide) (by decide))
  rw [HLen9.out] at HD15
  have hw1 : wrap64 ((ds.length : Int) + 1) = (ds.length : Int) + 1 := wrap64_in (by omega) (by omega)
  go_wp2_with (fail)
  refine HD15.out.mono ?_
  rintro e u16 ⟨A16, c16, rfl, hd16, hb16⟩
  have HB16 := Lib.hid (BH.trans HB15.out hb16)
  clear hb16 hd16 HD15 HB15
  go_wp2_with (fail)
  refine (hEqual 3 3 _ p2 b2 _ v3 l3 (ds ++ [dLater]) B p b _ v l ds u16 (C14.out.bh HB16.out) (H14.out.bh HB16.out) HOk9.out HOk.out.1 (by rw [HLen9.out]; omega) (by omega)).mono ?_
  rintro e u17 ⟨rfl, hb17⟩
  rw [desB_len _ _ (by rw [HLen9.out]; omega)]
  have HB17 := Lib.hid (BH.trans HB16.out hb17)
  clear hb17 HB16
  go_wp2_with (fail)
  refine (hDeclare 3 B p b _ v l ds dLater none none 0 0 u17 (H14.out.bh HB17.out) HOk.out.1 (okD_of (by decide)) (by have := HSz.out.2.1; have := HB14.out.2; have := Below.size HB17.out; omega) (by omega) (by decide) (by decide) ⟨Nat.le_refl _, [], reads_nil _ _, rfl⟩ (FlS.nil _ _)).mono ?_
  rintro e u18 ⟨v4, l4, rfl, n1, n2⟩
  rw [HLt.out.1]
  rw [HLt.out.2] at n1
  have C18 : Hid (Hier u18 u5.heap.size p2 b2 Q2 v3 l3 (ds ++ [dLater])) := Lib.hid ((C14.out.bh HB17.out).keep n2.size (fun x hx hl => by
    rw [HQ2.out] at hx
    exact ⟨n2.block x hl (fun e => hx (.inl e)) (fun e => hx (.inr (.inl e))) (fun e => hx (.inr (.inr e))), by rw [HQ2.out]; exact hx⟩) (fun x hx => Nat.lt_of_lt_of_le ((C14.out.bh HB17.out).hQ x hx) n2.size))
  have H18 := Lib.hid n1
  have HB18 := Lib.hid (Below.trans (BH.trans HB14.out.1 HB17.out) ((n2.below (H14.out.bh HB17.out) (by have := HSz.out.2.1; have := HB14.out.2; have := Below.size HB17.out; omega)).mono HSz.out.1))
  clear n1 n2 HB14 HB17 H14 C14
  go_wp2_with (fail)
  refine (hEqual 3 3 _ p2 b2 _ v3 l3 (ds ++ [dLater]) B p b _ v4 l4 (ds ++ [dLater]) u18 C18.out H18.out HOk9.out HOk9.out (by rw [HLen9.out]; omega) (by rw [HLen9.out]; omega)).mono ?_
  rintro e u19 ⟨rfl, hb19⟩
  rw [desB_self]
  have HB19 := Lib.hid (BH.trans HB18.out hb19)
  clear hb19
  go_wp2_with (fail)
  go_ret
  exact ⟨rfl, HB19.out⟩
end Go.Proofs.YtpkiheenkpcebaaGreatDoor.JH
