/- (*Hierarchy).knowsFields. No condition but bounded sizes. -/
import Derived.Test.YtpkiheenkpcebaaGreatDoorMaq
import Derived.Test.YtpkiheenkpcebaaGreatDoorMao
set_option linter.unusedVariables false
set_option linter.unusedSimpArgs false
namespace Go.Proofs.YtpkiheenkpcebaaGreatDoor.Sx
/-- declared, once the declaration of n with ar parameters is added -/
def xfB (ds : List De) (n : List UInt8) (ar : Int) (t : List UInt8) (N : Nat) : Bool := (decide (t = n) && ((N : Int) == ar)) || dcB ds t N
def kfB (ds : List De) (n : List UInt8) (ar : Int) (fs : List (List UInt8 × Tm)) : Bool := fs.all fun f => ev1 (xfB ds n ar) f.2.k f.2.t f.2.kids
end Go.Proofs.YtpkiheenkpcebaaGreatDoor.Sx
namespace Go.Proofs.YtpkiheenkpcebaaGreatDoor
open Go.RowKit Sx

set_option maxHeartbeats 4000000 in
set_option maxRecDepth 100000 in
theorem hClo (B p b : Nat) (Q : Nat → Prop) (v : Value) (l : List (List UInt8 × Value)) (ds : List De) (n : List UInt8) (ar : Int) (a2 a3 a4 a5 a6 a7 : Value) (gd gh : Nat) (k o : Int) (t : List UInt8) (A : Option Addr) (N c : Nat) (w : World) (H : Hier w B p b Q v l ds)
    (hd : w.heap[gd]? = some (.cells #[.string ⟨n.toArray⟩, .int .i64 ar, a2, a3, a4, a5, a6, a7] 37 (0, 0))) (hh : w.heap[gh]? = some (.cells #[.pointer (some ⟨p, 0, none⟩)] 22 (0, 0))) (ht : t.length ≤ 1048576) :
    Calls Tryz.prog 85 #[.agg #[.int .i64 k, .string ⟨t.toArray⟩, .int .i64 o, .slice A N c], .pointer (some ⟨gd, 0, none⟩), .pointer (some ⟨gh, 0, none⟩)] w fun e w' => e = .returned (.bool (xfB ds n ar t N)) ∧ BH w w' := by
  have e1 := heap_alloc_new w (.cells #[.int .i64 k, .string ⟨t.toArray⟩, .int .i64 o, .slice A N c] 34)
  have f1 := bh_alloc (BH.refl w) (.cells #[.int .i64 k, .string ⟨t.toArray⟩, .int .i64 o, .slice A N c] 34)
  have hd1 := (Below.block f1 _ (heap_lt hd)).trans hd
  have hh1 := (Below.block f1 _ (heap_lt hh)).trans hh
  obtain ⟨⟨r0, r1, r2, r3, r4, r5, r6, r7⟩, _⟩ := row8 hd1
  obtain ⟨s0, s1, s2, s3, _⟩ := row4 e1
  have q0 := cell_of_row _ gh 0 _ _ _ hh1
  have HF := Lib.hid (And.intro e1 (And.intro f1 (And.intro hd1 hh1)))
  have HH := Lib.hid (H.bh f1)
  obtain ⟨z, hz⟩ : ∃ z, (decide (t = n) && ((N : Int) == ar)) = z := ⟨_, rfl⟩
  obtain ⟨y, hy⟩ : ∃ y, dcB ds t N = y := ⟨_, rfl⟩
  have hx : xfB ds n ar t N = (z || y) := by rw [xfB, hz, hy]
  have HX := Lib.hid hx
  have HA : Hid (∀ X, Calls Tryz.prog 86 #[.agg #[.string ⟨n.toArray⟩, .int .i64 ar, a2, a3, a4, a5, a6, a7], .agg #[.int .i64 k, .string ⟨t.toArray⟩, .int .i64 o, .slice A N c]] X fun e u => e = .returned (.bool z) ∧ BH X u) := Lib.hid fun X => by
    rw [← hz]
    exact hAgrees n ar a2 a3 a4 a5 a6 a7 k o t A N c X
  have HD : Hid (∀ X, Hier X B p b Q v l ds → Calls Tryz.prog 64 #[.pointer (some ⟨p, 0, none⟩), .agg #[.int .i64 k, .string ⟨t.toArray⟩, .int .i64 o, .slice A N c]] X fun e u => e = .returned (.bool y) ∧ BH X u) := Lib.hid fun X hX => by
    rw [← hy]
    exact hDeclares B p b Q v l ds k o t A N c X hX ht
  clear e1 f1 hd1 hh1 H hd hh hz hy hx
  go_enter Tryz.func85, Tryz.ntmps85
  go_wp2_with (fail)
  refine (HA.out _).mono ?_
  rintro e u ⟨rfl, hb⟩
  have HB := Lib.hid hb
  have HU := Lib.hid (And.intro ((Below.block hb _ (heap_lt HF.out.1)).trans HF.out.1) ((Below.block hb _ (heap_lt HF.out.2.2.2)).trans HF.out.2.2.2))
  clear hb r0 r1 r2 r3 r4 r5 r6 r7 s0 s1 s2 s3 q0
  cases z with
  | true =>
    go_wp2_with (fail)
    go_ret
    exact ⟨by rw [HX.out]; rfl, BH.trans HF.out.2.1 HB.out⟩
  | false =>
    obtain ⟨s0, s1, s2, s3, _⟩ := row4 HU.out.1
    have q0 := cell_of_row _ gh 0 _ _ _ HU.out.2
    go_wp2_with (fail)
    refine (HD.out _ (HH.out.bh HB.out)).mono ?_
    rintro e u2 ⟨rfl, hb⟩
    have HB2 := Lib.hid (BH.trans HB.out hb)
    clear hb
    go_wp2_with (fail)
    go_ret
    exact ⟨by rw [HX.out]; rfl, BH.trans HF.out.2.1 HB2.out⟩

set_option maxHeartbeats 8000000 in
set_option maxRecDepth 100000 in
theorem hEveryC (gd gh : Nat) (J : World → Prop) (hJ : ∀ X Y, J X → BH X Y → J Y) (pf : List UInt8 → Nat → Bool)
    (hC : ∀ (X : World) (k o : Int) (t : List UInt8) (A : Option Addr) (N c : Nat), J X → t.length ≤ 1048576 → Calls Tryz.prog 85 #[.agg #[.int .i64 k, .string ⟨t.toArray⟩, .int .i64 o, .slice A N c], .pointer (some ⟨gd, 0, none⟩), .pointer (some ⟨gh, 0, none⟩)] X fun e u => e = .returned (.bool (pf t N)) ∧ BH X u)
    (M : Nat) : ∀ (k o : Int) (t : List UInt8) (kids : Fo) (A : Option Addr) (c : Nat) (w : World), fsize kids < M → fsize kids ≤ 1073741824 → KT w kids A c → t.length ≤ 1048576 → lenT kids → J w →
    Calls Tryz.prog 63 #[.agg #[.int .i64 k, .string ⟨t.toArray⟩, .int .i64 o, .slice A kids.len c], .func (.func 85) #[] #[.pointer (some ⟨gd, 0, none⟩), .pointer (some ⟨gh, 0, none⟩)]] w fun e w' => e = .returned (.bool (ev1 pf k t kids)) ∧ BH w w' := by
  induction M with
  | zero => intro k o t kids A c w h; exact absurd h (Nat.not_lt_zero _)
  | succ M ih =>
  intro k o t kids A c w hM hN hK ht hl hj
  obtain ⟨Z, hZ⟩ : ∃ Z, ev1 pf k t kids = Z := ⟨_, rfl⟩
  rw [hZ]
  have HZ := Lib.hid hZ
  have IH := Lib.hid ih
  have HJ := Lib.hid hJ
  have HC := Lib.hid hC
  have HK := Lib.hid hK
  have Hj := Lib.hid hj
  have Hl := Lib.hid hl
  have hlen := len_le_fsize kids
  obtain ⟨L, hL⟩ : ∃ L, kids.len = L := ⟨_, rfl⟩
  rw [hL] at hlen ⊢
  have HL := Lib.hid hL
  have e1 := heap_alloc_new w (.cells #[.int .i64 k, .string ⟨t.toArray⟩, .int .i64 o, .slice A L c] 34)
  have f1 := bh_alloc (BH.refl w) (.cells #[.int .i64 k, .string ⟨t.toArray⟩, .int .i64 o, .slice A L c] 34)
  have HE := Lib.hid (And.intro e1 f1)
  obtain ⟨b0, b1, b2, b3, _⟩ := row4 e1
  obtain ⟨q, hq⟩ : ∃ q, pf t L = q := ⟨_, rfl⟩
  have Hq := Lib.hid hq
  clear hZ ih hJ hC hK hj hl hL e1 f1 hq
  go_enter Tryz.func63, Tryz.ntmps63
  go_upto_region 1 with (fail)
  go_cut [15] (fun s15 wx => Hid ((s15 = .bool true ∧ Z = false ∨ s15 = .bool false ∧ Z = evL pf kids) ∧ BH w wx ∧ wx.heap[w.heap.size]? = some (.cells #[.int .i64 k, .string ⟨t.toArray⟩, .int .i64 o, .slice A L c] 34 (0, 0))))
  case first =>
    by_cases h2 : k = 2
    · subst h2
      have hC' := HC.out _ 2 o t A L c (HJ.out _ _ Hj.out HE.out.2) ht
      rw [Hq.out] at hC'
      have HC' := Lib.hid hC'
      have hz : Z = (q && evL pf kids) := by
        rw [← HZ.out, ev1, if_pos rfl, HL.out, Hq.out]
      have Hz := Lib.hid hz
      clear hC' hz
      go_wp2_with (fail)
      refine HC'.out.mono ?_
      rintro e u ⟨rfl, hb⟩
      have HB := Lib.hid (And.intro (BH.trans HE.out.2 hb) ((Below.block hb _ (heap_lt HE.out.1)).trans HE.out.1))
      clear hb
      cases q with
      | true =>
        go_wp2_with (fail)
        go_meet
        exact Lib.hid ⟨.inr ⟨rfl, by rw [Hz.out]; rfl⟩, HB.out⟩
      | false =>
        go_wp2_with (fail)
        go_meet
        exact Lib.hid ⟨.inl ⟨rfl, by rw [Hz.out]; rfl⟩, HB.out⟩
    · have t1 : (k == 2) = false := by simpa using h2
      have t2 : decide (k = 2) = false := by simpa using h2
      have hz : Z = evL pf kids := by
        rw [← HZ.out, ev1, if_neg h2]
        rfl
      have Hz := Lib.hid hz
      clear hz
      go_wp2_with (fail)
      go_meet
      exact Lib.hid ⟨.inr ⟨rfl, Hz.out⟩, HE.out.2, HE.out.1⟩
  case rest =>
    obtain ⟨hs, hbw, hblk⟩ := hcut.out
    have HB := Lib.hid (And.intro hbw hblk)
    obtain ⟨x0, x1, x2, x3, _⟩ := row4 hblk
    clear hbw hblk hcut
    rcases hs with ⟨rfl, hz⟩ | ⟨rfl, hz⟩
    · have Hz := Lib.hid hz
      clear hz
      go_wp2_with (fail)
      go_ret
      exact ⟨by rw [Hz.out]; rfl, HB.out.1⟩
    · have Hz := Lib.hid hz
      clear hz
      go_wp2_with (fail)
      go_loopw [19] (fun iv wr => ∃ (i : Nat) (r : Fo), iv = .int .i64 (i : Int) ∧ Suf i r kids ∧ BH w wr ∧ Hid (evL pf kids = evL pf r)) (fun iv _ => L - (match iv with | .int _ n => n.toNat | _ => 0))
      case atStart => exact ⟨0, kids, rfl, Suf.zero _, HB.out.1, Lib.hid rfl⟩
      case round =>
        obtain ⟨i, r, rfl, hsuf, hbr, hev⟩ := hrel
        have hlen' := hsuf.len
        rw [HL.out] at hlen'
        have HBr := Lib.hid hbr
        have HSuf := Lib.hid hsuf
        cases r with
        | nil =>
          simp only [Fo.len] at hlen'
          have hge : decide ((i : Int) < (L : Int)) = false := by rw [decide_eq_false_iff_not]; omega
          have hge2 : decide (i < L) = false := by rw [decide_eq_false_iff_not]; omega
          clear hlen' hsuf hbr
          go_wp2_with (fail)
          go_ret
          exact ⟨by rw [Hz.out, hev.out]; rfl, HBr.out⟩
        | cons k1 t1 kids1 o1 r1 =>
          simp only [Fo.len] at hlen'
          obtain ⟨g, off, A1, c1, rfl, hgl, q0, q1, q2, q3, hk1⟩ := HK.out.get hsuf hbr
          have hkid := hsuf.kid.1
          have hl1 : t1.length ≤ 1048576 ∧ lenT kids1 := by
            obtain ⟨pre, he, hpl⟩ := hsuf
            have h := Hl.out
            rw [he] at h
            clear he hpl
            induction pre with
            | nil => exact ⟨h.1, h.2.1⟩
            | cons _ _ _ _ _ _ ihp => exact ihp h.2.2
          have hge : decide ((i : Int) < (L : Int)) = true := by rw [decide_eq_true_eq]; omega
          have hiL : (i : Int) < (L : Int) := by omega
          have hi0 : (0 : Int) ≤ (i : Int) := by omega
          obtain ⟨z, hz⟩ : ∃ z, ev1 pf k1 t1 kids1 = z := ⟨_, rfl⟩
          have fA := bh_alloc (BH.refl wr) (.cells #[.int .i64 k1, .string ⟨t1.toArray⟩, .int .i64 o1, .slice A1 kids1.len c1] 34)
          have eA := heap_alloc_new wr (.cells #[.int .i64 k1, .string ⟨t1.toArray⟩, .int .i64 o1, .slice A1 kids1.len c1] 34)
          obtain ⟨y0, y1, y2, y3, _⟩ := row4 eA
          have hI := IH.out k1 o1 t1 kids1 A1 c1 _ (by omega) (by omega) ((hk1.below hbr).below fA) hl1.1 hl1.2 (HJ.out _ _ Hj.out (BH.trans hbr fA))
          rw [hz] at hI
          have HI := Lib.hid hI
          have HFA := Lib.hid (BH.trans hbr fA)
          have Hzz := Lib.hid hz
          clear hsuf hbr hk1 hgl hI fA eA hz hl1
          go_wp2_with (fail)
          refine HI.out.mono ?_
          rintro e u ⟨rfl, hb⟩
          have HB2 := Lib.hid (BH.trans HFA.out hb)
          clear hb y0 y1 y2 y3 q0 q1 q2 q3
          have hee := hev.out
          rw [evL_cons, Hzz.out] at hee
          have Hee := Lib.hid hee
          clear hee
          cases z with
          | true =>
            go_wp2_with (fail)
            exact ⟨⟨i + 1, r1, rfl, HSuf.out.next, HB2.out, Lib.hid (by rw [Hee.out]; rfl)⟩, by simp; omega⟩
          | false =>
            go_wp2_with (fail)
            go_ret
            exact ⟨by rw [Hz.out, Hee.out]; rfl, HB2.out⟩


set_option maxHeartbeats 8000000 in
set_option maxRecDepth 100000 in
theorem hKnowsFields (V : Int) (B p b : Nat) (Q : Nat → Prop) (v : Value) (l : List (List UInt8 × Value)) (ds : List De) (n : List UInt8) (ar k o : Int) (t : List UInt8) (A : Option Addr) (N c : Nat) (cc : Bool) (fs : List (List UInt8 × Tm)) (F : Option Addr) (x : Nat) (w : World) (S : Nat → Prop) (H : Hier w B p b Q v l ds) (hok : OkF V fs) (hFl : FlS w S fs F x) :
    Calls Tryz.prog 53 #[.pointer (some ⟨p, 0, none⟩), .agg #[.string ⟨n.toArray⟩, .int .i64 ar, .int .i64 k, .string ⟨t.toArray⟩, .int .i64 o, .slice A N c, .bool cc, .slice F fs.length x]] w fun e w' => e = .returned (.bool (kfB ds n ar fs)) ∧ BH w w' := by
  obtain ⟨M, hM⟩ : ∃ M, fs.length = M := ⟨_, rfl⟩
  obtain ⟨Z, hZ⟩ : ∃ Z, kfB ds n ar fs = Z := ⟨_, rfl⟩
  obtain ⟨hfl, hff⟩ := hok
  have HFl := Lib.hid hFl
  rw [hM] at hfl ⊢
  rw [hZ]
  have HM := Lib.hid hM
  have HZ := Lib.hid hZ
  have HFF := Lib.hid hff
  have e1 := heap_alloc_new w (.cells #[.pointer (some ⟨p, 0, none⟩)] 22)
  have f1 := bh_alloc (BH.refl w) (.cells #[.pointer (some ⟨p, 0, none⟩)] 22)
  have e2 := heap_alloc_new (w.alloc (.cells #[.pointer (some ⟨p, 0, none⟩)] 22)) (.cells #[.string ⟨n.toArray⟩, .int .i64 ar, .int .i64 k, .string ⟨t.toArray⟩, .int .i64 o, .slice A N c, .bool cc, .slice F M x] 37)
  have f2 := bh_alloc f1 (.cells #[.string ⟨n.toArray⟩, .int .i64 ar, .int .i64 k, .string ⟨t.toArray⟩, .int .i64 o, .slice A N c, .bool cc, .slice F M x] 37)
  have e1' := (Below.heap_alloc (w.alloc (.cells #[.pointer (some ⟨p, 0, none⟩)] 22)) (.cells #[.string ⟨n.toArray⟩, .int .i64 ar, .int .i64 k, .string ⟨t.toArray⟩, .int .i64 o, .slice A N c, .bool cc, .slice F M x] 37) w.heap.size (by simp)).trans e1
  rw [World.size_alloc] at e2
  obtain ⟨⟨r0, r1, r2, r3, r4, r5, r6, r7⟩, _⟩ := row8 e2
  have HE := Lib.hid (And.intro e1' (And.intro e2 f2))
  have HH := Lib.hid H
  clear hFl hM hZ hff e1 f1 e2 f2 e1' H
  go_enter Tryz.func53, Tryz.ntmps53
  go_wp2_with (fail)
  go_loopw [11] (fun iv wr => ∃ i : Nat, iv = .int .i64 (i : Int) ∧ i ≤ M ∧ Hid ((wr.heap[w.heap.size]? = some (.cells #[.pointer (some ⟨p, 0, none⟩)] 22 (0, 0)) ∧ wr.heap[w.heap.size + 1]? = some (.cells #[.string ⟨n.toArray⟩, .int .i64 ar, .int .i64 k, .string ⟨t.toArray⟩, .int .i64 o, .slice A N c, .bool cc, .slice F M x] 37 (0, 0))) ∧ BH w wr ∧ Z = kfB ds n ar (fs.drop i))) (fun iv _ => M - (match iv with | .int _ n => n.toNat | _ => 0))
  case atStart => exact ⟨0, rfl, Nat.zero_le _, Lib.hid ⟨⟨HE.out.1, HE.out.2.1⟩, HE.out.2.2, HZ.out.symm⟩⟩
  case round =>
    obtain ⟨i, rfl, hiM, hR⟩ := hrel
    clear r0 r1 r2 r3 r4 r5 r6 r7
    by_cases hlt : i < M
    · have hge : decide ((i : Int) < (M : Int)) = true := by rw [decide_eq_true_eq]; omega
      have hiL : (i : Int) < (M : Int) := by omega
      have hi0 : (0 : Int) ≤ (i : Int) := by omega
      obtain ⟨⟨n1, ⟨k1, t1, h1, j1⟩⟩, hy⟩ : ∃ f, fs[i]? = some f := ⟨_, List.getElem?_eq_getElem (by rw [HM.out]; exact hlt)⟩
      have hd : fs.drop i = (n1, ⟨k1, t1, h1, j1⟩) :: fs.drop (i + 1) := by
        obtain ⟨hl, he⟩ := List.getElem?_eq_some_iff.1 hy
        rw [List.drop_eq_getElem_cons hl, he]
      obtain ⟨hf1, hf2, hf3, hf4, hf5⟩ := HFF.out _ (List.mem_of_getElem? hy)
      simp only at hf1 hf2 hf3 hf4 hf5
      obtain ⟨⟨x1, x2⟩, x3, x4⟩ := hR.out
      obtain ⟨g, off, A1, c1, rfl, _, hg, p0, p1, p2, p3, p4, hk1⟩ := (HFl.out.bh x3).at hy
      simp only at p0 p1 p2 p3 p4 hk1
      have eA := heap_alloc_new wr (.cells #[.string ⟨n1.toArray⟩, .int .i64 k1, .string ⟨t1.toArray⟩, .int .i64 j1, .slice A1 h1.len c1] 40)
      have fA := bh_alloc (BH.refl wr) (.cells #[.string ⟨n1.toArray⟩, .int .i64 k1, .string ⟨t1.toArray⟩, .int .i64 j1, .slice A1 h1.len c1] 40)
      obtain ⟨y0, y1, y2, y3, y4⟩ := row5 eA
      obtain ⟨z, hz⟩ : ∃ z, ev1 (xfB ds n ar) k1 t1 h1 = z := ⟨_, rfl⟩
      have hst : Z = (z && kfB ds n ar (fs.drop (i + 1))) := by rw [x4, hd, kfB, List.all_cons, ← hz]; rfl
      have hE := hEveryC (w.heap.size + 1) w.heap.size (fun X => Hier X B p b Q v l ds ∧ X.heap[w.heap.size]? = some (.cells #[.pointer (some ⟨p, 0, none⟩)] 22 (0, 0)) ∧ X.heap[w.heap.size + 1]? = some (.cells #[.string ⟨n.toArray⟩, .int .i64 ar, .int .i64 k, .string ⟨t.toArray⟩, .int .i64 o, .slice A N c, .bool cc, .slice (some ⟨g, off, none⟩) M x] 37 (0, 0)))
        (fun X Y h hb => ⟨h.1.bh hb, (Below.block hb _ (heap_lt h.2.1)).trans h.2.1, (Below.block hb _ (heap_lt h.2.2)).trans h.2.2⟩) (xfB ds n ar) (fun X k o t A N c h ht => hClo B p b Q v l ds n ar _ _ _ _ _ _ _ _ k o t A N c X h.1 h.2.2 h.2.1 ht) (fsize h1 + 1) k1 j1 t1 h1 A1 c1 _ (by omega) hf2 ((hk1.kt).below fA) hf3 hf4 ⟨(HH.out.bh x3).bh fA, (Below.block fA _ (heap_lt x1)).trans x1, (Below.block fA _ (heap_lt x2)).trans x2⟩
      rw [hz] at hE
      have HEv := Lib.hid hE
      have HX := Lib.hid (And.intro x1 (And.intro x2 (BH.trans x3 fA)))
      have HFA := Lib.hid fA
      have HST := Lib.hid hst
      clear hd hf1 hf2 hf3 hf4 hf5 x1 x2 x3 x4 hg hk1 eA fA hz hst hE hR hy
      go_wp2_with (fail)
      refine HEv.out.mono ?_
      rintro e u ⟨rfl, hb⟩
      have HB := Lib.hid (And.intro (BH.trans HX.out.2.2 hb) (BH.trans HFA.out hb))
      clear hb y0 y1 y2 y3 y4
      cases z with
      | false =>
        go_wp2_with (fail)
        go_ret
        exact ⟨by rw [HST.out]; rfl, HB.out.1⟩
      | true =>
        go_wp2_with (fail)
        exact ⟨⟨i + 1, rfl, by omega, Lib.hid ⟨⟨(Below.block HB.out.2 _ (heap_lt HX.out.1)).trans HX.out.1, (Below.block HB.out.2 _ (heap_lt HX.out.2.1)).trans HX.out.2.1⟩, HB.out.1, by rw [HST.out]; rfl⟩⟩, by simp; omega⟩
    · have hge : decide ((i : Int) < (M : Int)) = false := by rw [decide_eq_false_iff_not]; omega
      have hge2 : decide (i < M) = false := by rw [decide_eq_false_iff_not]; omega
      have hie : i = M := by omega
      have hz : Z = true := by
        obtain ⟨_, _, x4⟩ := hR.out
        rw [x4, List.drop_of_length_le (by rw [HM.out, hie]; exact Nat.le_refl _)]
        rfl
      have Hz := Lib.hid hz
      clear hz hie
      go_wp2_with (fail)
      go_ret
      exact ⟨by rw [Hz.out]; rfl, hR.out.2.1⟩
end Go.Proofs.YtpkiheenkpcebaaGreatDoor
