/- telmake.Hierarchies. No condition but bounded sizes. telmake.New, (*Stream).Next, (*Stream).Raw: a stream of integers that came in. What telmake.AnyNode reads: the stream and the two package variables (words, strings); Next in a world where they lie. -/
import Derived.Test.YtpkiheenkpcebaaGreatDoorMbg
import Derived.Test.YtpkiheenkpcebaaGreatDoorMbh
import Derived.Test.YtpkiheenkpcebaaGreatDoorMab
import Derived.Deep.RegionHeld3
set_option linter.unusedVariables false
set_option linter.unusedSimpArgs false
namespace Go.Proofs.YtpkiheenkpcebaaGreatDoor.Sx
/-- the declarations that stand after those of dl have been declared -/
def hds (dl : List De) : List De := dl.foldl declD (ds0)
theorem declD_len (ds : List De) (d : De) : (declD ds d).length ≤ ds.length + 1 := by
  rw [declD]; split <;> simp
theorem fold_len (dl : List De) : ∀ ds, (dl.foldl declD ds).length ≤ ds.length + dl.length := by
  induction dl with
  | nil => intro ds; simp
  | cons d r ih => intro ds; rw [List.foldl_cons]; have := ih (declD ds d); have := declD_len ds d; simp only [List.length_cons]; omega
theorem fold_mem (P : De → Prop) (dl : List De) : ∀ ds, (∀ d ∈ ds, P d) → (∀ d ∈ dl, P d) → ∀ d ∈ dl.foldl declD ds, P d := by
  induction dl with
  | nil => intro ds h _; exact h
  | cons d r ih =>
    intro ds h1 h2
    rw [List.foldl_cons]
    refine ih _ ?_ (fun e he => h2 e (List.mem_cons_of_mem _ he))
    intro e he
    rw [declD] at he
    split at he
    · rcases List.mem_append.1 he with he | he
      · exact h1 e he
      · simp at he; subst he; exact h2 _ (List.mem_cons_self ..)
    · exact h1 e he
theorem hds_succ (dl : List De) (i : Nat) (d : De) (h : dl[i]? = some d) : hds (dl.take (i + 1)) = declD (hds (dl.take i)) d := by
  rw [hds, hds, List.take_add_one, h]
  simp [List.foldl_append]
theorem cmpT_self (x : Tm) : (cmpT x x == 0) = true := by rw [cmpT, cmp1_self]; rfl
theorem feB_self (fs : List (List UInt8 × Tm)) : feB fs fs = true := by
  induction fs with
  | nil => rfl
  | cons f r ih => rw [feB, ih, cmpT_self]; simp
theorem deB_self (d : De) : deB d d = true := by rw [deB, cmpT_self, feB_self]; simp
theorem desB_self (ds : List De) : desB ds ds = true := by
  induction ds with
  | nil => rfl
  | cons d r ih => rw [desB, ih, deB_self]; rfl
end Go.Proofs.YtpkiheenkpcebaaGreatDoor.Sx
namespace Go.Proofs.YtpkiheenkpcebaaGreatDoor
open Go.RowKit Sx

structure HiG where
  n : Nat
  v : Value
  l : List (List UInt8 × Value)
/-- between the two calls of a round: how many have been made, the row of names, the map -/
def hiI (w : World) (n0 p b q : Nat) (dl : List De) (A : Option Addr) (c : Nat) (ds : List De) (d : De) (m : HiG) (W : World) : Prop :=
  Hier W w.heap.size p b (fun x => x = q) m.v m.l (if m.n = 0 then ds else declD ds d) ∧ RHier W (HS p b m.v (fun x => x = q)) q (if m.n = 2 then declD ds d else ds) ∧ DcS W (fun x => x < w.heap.size) dl A c ∧ BH w W ∧ n0 ≤ W.heap.size ∧ m.n ≤ 2
def hiZ (j : Nat) (m : HiG) : Prop := (j = 5 → m.n = 0) ∧ (j = 11 → m.n ≤ 1)
def hiT (w : World) (n0 p b q : Nat) (dl : List De) (A : Option Addr) (c : Nat) (ds : List De) (d : De) (m : HiG) (W : World) (m' : HiG) (W' : World) : Prop := hiI w n0 p b q dl A c ds d m' W' ∧ m.n ≤ m'.n ∧ m'.n ≤ 2
theorem hiB {w wr W : World} {n0 p b q : Nat} {dl : List De} {A : Option Addr} {c : Nat} {ds : List De} {d : De} {m : HiG} {g : Nat} (h : g < w.heap.size ∧ BH w wr) (hI : hiI w n0 p b q dl A c ds d m W) {o : Nat} {v : Value} (hc : wr.cell? ⟨g, o, none⟩ = some v) : W.cell? ⟨g, o, none⟩ = some v :=
  (World.cell?_of_block (a := ⟨g, o, none⟩) ((Below.block hI.2.2.2.1 g h.1).trans (Below.block h.2 g h.1).symm)).trans hc
theorem hiS {w W : World} {p b q : Nat} {v : Value} {l : List (List UInt8 × Value)} {ds : List De} (h : Hier W w.heap.size p b (fun x => x = q) v l ds) (hq : w.heap.size ≤ q) {y : Nat} (hy : y < w.heap.size) : HS p b v (fun x => x = q) y :=
  ⟨⟨by have := h.hB; omega, by have := h.hB; omega, fun e => by have := (h.own.lt y e).1; omega⟩, fun e => by omega⟩
def hiV (p q i : Nat) (d : De) (A : Option Addr) (n c : Nat) (g off : Nat) (A1 : Option Addr) (c1 : Nat) (F1 : Option Addr) (x1 : Nat) (z : Int) (m : HiG) (j : Nat) (v : Value) (W : World) : Prop :=
  match j with
  | 0 => v = .pointer (some ⟨p, 0, none⟩)
  | 1 => v = .slice A n c
  | 2 => v = .int .i64 (i : Int)
  | 3 => v = .pointer (some ⟨g, off + i * 8, none⟩)
  | 4 => v = .agg #[.string ⟨d.name.toArray⟩, .int .i64 d.arity, .int .i64 d.super.k, .string ⟨d.super.t.toArray⟩, .int .i64 d.super.o, .slice A1 d.super.kids.len c1, .bool d.conc, .slice F1 d.fields.length x1]
  | 5 => v = .int .i64 z ∧ 1 ≤ m.n
  | 6 => v = .pointer (some ⟨q, 0, none⟩)
  | 7 => v = .slice A n c
  | 8 => v = .int .i64 (i : Int)
  | 9 => v = .pointer (some ⟨g, off + i * 8, none⟩)
  | 10 => v = .agg #[.string ⟨d.name.toArray⟩, .int .i64 d.arity, .int .i64 d.super.k, .string ⟨d.super.t.toArray⟩, .int .i64 d.super.o, .slice A1 d.super.kids.len c1, .bool d.conc, .slice F1 d.fields.length x1]
  | 11 => v = .int .i64 z ∧ m.n = 2
  | _ => v = .bool false ∧ m.n = 2
theorem hiV_T {p q i : Nat} {d : De} {A : Option Addr} {n c g off : Nat} {A1 : Option Addr} {c1 : Nat} {F1 : Option Addr} {x1 : Nat} {z : Int} {w0 : World} {n0 b : Nat} {dl ds : List De} {A0 : Option Addr} {c0 : Nat} (m m' : HiG) (j : Nat) (v : Value) (w w' : World) (h : hiV p q i d A n c g off A1 c1 F1 x1 z m j v w) (hT : hiT w0 n0 p b q dl A0 c0 ds d m w m' w') : hiV p q i d A n c g off A1 c1 F1 x1 z m' j v w' := by
  obtain ⟨_, hT⟩ := hT
  unfold hiV at *
  split at h
  all_goals first
    | exact h
    | exact ⟨h.1, by have := h.2; omega⟩

set_option maxHeartbeats 16000000 in
set_option maxRecDepth 100000 in
theorem hierarchies_any (V : Int) (dl : List De) (A : Option Addr) (c : Nat) (w : World) (hA : DcS w (fun x => x < w.heap.size) dl A c) (hV0 : 1 ≤ V) (hV1 : V ≤ 1152921504606846976) (hdl : ∀ d ∈ dl, OkD V d) (hds0 : ∀ d ∈ ds0, OkD V d) (hn : dl.length ≤ 100) :
    Calls Tryz.prog 20 #[.slice A dl.length c] w fun e w' => ∃ p b q v l, e = .returned (.tuple #[.pointer (some ⟨p, 0, none⟩), .pointer (some ⟨q, 0, none⟩), .bool true]) ∧ Hier w' w.heap.size p b (fun x => x = q) v l (hds dl) ∧ RHier w' (HS p b v (fun x => x = q)) q (hds dl) ∧ BH w w' ∧ w.heap.size ≤ q := by
  obtain ⟨L, hL⟩ : ∃ L, dl.length = L := ⟨_, rfl⟩
  rw [hL] at hn ⊢
  have HA := Lib.hid hA
  have HL := Lib.hid hL
  have HDl := Lib.hid hdl
  have HD0 := Lib.hid hds0
  clear hA hL hdl hds0
  go_enter Tryz.func20, Tryz.ntmps20
  go_wp2_with (fail)
  refine (hnew_any (fun _ => False) _ (fun _ h => h.elim)).mono ?_
  rintro e u1 ⟨p, b, v0, l0, rfl, hH, hb⟩
  have HH := Lib.hid (And.intro hH hb)
  clear hH hb
  go_wp2_with (fail)
  refine (rNew_any _).mono ?_
  rintro e u2 ⟨q, rfl, hq, hR, hb⟩
  have hq2 : q < u2.heap.size := by obtain ⟨_, _, h, _, _⟩ := hR; exact heap_lt h
  have HH2 : Hid (Hier u2 w.heap.size p b (fun x => x = q) v0 l0 ds0) := Lib.hid (HH.out.1.keep (Below.size hb) (fun x _ hl => ⟨Below.block hb x hl, by omega⟩) (fun x hx => by omega))
  have HR2 : Hid (RHier u2 (HS p b v0 (fun x => x = q)) q ds0) := Lib.hid (hR.keep (Nat.le_refl _) (fun x hx _ => ⟨rfl, ⟨by have := heap_lt HH.out.1.blk; omega, by have := HH.out.1.map.lt; omega, fun e => by have := (HH.out.1.own.lt x e).2; omega⟩, hx.2⟩) rfl (fun h => h.2 rfl))
  have HB2 := Lib.hid (BH.trans HH.out.2 hb)
  have HQ := Lib.hid (Nat.le_trans (Below.size HH.out.2) hq)
  clear hq hq2 hR hb HH
  go_wp2_with (fail)
  go_loopw [7] (fun iv wr => ∃ i : Nat, iv = .int .i64 (i : Int) ∧ i ≤ L ∧ Hid (∃ v l, Hier wr w.heap.size p b (fun x => x = q) v l (hds (dl.take i)) ∧ RHier wr (HS p b v (fun x => x = q)) q (hds (dl.take i)) ∧ DcS wr (fun x => x < w.heap.size) dl A c ∧ BH w wr)) (fun iv _ => L - (match iv with | .int _ n => n.toNat | _ => 0))
  case atStart => exact ⟨0, rfl, Nat.zero_le _, Lib.hid ⟨v0, l0, HH2.out, HR2.out, HA.out.keep (Below.size HB2.out) (fun x hx hl => ⟨Below.block HB2.out x hl, hx⟩), HB2.out⟩⟩
  case round =>
    obtain ⟨i, rfl, hiL0, hRd⟩ := hrel
    obtain ⟨v, l, y1, y2, y3, y4⟩ := hRd.out
    have hi1 : wrap64 ((i : Int) + 1) = (i : Int) + 1 := wrap64_in (by omega) (by omega)
    have hlen : (hds (dl.take i)).length ≤ 200 := by
      have h := fold_len (dl.take i) ds0
      have h2 : ds0.length = 4 := rfl
      rw [List.length_take, h2] at h
      rw [hds]
      omega
    have hok : ∀ d ∈ hds (dl.take i), OkD V d := fold_mem (OkD V) _ _ HD0.out (fun d hd => HDl.out d (List.mem_of_mem_take hd))
    by_cases hlt : i < L
    · have hge : decide ((i : Int) < (L : Int)) = true := by rw [decide_eq_true_eq]; omega
      have hiL : (i : Int) < (L : Int) := by omega
      have hi0 : (0 : Int) ≤ (i : Int) := by omega
      obtain ⟨d, hd⟩ : ∃ d, dl[i]? = some d := ⟨_, List.getElem?_eq_getElem (by rw [HL.out]; exact hlt)⟩
      obtain ⟨g, off, A1, c1, F1, x1, rfl, hgw, hg, p0, p1, p2, p3, p4, p5, p6, p7, k1, f1⟩ := y3.at hd
      have hkd := HDl.out d (List.mem_of_getElem? hd)
      obtain ⟨z, hz⟩ : ∃ z, declE (hds (dl.take i)) d = z := ⟨_, rfl⟩
      have hzz : (z != z) = false := by simp
      have HSucc := Lib.hid (hds_succ dl i d hd)
      have HY := Lib.hid (And.intro y1 (And.intro y2 (And.intro y3 y4)))
      have HW := Lib.hid (show g < w.heap.size ∧ BH w wr from ⟨hgw, y4⟩)
      have HKF := Lib.hid (And.intro k1 f1)
      have HLen := Lib.hid hlen
      have HOk := Lib.hid hok
      have HKd := Lib.hid hkd
      have Hz := Lib.hid hz
      have HD := Lib.hid hd
      clear y1 y2 y3 y4 hlen hok hg hgw k1 f1 hkd hz hRd hd
      go_upto_region 7 with (fail)
      go_cut [31] (fun s31 wx => s31 = .bool false ∧ Hid (∃ v l, Hier wx w.heap.size p b (fun x => x = q) v l (hds (dl.take (i + 1))) ∧ RHier wx (HS p b v (fun x => x = q)) q (hds (dl.take (i + 1))) ∧ DcS wx (fun x => x < w.heap.size) dl (some ⟨g, off, none⟩) c ∧ BH w wx))
      case first =>
        refine wp_region_ghost (by kernel_rfl) (hiV p q i d (some ⟨g, off, none⟩) L c g off A1 c1 F1 x1 z) (hiI w wr.heap.size p b q dl (some ⟨g, off, none⟩) c (hds (dl.take i)) d) (hiT w wr.heap.size p b q dl (some ⟨g, off, none⟩) c (hds (dl.take i)) d) hiZ ⟨0, v, l⟩ ?_ (fun _ => ⟨fun _ => rfl, fun _ => Nat.zero_le _⟩) (fun _ _ _ _ _ h => h.1) hiV_T (by kernel_rfl) ?_ ?_
        · refine ⟨HY.out.1.bh (below_drew wr), HY.out.2.1.bh (below_drew wr), HY.out.2.2.1.bh (below_drew wr), BH.trans HY.out.2.2.2 (below_drew wr), Nat.le_refl _, Nat.zero_le _⟩
        · refine ⟨?_, ?_, ?_, ?_, ?_, ?_, ?_, ?_, ?_, ?_, ?_, ?_, ?_, trivial⟩
          · intro m a W hI hZ hF hD
            have h := same_of hF 5 (by kernel_rfl)
            go_simp
            exact ⟨_, rfl, m, rfl, ⟨hI, Nat.le_refl _, hI.2.2.2.2.2⟩, fun _ _ h => h⟩
          · intro m a W hI hZ hF hD
            have h := same_of hF 0 (by kernel_rfl)
            go_simp
            exact ⟨_, rfl, m, rfl, ⟨hI, Nat.le_refl _, hI.2.2.2.2.2⟩, fun _ _ h => h⟩
          · intro m a W hI hZ hF hD
            have h := same_of hF 7 (by kernel_rfl)
            go_simp
            exact ⟨_, rfl, m, rfl, ⟨hI, Nat.le_refl _, hI.2.2.2.2.2⟩, fun _ _ h => h⟩
          · intro m a W hI hZ hF hD
            have h : a.tmps[20]?.getD undef = .slice (some ⟨g, off, none⟩) L c := dep_of hD 1 20 (by kernel_rfl) rfl rfl
            have h' : a.tmps[21]?.getD undef = .int .i64 (i : Int) := dep_of hD 2 21 (by kernel_rfl) rfl rfl
            go_simp
            exact ⟨_, rfl, m, rfl, ⟨hI, Nat.le_refl _, hI.2.2.2.2.2⟩, fun _ _ h => h⟩
          · intro m a W hI hZ hF hD
            have h : a.tmps[22]?.getD undef = .pointer (some ⟨g, off + i * 8, none⟩) := dep_of hD 3 22 (by kernel_rfl) rfl rfl
            have hbr := @hiB w wr W wr.heap.size p b q dl (some ⟨g, off, none⟩) c (hds (dl.take i)) d m g HW.out hI
            have l0 := hbr p0; have l1 := hbr p1; have l2 := hbr p2; have l3 := hbr p3; have l4 := hbr p4; have l5 := hbr p5; have l6 := hbr p6; have l7 := hbr p7
            clear hbr
            go_simp
            exact ⟨_, rfl, m, rfl, ⟨hI, Nat.le_refl _, hI.2.2.2.2.2⟩, fun _ _ h => h⟩
          · intro m a W hI hZ hF hD
            obtain ⟨mn, mv, ml⟩ := m
            obtain rfl : mn = 0 := hZ.1 rfl
            have h : a.tmps[19]?.getD undef = .pointer (some ⟨p, 0, none⟩) := dep_of hD 0 19 (by kernel_rfl) rfl rfl
            have h' : a.tmps[23]?.getD undef = .agg #[.string ⟨d.name.toArray⟩, .int .i64 d.arity, .int .i64 d.super.k, .string ⟨d.super.t.toArray⟩, .int .i64 d.super.o, .slice A1 d.super.kids.len c1, .bool d.conc, .slice F1 d.fields.length x1] := dep_of hD 4 23 (by kernel_rfl) rfl rfl
            obtain ⟨i1, i2, i3, i4, i5, _⟩ := hI
            have hkS : ∀ y, y < w.heap.size → y < wr.heap.size → W.heap[y]? = wr.heap[y]? ∧ HS p b mv (fun x => x = q) y := fun y hy _ => ⟨(Below.block i4 y hy).trans (Below.block HW.out.2 y hy).symm, hiS i1 HQ.out hy⟩
            have hkx := HKF.out.1.keep i5 hkS
            have hfx := HKF.out.2.keep i5 hkS
            have hC := hDeclare V w.heap.size p b _ mv ml (hds (dl.take i)) d A1 F1 c1 x1 W i1 HOk.out HKd.out (Below.size i4) (by have := HLen.out; omega) (by omega) hV1 hkx hfx
            have HC := Lib.hid hC
            have HI5 := Lib.hid (And.intro i1 (And.intro i2 (And.intro i3 (And.intro i4 i5))))
            clear hC hkx hfx hkS i1 i2 i3 i4 i5 hZ hF hD
            go_simp
            refine HC.out.mono ?_
            rintro e u ⟨v', l', rfl, n1, n2⟩
            obtain ⟨i1, i2, i3, i4, i5⟩ := HI5.out
            rw [if_neg (by show ¬ (0 : Nat) = 2; decide)] at i2
            have hq1 : q < W.heap.size := i1.hQ q rfl
            refine ⟨_, rfl, ⟨1, v', l'⟩, ⟨by rw [Hz.out], Nat.le_refl _⟩, ⟨⟨?_, ?_, ?_, ?_, ?_, by show (1 : Nat) ≤ 2; decide⟩, Nat.zero_le _, by show (1 : Nat) ≤ 2; decide⟩, fun j hj _ => ⟨fun e => absurd e hj, fun _ => Nat.le_refl _⟩⟩
            · rw [if_neg (by show ¬ (1 : Nat) = 0; decide)]; exact n1
            · rw [if_neg (by show ¬ (1 : Nat) = 2; decide)]
              exact i2.keep n2.size (fun x hx hl => n2.far hx hl i1.hQ) (n2.block q hq1 (fun e => i1.hnQ.1 e.symm) (fun e => i1.hnQ.2.1 e.symm) (fun e => i1.hnQ.2.2 q e rfl)) (fun h => h.2 rfl)
            · exact i3.keep n2.size fun x hx hl => ⟨(n2.far (hiS i1 HQ.out hx) hl i1.hQ).1, hx⟩
            · exact Below.trans (show Below w.heap.size w W from i4) (n2.below i1 (Below.size i4))
            · exact Nat.le_trans i5 n2.size
          · intro m a W hI hZ hF hD
            have h := same_of hF 6 (by kernel_rfl)
            go_simp
            exact ⟨_, rfl, m, rfl, ⟨hI, Nat.le_refl _, hI.2.2.2.2.2⟩, fun _ _ h => h⟩
          · intro m a W hI hZ hF hD
            have h := same_of hF 0 (by kernel_rfl)
            go_simp
            exact ⟨_, rfl, m, rfl, ⟨hI, Nat.le_refl _, hI.2.2.2.2.2⟩, fun _ _ h => h⟩
          · intro m a W hI hZ hF hD
            have h := same_of hF 7 (by kernel_rfl)
            go_simp
            exact ⟨_, rfl, m, rfl, ⟨hI, Nat.le_refl _, hI.2.2.2.2.2⟩, fun _ _ h => h⟩
          · intro m a W hI hZ hF hD
            have h : a.tmps[26]?.getD undef = .slice (some ⟨g, off, none⟩) L c := dep_of hD 7 26 (by kernel_rfl) rfl rfl
            have h' : a.tmps[27]?.getD undef = .int .i64 (i : Int) := dep_of hD 8 27 (by kernel_rfl) rfl rfl
            go_simp
            exact ⟨_, rfl, m, rfl, ⟨hI, Nat.le_refl _, hI.2.2.2.2.2⟩, fun _ _ h => h⟩
          · intro m a W hI hZ hF hD
            have h : a.tmps[28]?.getD undef = .pointer (some ⟨g, off + i * 8, none⟩) := dep_of hD 9 28 (by kernel_rfl) rfl rfl
            have hbr := @hiB w wr W wr.heap.size p b q dl (some ⟨g, off, none⟩) c (hds (dl.take i)) d m g HW.out hI
            have l0 := hbr p0; have l1 := hbr p1; have l2 := hbr p2; have l3 := hbr p3; have l4 := hbr p4; have l5 := hbr p5; have l6 := hbr p6; have l7 := hbr p7
            clear hbr
            go_simp
            exact ⟨_, rfl, m, rfl, ⟨hI, Nat.le_refl _, hI.2.2.2.2.2⟩, fun _ _ h => h⟩
          · intro m a W hI hZ hF hD
            obtain ⟨mn, mv, ml⟩ := m
            have hm1 : 1 ≤ mn := (show a.tmps[24]?.getD undef = .int .i64 z ∧ 1 ≤ mn from dep_of hD 5 24 (by kernel_rfl) rfl rfl).2
            have hm2 : mn ≤ 1 := hZ.2 rfl
            obtain rfl : mn = 1 := by omega
            have h : a.tmps[25]?.getD undef = .pointer (some ⟨q, 0, none⟩) := dep_of hD 6 25 (by kernel_rfl) rfl rfl
            have h' : a.tmps[29]?.getD undef = .agg #[.string ⟨d.name.toArray⟩, .int .i64 d.arity, .int .i64 d.super.k, .string ⟨d.super.t.toArray⟩, .int .i64 d.super.o, .slice A1 d.super.kids.len c1, .bool d.conc, .slice F1 d.fields.length x1] := dep_of hD 10 29 (by kernel_rfl) rfl rfl
            obtain ⟨i1, i2, i3, i4, i5, _⟩ := hI
            have hkS : ∀ y, y < w.heap.size → y < wr.heap.size → W.heap[y]? = wr.heap[y]? ∧ HS p b mv (fun x => x = q) y := fun y hy _ => ⟨(Below.block i4 y hy).trans (Below.block HW.out.2 y hy).symm, hiS i1 HQ.out hy⟩
            have hkx := HKF.out.1.keep i5 hkS
            have hfx := HKF.out.2.keep i5 hkS
            have hq1 : q < W.heap.size := i1.hQ q rfl
            have hnew : ∀ y, W.heap.size ≤ y → HS p b mv (fun x => x = q) y := fun y hy => ⟨⟨by have := heap_lt i1.blk; omega, by have := i1.map.lt; omega, fun e => by have := (i1.own.lt y e).2; omega⟩, fun e => by omega⟩
            rw [if_neg (by show ¬ (1 : Nat) = 2; decide)] at i2
            rw [if_neg (by show ¬ (1 : Nat) = 0; decide)] at i1
            have hC := rDeclare V (HS p b mv (fun x => x = q)) q (hds (dl.take i)) d A1 F1 c1 x1 W i2 HOk.out HKd.out (by have := HLen.out; omega) hnew hkx hfx
            have HC := Lib.hid hC
            have HI5 := Lib.hid (And.intro i1 (And.intro i3 (And.intro i4 (And.intro i5 hq1))))
            clear hC hkx hfx hkS hnew i1 i2 i3 i4 i5 hq1 hZ hF hD hm1 hm2
            go_simp
            refine HC.out.mono ?_
            rintro e u ⟨rfl, n1, n2⟩
            obtain ⟨i1, i3, i4, i5, hq1⟩ := HI5.out
            refine ⟨_, rfl, ⟨2, mv, ml⟩, ⟨by rw [Hz.out], rfl⟩, ⟨⟨?_, ?_, ?_, ?_, ?_, Nat.le_refl _⟩, by show (1 : Nat) ≤ 2; decide, Nat.le_refl _⟩, fun j hj hz => ⟨fun e => absurd (hz.1 e) (by show ¬ (1 : Nat) = 0; decide), fun e => absurd e hj⟩⟩
            · rw [if_neg (by show ¬ (2 : Nat) = 0; decide)]
              exact i1.keep n2.size (fun x hx hl => ⟨n2.block x hl (by simpa using hx), hx⟩) (fun x hx => by have := n2.size; omega)
            · rw [if_pos (by rfl)]; exact n1
            · exact i3.keep n2.size fun x hx hl => ⟨n2.block x hl (by have := HQ.out; simp; omega), hx⟩
            · exact below_gb_of i4 n2 HQ.out
            · exact Nat.le_trans i5 n2.size
          · intro m a W hI hZ hF hD
            have h := (show a.tmps[24]?.getD undef = .int .i64 z ∧ 1 ≤ m.n from dep_of hD 5 24 (by kernel_rfl) rfl rfl).1
            obtain ⟨h', hm⟩ := (show a.tmps[30]?.getD undef = .int .i64 z ∧ m.n = 2 from dep_of hD 11 30 (by kernel_rfl) rfl rfl)
            have HM := Lib.hid hm
            clear hm
            go_simp
            exact ⟨_, rfl, m, ⟨rfl, HM.out⟩, ⟨hI, Nat.le_refl _, hI.2.2.2.2.2⟩, fun _ _ h => h⟩
        · intro m a W hI hF hN hall
          obtain ⟨h31, hm⟩ := (show a.tmps[31]?.getD undef = .bool false ∧ m.n = 2 from all_of hall 12 31 rfl rfl)
          obtain ⟨i1, i2, i3, i4, _, _⟩ := hI
          rw [if_neg (by omega)] at i1
          rw [if_pos hm] at i2
          rw [← HSucc.out] at i1 i2
          have HR := Lib.hid (show ∃ v l, Hier W w.heap.size p b (fun x => x = q) v l (hds (dl.take (i + 1))) ∧ RHier W (HS p b v (fun x => x = q)) q (hds (dl.take (i + 1))) ∧ DcS W (fun x => x < w.heap.size) dl (some ⟨g, off, none⟩) c ∧ BH w W from ⟨_, _, i1, i2, i3, i4⟩)
          have HA2 := Lib.hid (Frm.act hF)
          have H31 := Lib.hid h31
          clear hm h31 hF hN hall i1 i2 i3 i4
          simp only [Exit.inBlock, Exit.then]
          apply_assumption
          refine Met.intro ?_
          go_step
          (repeat apply Exists.intro)
          refine ⟨?_, HA2.out.trans rfl⟩
          exact ⟨(Array.getD_eq_getD_getElem? ..).trans H31.out, Lib.hid HR.out⟩
      case rest =>
        obtain ⟨rfl, hC⟩ := hcut
        clear p0 p1 p2 p3 p4 p5 p6 p7
        go_wp2_with (fail)
        exact ⟨⟨i + 1, rfl, by omega, hC⟩, by simp; omega⟩
    · have hge : decide ((i : Int) < (L : Int)) = false := by rw [decide_eq_false_iff_not]; omega
      have hge2 : decide (i < L) = false := by rw [decide_eq_false_iff_not]; omega
      have hie : i = L := by omega
      have htk : dl.take i = dl := List.take_of_length_le (by rw [HL.out, hie]; exact Nat.le_refl _)
      rw [htk] at y1 y2 hlen hok
      have HY := Lib.hid (And.intro y1 (And.intro y2 y4))
      have hDh := hDecls_any V w.heap.size p b _ v l (hds dl) wr y1 hok (Below.size y4) (by omega) (by omega) hV1
      have HDh := Lib.hid hDh
      have HLen := Lib.hid hlen
      have HOk := Lib.hid hok
      clear y1 y2 y3 y4 hlen hok hie htk hRd hDh
      go_wp2_with (fail)
      refine HDh.out.mono ?_
      rintro e u3 ⟨A3, c3, rfl, hdc3, hb3⟩
      have HC3 := Lib.hid (And.intro hdc3 hb3)
      have hDr := rDecls_any _ q (hds dl) u3 (HY.out.2.1.bh hb3) (by have := HLen.out; omega)
      have HDr := Lib.hid hDr
      clear hdc3 hb3 hDr
      go_wp2_with (fail)
      refine HDr.out.mono ?_
      rintro e u4 ⟨A4, c4, xs4, rfl, ho4, hx4, hb4⟩
      have hd4 := DcS.own rfl ho4 hx4
      have hE := rDeclsEq_any (hds dl) (hds dl) A3 A4 c3 c4 u4 V V _ _ (HC3.out.1.bh hb4) hd4 HOk.out HOk.out (by have := HLen.out; omega) (by have := HLen.out; omega)
      rw [desB_self] at hE
      have HE := Lib.hid hE
      have HB4 := Lib.hid (BH.trans HC3.out.2 hb4)
      clear ho4 hx4 hb4 hd4 hE
      go_wp2_with (fail)
      refine HE.out.mono ?_
      rintro e u5 ⟨rfl, hb5⟩
      have HB5 := Lib.hid (BH.trans HB4.out hb5)
      clear hb5
      go_wp2_with (fail)
      go_ret3
      exact ⟨p, b, q, v, l, rfl, HY.out.1.bh HB5.out, HY.out.2.1.bh HB5.out, BH.trans HY.out.2.2 HB5.out, HQ.out⟩
end Go.Proofs.YtpkiheenkpcebaaGreatDoor
namespace Go.Proofs.YtpkiheenkpcebaaGreatDoor
open Go.RowKit Sx

/-- the integers of a slice that came in, at a plain address -/
def Ints (w : World) (a : Option Addr) (len : Nat) (zs : List Int) : Prop :=
  0 < len → ∃ g off : Nat, a = some ⟨g, off, none⟩ ∧ g < w.heap.size ∧ ∀ i, i < len → w.cell? ⟨g, off + i, none⟩ = some (.int .i64 (zs.getD i 0))

theorem Ints.keep {w w' : World} {a : Option Addr} {len : Nat} {zs : List Int} (h : Ints w a len zs) (hs : w.heap.size ≤ w'.heap.size) (hk : ∀ g off, a = some ⟨g, off, none⟩ → g < w.heap.size → w'.heap[g]? = w.heap[g]?) : Ints w' a len zs := by
  intro hp
  obtain ⟨g, off, hA, hg, hc⟩ := h hp
  exact ⟨g, off, hA, by omega, fun i hi => (World.cell?_of_block (hk g off hA hg)).trans (hc i hi)⟩

/-- block b is a stream over those integers, k of them read -/
def Strm (w : World) (b : Nat) (a : Option Addr) (len cap : Nat) (zs : List Int) (k : Nat) : Prop :=
  w.heap[b]? = some (.cells #[.slice a len cap, .int .i64 (k : Int)] 98 (0, 0)) ∧ Ints w a len zs ∧ (0 < len → ∀ g off, a = some ⟨g, off, none⟩ → g ≠ b) ∧ k ≤ len ∧ len ≤ maxLen

theorem Strm.lt {w : World} {b : Nat} {a : Option Addr} {len cap : Nat} {zs : List Int} {k : Nat} (h : Strm w b a len cap zs k) : b < w.heap.size := heap_lt h.1

/-- what Next answers -/
def nxt (len : Nat) (zs : List Int) (k : Nat) (m : Int) : Int := if k < len then modI (zs.getD k 0) m else 0
/-- how many are read behind it -/
def nk (len k : Nat) : Nat := if k < len then k + 1 else k
theorem nxt_bounds (len : Nat) (zs : List Int) (k : Nat) (m : Int) (hm : 0 < m) : 0 ≤ nxt len zs k m ∧ nxt len zs k m < m := by
  unfold nxt
  split
  · exact modI_bounds _ m hm
  · omega

set_option maxHeartbeats 1000000 in
theorem next_det (b : Nat) (a : Option Addr) (len cap : Nat) (zs : List Int) (k : Nat) (m : Int) (w : World) (h : Strm w b a len cap zs k) (hm : 0 < m) (hm2 : m ≤ 65536) :
    Calls Tryz.prog 61 #[.pointer (some ⟨b, 0, none⟩), .int .i64 m] w fun e w' => e = .returned (.int .i64 (nxt len zs k m)) ∧ Strm w' b a len cap zs (nk len k) ∧ w.grownBy w' (some b) ∧ w'.heap.size = w.heap.size := by
  obtain ⟨hblk, hints, hab, hk, hl⟩ := h
  obtain ⟨c0, c1, z0, z1⟩ := row2 hblk
  have hb := heap_lt hblk
  by_cases hlt : k < len
  · obtain ⟨g, off, rfl, hg, hc⟩ := hints (by omega)
    have hgb := hab (by omega) g off rfl
    have hml : len ≤ 9223372036854775807 := by have := hl; unfold maxLen at this; omega
    have hcell := hc k hlt
    have hcell' : (w.setCell ⟨b, 1, none⟩ (.int .i64 ((k : Int) + 1))).cell? ⟨g, off + k, none⟩ = some (.int .i64 (zs.getD k 0)) := (World.cell?_of_block (heap_far hgb _)).trans hcell
    have hnx : nxt len zs k m = modI (zs.getD k 0) m := if_pos hlt
    rw [hnx]
    clear hnx
    generalize zs.getD k 0 = z at *
    obtain ⟨hr0, hr1⟩ := modI_bounds z m hm
    have hmo := fun W => mod_any z m W hm hm2
    have Hmo := Lib.hid hmo
    clear hmo
    have hw : wrap64 ((k : Int) + 1) = (k : Int) + 1 := wrap64_in (by omega) (by omega)
    have i1 : ((k : Int) + 1 - 1).toNat = k := by omega
    have t1 : decide (len ≤ k) = false := by simp; omega
    have Hc := Lib.hid hc
    clear hc
    go_enter Tryz.func61, Tryz.ntmps61
    go_wp2_with (fail)
    go_quiet (fail)
    go_wp2_with (fail)
    go_quiet ((go_at_call 22; first | exact quiet_left (Hmo.out _) | exact quiet_add_left (Hmo.out _) | exact quiet_0 (Hmo.out _)))
    go_wp2_with (fail)
    go_ret
    have hset := heap_set (i := 1) hblk (.int .i64 ((k : Int) + 1))
    rw [show nk len k = k + 1 from if_pos hlt]
    refine ⟨rfl, ⟨hset, ?_, hab, hlt, hl⟩, ?_, ?_⟩
    · exact hints.keep (by simp [size_set]) (fun g' off' e _ => heap_far (hab (by omega) g' off' e) _)
    · refine gb_drewN ?_ _
      refine gb_setCell ?_ (.inl rfl) _
      exact gb_drewN (World.grownBy.refl _ _) _
    · simp [size_set]
  · have t1 : decide (len ≤ k) = true := by simp; omega
    go_enter Tryz.func61, Tryz.ntmps61
    go_wp2_with (fail)
    go_quiet (fail)
    go_wp2_with (fail)
    go_ret
    rw [show nk len k = k from if_neg hlt]
    exact ⟨Eq.trans rfl (congrArg (fun x => Ending.returned (.int .i64 x)) (show nxt len zs k m = 0 from if_neg hlt).symm), ⟨hblk, hints, hab, hk, hl⟩, gb_drewN (World.grownBy.refl _ _) _, rfl⟩
theorem new_any (a : Option Addr) (len cap : Nat) (w : World) :
    Calls Tryz.prog 24 #[.slice a len cap] w fun e w' => e = .returned (.pointer (some ⟨w.heap.size, 0, none⟩)) ∧ w' = w.alloc (.cells #[.slice a len cap, .int .i64 0] 98) := by
  go_enter Tryz.func24, Tryz.ntmps24
  go_wp2_with (fail)
  go_ret
  exact ⟨rfl, rfl⟩
end Go.Proofs.YtpkiheenkpcebaaGreatDoor
namespace Go.Proofs.YtpkiheenkpcebaaGreatDoor
open Go.RowKit Sx

/-- a package variable (block v) holds a slice of n strings, each of them one of S -/
structure Tab (w : World) (b v n : Nat) (S : List (List UInt8)) (g o c : Nat) : Prop where
  head : w.cell? ⟨v, 0, none⟩ = some (.slice (some ⟨g, o, none⟩) n c)
  row : ∀ i : Nat, i < n → ∃ s : List UInt8, s ∈ S ∧ w.cell? ⟨g, o + i, none⟩ = some (.string ⟨s.toArray⟩)
  vb : v ≠ b
  gb : g ≠ b
  vlt : v < w.heap.size
  glt : g < w.heap.size
  pos : 0 < n ∧ n ≤ 65536

theorem Tab.keep {w w' : World} {b v n : Nat} {S : List (List UInt8)} {g o c : Nat} (h : Tab w b v n S g o c) (hg : w.grownBy w' (some b)) : Tab w' b v n S g o c :=
  ⟨(World.cell?_of_block (hg.block v h.vlt (by simp; exact h.vb))).trans h.head,
    fun i hi => by
      obtain ⟨s, hs, hc⟩ := h.row i hi
      exact ⟨s, hs, (World.cell?_of_block (hg.block g h.glt (by simp; exact h.gb))).trans hc⟩,
    h.vb, h.gb, Nat.lt_of_lt_of_le h.vlt hg.size, Nat.lt_of_lt_of_le h.glt hg.size, h.pos⟩
theorem Tab.below {w w' : World} {b v n : Nat} {S : List (List UInt8)} {g o c : Nat} (h : Tab w b v n S g o c) (hg : Below w.heap.size w w') : Tab w' b v n S g o c := h.keep (gb_below hg _)
theorem Tab.drew {w : World} {b v n : Nat} {S : List (List UInt8)} {g o c : Nat} (h : Tab w b v n S g o c) : Tab w.drew b v n S g o c := ⟨h.1, h.2, h.3, h.4, h.5, h.6, h.7⟩

theorem Strm.keep {w w' : World} {b : Nat} {a : Option Addr} {len cap : Nat} {zs : List Int} {k : Nat} (h : Strm w b a len cap zs k) (hg : Below w.heap.size w w') : Strm w' b a len cap zs k :=
  ⟨(hg.block b h.lt).trans h.1, h.2.1.keep hg.size (fun g off e hl => hg.block g hl), h.2.2⟩
theorem Strm.drew {w : World} {b : Nat} {a : Option Addr} {len cap : Nat} {zs : List Int} {k : Nat} (h : Strm w b a len cap zs k) : Strm w.drew b a len cap zs k := ⟨h.1, h.2.1, h.2.2⟩

/-- the stream and the two tables; bundle: all that AnyNode reads -/
structure Gen (w : World) (b : Nat) (a : Option Addr) (len cap : Nat) (zs : List Int) (W T : List (List UInt8)) (gw ow cw gs ot cs : Nat) : Prop where
  st : ∃ k, Strm w b a len cap zs k
  words : Tab w b 2 16 W gw ow cw
  strs : Tab w b 1 6 T gs ot cs

section
variable {w w' : World} {b : Nat} {a : Option Addr} {len cap : Nat} {zs : List Int} {W T : List (List UInt8)} {gw ow cw gs ot cs : Nat}
theorem Gen.below (h : Gen w b a len cap zs W T gw ow cw gs ot cs) (hg : Below w.heap.size w w') : Gen w' b a len cap zs W T gw ow cw gs ot cs :=
  ⟨h.st.imp fun _ hk => hk.keep hg, h.words.below hg, h.strs.below hg⟩
theorem Gen.drew (h : Gen w b a len cap zs W T gw ow cw gs ot cs) : Gen w.drew b a len cap zs W T gw ow cw gs ot cs := ⟨h.st.imp fun _ hk => hk.drew, h.words.drew, h.strs.drew⟩
theorem Gen.lt (h : Gen w b a len cap zs W T gw ow cw gs ot cs) : b < w.heap.size := h.st.elim fun _ hk => hk.lt

/-- what came in keeps it all: only blocks that came in are read -/
theorem Gen.old {w0 : World} (h0 : Gen w0 b a len cap zs W T gw ow cw gs ot cs) (h : Gen w b a len cap zs W T gw ow cw gs ot cs) (hs : w.heap.size ≤ w'.heap.size) (hk : ∀ x, x < w0.heap.size → w'.heap[x]? = w.heap[x]?) : Gen w' b a len cap zs W T gw ow cw gs ot cs := by
  have tab : ∀ {v n : Nat} {S : List (List UInt8)} {g o c : Nat}, Tab w0 b v n S g o c → Tab w b v n S g o c → Tab w' b v n S g o c := fun t0 t =>
    ⟨(World.cell?_of_block (hk _ t0.vlt)).trans t.head, fun i hi => by
      obtain ⟨s, hs, hc⟩ := t.row i hi
      exact ⟨s, hs, (World.cell?_of_block (hk _ t0.glt)).trans hc⟩, t.vb, t.gb, Nat.lt_of_lt_of_le t.vlt hs, Nat.lt_of_lt_of_le t.glt hs, t.pos⟩
  refine ⟨?_, tab h0.words h.words, tab h0.strs h.strs⟩
  obtain ⟨k, hblk, hints, hr⟩ := h.st
  obtain ⟨k0, hblk0, hints0, hr0⟩ := h0.st
  refine ⟨k, (hk b (heap_lt hblk0)).trans hblk, ?_, hr⟩
  intro hp
  obtain ⟨g, off, e, hl, hc⟩ := hints hp
  obtain ⟨g', off', e', hl', _⟩ := hints0 hp
  rw [e] at e'
  cases e'
  exact ⟨g, off, e, by omega, fun i hi => (World.cell?_of_block (hk g hl')).trans (hc i hi)⟩

/-- Next, any modulus -/
theorem next_gen (m : Int) (h : Gen w b a len cap zs W T gw ow cw gs ot cs) (hm : 0 < m) (hm2 : m ≤ 65536) :
    Calls Tryz.prog 61 #[.pointer (some ⟨b, 0, none⟩), .int .i64 m] w fun e w' => ∃ r, e = .returned (.int .i64 r) ∧ 0 ≤ r ∧ r < m ∧ Gen w' b a len cap zs W T gw ow cw gs ot cs ∧ w.grownBy w' (some b) ∧ w'.heap.size = w.heap.size := by
  obtain ⟨⟨k, hk⟩, h1, h2⟩ := h
  refine (next_det b a len cap zs k m w hk hm hm2).mono ?_
  rintro e w' ⟨he, hs, hg, hz⟩
  obtain ⟨hr0, hr1⟩ := nxt_bounds len zs k m hm
  exact ⟨_, he, hr0, hr1, ⟨⟨_, hs⟩, h1.keep hg, h2.keep hg⟩, hg, hz⟩

/-- the world behind: grown by the stream's block -/
structure Behind (w w' : World) (b : Nat) (a : Option Addr) (len cap : Nat) (zs : List Int) (W T : List (List UInt8)) (gw ow cw gs ot cs : Nat) : Prop where
  gen : Gen w' b a len cap zs W T gw ow cw gs ot cs
  gb : w.grownBy w' (some b)
  size : w'.heap.size = w.heap.size

theorem row4_after {N : Nat} {t : TypeId} {x y z u : Value} (hg : w.grownBy w' (some b)) (hN : w.heap[N]? = some (.cells #[x, y, z, u] t (0, 0))) (hne : N ≠ b) : w'.heap[N]? = some (.cells #[x, y, z, u] t (0, 0)) :=
  (hg.block N (heap_lt hN) (by simp; exact hne)).trans hN

/-- what the next draw of a table's length takes: known ahead of it -/
theorem Gen.ahead {n v g o c : Nat} {S : List (List UInt8)} (h : Gen w b a len cap zs W T gw ow cw gs ot cs) (hT : Tab w b v n S g o c) (m : Int) (hm : (n : Int) = m) :
    ∃ (r : Nat) (s : List UInt8), (0 : Int) ≤ (r : Int) ∧ (r : Int) < m ∧ s ∈ S ∧ w.cell? ⟨g, o + r, none⟩ = some (.string ⟨s.toArray⟩) ∧
      ∀ {N : Nat} {t : TypeId} {x y z u : Value} (hN : w.heap[N]? = some (.cells #[x, y, z, u] t (0, 0))) (hne : N ≠ b), Calls Tryz.prog 61 #[.pointer (some ⟨b, 0, none⟩), .int .i64 m] w.drew fun e w' => e = .returned (.int .i64 (r : Int)) ∧ 
      w'.cell? ⟨g, o + r, none⟩ = some (.string ⟨s.toArray⟩) ∧ w'.cell? ⟨v, 0, none⟩ = some (.slice (some ⟨g, o, none⟩) n c) ∧
      w'.cell? ⟨N, 0, none⟩ = some x ∧ w'.cell? ⟨N, 1, none⟩ = some y ∧ w'.cell? ⟨N, 2, none⟩ = some z ∧ w'.cell? ⟨N, 3, none⟩ = some u ∧
      w'.frozen? ⟨N, 0, none⟩ = false ∧ w'.frozen? ⟨N, 1, none⟩ = false ∧ w'.frozen? ⟨N, 2, none⟩ = false ∧ w'.frozen? ⟨N, 3, none⟩ = false ∧ Behind w w' b a len cap zs W T gw ow cw gs ot cs := by
  obtain ⟨⟨k, hk⟩, h1, h2⟩ := h
  have hp := hT.pos
  obtain ⟨hr0, hr1⟩ := nxt_bounds len zs k m (by omega)
  obtain ⟨r, hr⟩ := Int.eq_ofNat_of_zero_le hr0
  obtain ⟨s, hs, hc⟩ := hT.row r (by omega)
  refine ⟨r, s, by omega, by omega, hs, hc, ?_⟩
  intro N t x y z u hN hne
  have hG : Gen w.drew b a len cap zs W T gw ow cw gs ot cs := Gen.drew ⟨⟨k, hk⟩, h1, h2⟩
  refine (next_det b a len cap zs k m w.drew hk.drew (by omega) (by omega)).mono ?_
  rintro e w' ⟨he, hs', hg, hz⟩
  have hg' : w.grownBy w' (some b) := gb_trans (gb_drew (World.grownBy.refl _ _) ) hg
  have hT' := hT.keep hg'
  obtain ⟨d0, d1, d2, d3, y0, y1, y2, y3⟩ := row4 (row4_after hg' hN hne)
  refine ⟨by rw [he, hr], ?_, hT'.head, d0, d1, d2, d3, y0, y1, y2, y3, ⟨⟨_, hs'⟩, h1.keep hg', h2.keep hg'⟩, hg', hz⟩
  exact (World.cell?_of_block (hg'.block g hT.glt (by simp; exact hT.gb))).trans hc
end
end Go.Proofs.YtpkiheenkpcebaaGreatDoor
