/- (*Hierarchy).Declare of a declaration with fields. No condition but bounded sizes. Lists of declarations with fields in memory. No condition. -/
import Derived.Test.YtpkiheenkpcebaaGreatDoorMaq
import Derived.Test.YtpkiheenkpcebaaGreatDoorMar
import Derived.Test.YtpkiheenkpcebaaGreatDoorMat
import Derived.BigQuiet
import Derived.Test.YtpkiheenkpcebaaGreatDoorMag
set_option linter.unusedVariables false
set_option linter.unusedSimpArgs false
namespace Go.Proofs.YtpkiheenkpcebaaGreatDoor.Sx
def concB (ds : List De) (t : List UInt8) : Bool := match findD ds t with | some d => d.conc | none => false
/-- what Declare answers -/
def declE (ds : List De) (d : De) : Int :=
  if vdB d = false then 2 else if 6 < d.arity ∨ 6 < d.fields.length then 4 else
  match findD ds d.name with
  | some k => if deB k d = true then 0 else 6
  | none => if 60 ≤ ds.length then 8 else if (ev1 (dcB ds) d.super.k d.super.t d.super.kids && kfB ds d.name d.arity d.fields) = false then 5 else if concB ds d.super.t = true then 10 else 0
/-- what it leaves -/
def declD (ds : List De) (d : De) : List De := if declE ds d = 0 ∧ findD ds d.name = none then ds ++ [d] else ds
end Go.Proofs.YtpkiheenkpcebaaGreatDoor.Sx
namespace Go.Proofs.YtpkiheenkpcebaaGreatDoor
open Go.RowKit Sx

def dcW (p b gN : Nat) (U : Array Value) (fnd : Bool) (t : List UInt8) (m : Option (Nat × Bool)) (j : Nat) (v : Value) (w : World) : Prop :=
  match j with
  | 0 => v = .pointer (some ⟨p, 0, none⟩)
  | 1 => v = .pointer (some ⟨p, 0, none⟩)
  | 2 => v = .pointer (some ⟨p, 1, none⟩)
  | 3 => v = .map (some b)
  | 4 => v = .pointer (some ⟨gN, 0, none⟩)
  | 5 => v = .string ⟨t.toArray⟩
  | 6 => v = .tuple #[.agg U, .bool fnd]
  | 7 => v = .tuple #[.agg U, .bool fnd]
  | 8 => v = .agg U
  | 9 => v = .bool fnd
  | 10 => ∃ g s, v = .pointer (some ⟨g, 0, none⟩) ∧ m = some (g, s)
  | 11 => ∃ g, m = some (g, true)
  | _ => v = .bool fnd
theorem dcW_T {p b gN : Nat} {U : Array Value} {fnd : Bool} {t : List UInt8} {W : World} (m m' : Option (Nat × Bool)) (j : Nat) (v : Value) (w w' : World) (h : dcW p b gN U fnd t m j v w) (hT : lkT W U m w m' w') : dcW p b gN U fnd t m' j v w' := by
  unfold dcW at *
  split at h
  all_goals first
    | exact h
    | (obtain ⟨g, s, e, hm⟩ := h; rcases hT.2 g s hm with h | h; exact ⟨g, s, e, h⟩; exact ⟨g, true, e, h⟩)
    | (obtain ⟨g, hm⟩ := h; rcases hT.2 g true hm with h | h; exact ⟨g, h⟩; exact ⟨g, h⟩)


theorem fieldConc (W : World) (a b c d e f : Value) (q : Bool) (g : Value) : (Instr.field 37 (.agg #[a, b, c, d, e, f, .bool q, g]) 3).run Tryz.prog W = .ok (.bool q) W := by
  have hu := Tryz.underlying37
  unfold Instr.field
  simp [run_underlying hu, asAgg, go_sem]
/-- Declare, at what the look-up has found: n1 .. q1, found or not -/
def DeclPost (B p b : Nat) (Q : Nat → Prop) (v : Value) (l : List (List UInt8 × Value)) (ds : List De) (d : De) (w : World) (e : Ending) (w' : World) : Prop :=
  ∃ v' l', e = .returned (.int .i64 (declE ds d)) ∧ Hier w' B p b Q v' l' (declD ds d) ∧ KH p b v v' w w'
theorem DeclPost.same {B p b : Nat} {Q : Nat → Prop} {v : Value} {l : List (List UInt8 × Value)} {ds : List De} {d : De} {w w' : World} (H : Hier w B p b Q v l ds) (hb : BH w w') {x : Int} (hx : declE ds d = x) (hd : declD ds d = ds) : DeclPost B p b Q v l ds d w (.returned (.int .i64 x)) w' :=
  ⟨v, l, by rw [hx], by rw [hd]; exact H.bh hb, KH.bh hb⟩

theorem DeclPost.err {B p b : Nat} {Q : Nat → Prop} {v : Value} {l : List (List UInt8 × Value)} {ds : List De} {d : De} {w w' : World} (H : Hier w B p b Q v l ds) (hb : BH w w') {x : Int} (hx : declE ds d = x) (h0 : x ≠ 0) : DeclPost B p b Q v l ds d w (.returned (.int .i64 x)) w' :=
  DeclPost.same H hb hx (by rw [declD, if_neg (fun h => h0 (hx.symm.trans h.1))])

set_option maxHeartbeats 16000000 in
set_option maxRecDepth 100000 in
theorem hDeclare_of (V : Int) (B p b : Nat) (Q : Nat → Prop) (v : Value) (l : List (List UInt8 × Value)) (ds : List De) (n : List UInt8) (ar k o : Int) (t : List UInt8) (kids : Fo) (cc : Bool) (fs : List (List UInt8 × Tm)) (M : Nat) (hM : fs.length = M) (A F : Option Addr) (c x : Nat) (w : World) (H : Hier w B p b Q v l ds) (hBw : B ≤ w.heap.size) (hlen : ds.length ≤ 1000) (hok : OkD V ⟨n, ar, ⟨k, t, kids, o⟩, cc, fs⟩)
    (hV0 : 0 ≤ V) (hV1 : V ≤ 1152921504606846976) (hK : KS w (HS p b v Q) kids A c) (hFl : FlS w (HS p b v Q) fs F x)
    (n1 : List UInt8) (r1 k1 o1 : Int) (t1 : List UInt8) (A1 : Option Addr) (f1s : Fo) (c1 : Nat) (q1 : Bool) (fs1 : List (List UInt8 × Tm)) (M1 : Nat) (F1 : Option Addr) (xk : Nat) (fnd : Bool)
    (hlook : lookV (getM l n) true (.agg #[.string ⟨#[]⟩, .int .i64 0, .int .i64 0, .string ⟨#[]⟩, .int .i64 0, .slice none 0 0, .bool false, .slice none 0 0]) = .tuple #[.agg #[.string ⟨n1.toArray⟩, .int .i64 r1, .int .i64 k1, .string ⟨t1.toArray⟩, .int .i64 o1, .slice A1 f1s.len c1, .bool q1, .slice F1 M1 xk], .bool fnd])
    (hfy : fnd = true → findD ds n = some ⟨n1, r1, ⟨k1, t1, f1s, o1⟩, q1, fs1⟩ ∧ KT w f1s A1 c1 ∧ fs1.length = M1 ∧ FlS w (HS p b v Q) fs1 F1 xk ∧ OkD V ⟨n1, r1, ⟨k1, t1, f1s, o1⟩, q1, fs1⟩) (hfn : fnd = false → findD ds n = none) :
    Calls Tryz.prog 16 #[.pointer (some ⟨p, 0, none⟩), .agg #[.string ⟨n.toArray⟩, .int .i64 ar, .int .i64 k, .string ⟨t.toArray⟩, .int .i64 o, .slice A kids.len c, .bool cc, .slice F M x]] w (DeclPost B p b Q v l ds ⟨n, ar, ⟨k, t, kids, o⟩, cc, fs⟩ w) := by
  have e1 := heap_alloc_new w (.cells #[.string ⟨n.toArray⟩, .int .i64 ar, .int .i64 k, .string ⟨t.toArray⟩, .int .i64 o, .slice A kids.len c, .bool cc, .slice F M x] 37)
  have f1 := bh_alloc (BH.refl w) (.cells #[.string ⟨n.toArray⟩, .int .i64 ar, .int .i64 k, .string ⟨t.toArray⟩, .int .i64 o, .slice A kids.len c, .bool cc, .slice F M x] 37)
  have HE := Lib.hid (And.intro e1 f1)
  have HL := Lib.hid hlook
  have HH := Lib.hid H
  have HK := Lib.hid (And.intro hK hFl)
  have HOk := Lib.hid hok
  have hn : n.length ≤ 1048576 := hok.1
  have hN : fsize kids ≤ 1073741824 := hok.2.1.1
  have htl : t.length ≤ 1048576 := hok.2.1.2.1
  have HLt := Lib.hid (show lenT kids from hok.2.1.2.2.1)
  have hMl : M ≤ 1048576 := by rw [← hM]; exact hok.2.2.1
  have HM := Lib.hid hM
  have HFy := Lib.hid hfy
  have HFn := Lib.hid hfn
  have ht := hn
  clear e1 f1 hlook H hK hFl hok hM hfy hfn
  go_enter Tryz.func16, Tryz.ntmps16
  go_upto_region 1 with (fail)
  refine gen_wp _ (fun X => X.heap[w.heap.size]? = some (.cells #[.string ⟨n.toArray⟩, .int .i64 ar, .int .i64 k, .string ⟨t.toArray⟩, .int .i64 o, .slice A kids.len c, .bool cc, .slice F M x] 37 (0, 0)) ∧ BH w X) HE.out ?_
  rintro X1 ⟨x1, x2⟩
  obtain ⟨gN, hgN⟩ : ∃ gN, w.heap.size = gN := ⟨_, rfl⟩
  rw [hgN] at x1 ⊢
  have HX := Lib.hid (And.intro x1 x2)
  have HX1 := Lib.hid (HH.out.bh x2)
  clear hgN x1 x2 HE
  have HLk : Hid (∀ X, BH X1 X → (Instr.lookup 75 (.map (some b)) (.string ⟨n.toArray⟩) true).run Tryz.prog X = .ok (.tuple #[.agg #[.string ⟨n1.toArray⟩, .int .i64 r1, .int .i64 k1, .string ⟨t1.toArray⟩, .int .i64 o1, .slice A1 f1s.len c1, .bool q1, .slice F1 M1 xk], .bool fnd]) X) := Lib.hid fun X hX => by
    rw [← HL.out]
    exact MapL.look (HX1.out.bh hX).map Tryz.underlying9 Tryz.underlying75 (zeroDecl X) (by unfold maxLen; omega) true
  go_cut [5, 6] (fun s5 s6 wx => ∃ g5, s5 = .pointer (some ⟨g5, 0, none⟩) ∧ s6 = .bool fnd ∧ Hid (BH X1 wx ∧ wx.heap[g5]? = some (.cells #[.string ⟨n1.toArray⟩, .int .i64 r1, .int .i64 k1, .string ⟨t1.toArray⟩, .int .i64 o1, .slice A1 f1s.len c1, .bool q1, .slice F1 M1 xk] 37 (0, 0))))
  case first =>
    obtain ⟨RR, hRR⟩ : ∃ RR : Act → World → Prop, RR = (fun (a : Act) W => Hid (∃ g5, a.tmps.getD 5 undef = .pointer (some ⟨g5, 0, none⟩) ∧ a.tmps.getD 6 undef = .bool fnd ∧ BH X1 W ∧ W.heap[g5]? = some (.cells #[.string ⟨n1.toArray⟩, .int .i64 r1, .int .i64 k1, .string ⟨t1.toArray⟩, .int .i64 o1, .slice A1 f1s.len c1, .bool q1, .slice F1 M1 xk] 37 (0, 0)))) := ⟨_, rfl⟩
    refine wp_region_ghost (by kernel_rfl) (dcW p b gN #[.string ⟨n1.toArray⟩, .int .i64 r1, .int .i64 k1, .string ⟨t1.toArray⟩, .int .i64 o1, .slice A1 f1s.len c1, .bool q1, .slice F1 M1 xk] fnd n) (lkI X1 #[.string ⟨n1.toArray⟩, .int .i64 r1, .int .i64 k1, .string ⟨t1.toArray⟩, .int .i64 o1, .slice A1 f1s.len c1, .bool q1, .slice F1 M1 xk]) (lkT X1 #[.string ⟨n1.toArray⟩, .int .i64 r1, .int .i64 k1, .string ⟨t1.toArray⟩, .int .i64 o1, .slice A1 f1s.len c1, .bool q1, .slice F1 M1 xk]) (fun j m => j = 10 → m = none) none ⟨below_drew X1, fun g h => (by cases h), fun g h => (by cases h)⟩ (fun _ _ => rfl) (fun _ _ _ _ _ h => h.1) dcW_T (by kernel_rfl) ?_ ?_
    · refine ⟨?_, ?_, ?_, ?_, ?_, ?_, ?_, ?_, ?_, ?_, ?_, ?_, ?_, trivial⟩
      · intro m a W hI _ hF hD
        have h := same_of hF 0 (by kernel_rfl)
        go_simp
        exact ⟨_, rfl, m, rfl, lkT_refl hI (BH.refl _), fun _ _ h => h⟩
      · intro m a W hI _ hF hD
        have h : a.tmps[8]?.getD undef = .pointer (some ⟨p, 0, none⟩) := dep_of hD 0 8 (by kernel_rfl) rfl rfl
        go_simp
        exact ⟨_, rfl, m, rfl, lkT_refl hI (BH.refl _), fun _ _ h => h⟩
      · intro m a W hI _ hF hD
        have h : a.tmps[9]?.getD undef = .pointer (some ⟨p, 0, none⟩) := dep_of hD 1 9 (by kernel_rfl) rfl rfl
        go_simp
        exact ⟨_, rfl, m, rfl, lkT_refl hI (BH.refl _), fun _ _ h => h⟩
      · intro m a W hI _ hF hD
        have h : a.tmps[10]?.getD undef = .pointer (some ⟨p, 1, none⟩) := dep_of hD 2 10 (by kernel_rfl) rfl rfl
        obtain ⟨s0, s1, _⟩ := row2 (HX1.out.bh hI.1).blk
        go_simp
        exact ⟨_, rfl, m, rfl, lkT_refl hI (BH.refl _), fun _ _ h => h⟩
      · intro m a W hI _ hF hD
        have h := same_of hF 3 (by kernel_rfl)
        go_simp
        exact ⟨_, rfl, m, rfl, lkT_refl hI (BH.refl _), fun _ _ h => h⟩
      · intro m a W hI _ hF hD
        have h : a.tmps[12]?.getD undef = .pointer (some ⟨gN, 0, none⟩) := dep_of hD 4 12 (by kernel_rfl) rfl rfl
        obtain ⟨⟨y0, y1, y2, y3, y4, y5, y6, y7⟩, _⟩ := row8 ((Below.block hI.1 _ (heap_lt HX.out.1)).trans HX.out.1)
        go_simp
        exact ⟨_, rfl, m, rfl, lkT_refl hI (BH.refl _), fun _ _ h => h⟩
      · intro m a W hI _ hF hD
        have h : a.tmps[11]?.getD undef = .map (some b) := dep_of hD 3 11 (by kernel_rfl) rfl rfl
        have h' : a.tmps[13]?.getD undef = .string ⟨n.toArray⟩ := dep_of hD 5 13 (by kernel_rfl) rfl rfl
        have hrun := HLk.out W hI.1
        go_simp
        exact ⟨_, rfl, m, rfl, lkT_refl hI (BH.refl _), fun _ _ h => h⟩
      · intro m a W hI _ hF hD
        have h : a.tmps[14]?.getD undef = .tuple #[.agg #[.string ⟨n1.toArray⟩, .int .i64 r1, .int .i64 k1, .string ⟨t1.toArray⟩, .int .i64 o1, .slice A1 f1s.len c1, .bool q1, .slice F1 M1 xk], .bool fnd] := dep_of hD 6 14 (by kernel_rfl) rfl rfl
        go_simp
        exact ⟨_, rfl, m, rfl, lkT_refl hI (BH.refl _), fun _ _ h => h⟩
      · intro m a W hI _ hF hD
        have h : a.tmps[7]?.getD undef = .tuple #[.agg #[.string ⟨n1.toArray⟩, .int .i64 r1, .int .i64 k1, .string ⟨t1.toArray⟩, .int .i64 o1, .slice A1 f1s.len c1, .bool q1, .slice F1 M1 xk], .bool fnd] := dep_of hD 7 7 (by kernel_rfl) rfl rfl
        go_simp
        exact ⟨_, rfl, m, rfl, lkT_refl hI (BH.refl _), fun _ _ h => h⟩
      · intro m a W hI _ hF hD
        have h : a.tmps[7]?.getD undef = .tuple #[.agg #[.string ⟨n1.toArray⟩, .int .i64 r1, .int .i64 k1, .string ⟨t1.toArray⟩, .int .i64 o1, .slice A1 f1s.len c1, .bool q1, .slice F1 M1 xk], .bool fnd] := dep_of hD 7 7 (by kernel_rfl) rfl rfl
        go_simp
        exact ⟨_, rfl, m, rfl, lkT_refl hI (BH.refl _), fun _ _ h => h⟩
      · intro m a W hI hZ hF hD
        obtain rfl : m = none := hZ rfl
        go_simp
        exact ⟨_, rfl, some (W.heap.size, false), ⟨_, _, rfl, rfl⟩, lk_alloc hI, fun j hj e => absurd e hj⟩
      · intro m a W hI hZ hF hD
        obtain ⟨g, s, h5, rfl⟩ : ∃ g s, a.tmps[5]?.getD undef = .pointer (some ⟨g, 0, none⟩) ∧ m = some (g, s) := dep_of hD 10 5 (by kernel_rfl) rfl rfl
        have h15 : a.tmps[15]?.getD undef = .agg #[.string ⟨n1.toArray⟩, .int .i64 r1, .int .i64 k1, .string ⟨t1.toArray⟩, .int .i64 o1, .slice A1 f1s.len c1, .bool q1, .slice F1 M1 xk] := dep_of hD 8 15 (by kernel_rfl) rfl rfl
        obtain ⟨y0, y1, y2, y3, y4, y5, y6, y7, hg, hblk⟩ : ∃ y0 y1 y2 y3 y4 y5 y6 y7, X1.heap.size ≤ g ∧ W.heap[g]? = some (.cells #[y0, y1, y2, y3, y4, y5, y6, y7] 37 (0, 0)) := by
          cases s with
          | false => exact ⟨_, _, _, _, _, _, _, _, hI.2.1 g rfl⟩
          | true => exact ⟨_, _, _, _, _, _, _, _, hI.2.2 g rfl⟩
        obtain ⟨⟨h0, h1, h2, h3, h4, h5', h6, h7⟩, z0, z1, z2, z3, z4, z5, z6, z7⟩ := row8 hblk
        have hfin := s8 hblk (.string ⟨n1.toArray⟩) (.int .i64 r1) (.int .i64 k1) (.string ⟨t1.toArray⟩) (.int .i64 o1) (.slice A1 f1s.len c1) (.bool q1) (.slice F1 M1 xk)
        have hbs := below_gb_of (BH.refl X1) (s8_gb (gb_below hI.1 (some g)) hg (.string ⟨n1.toArray⟩) (.int .i64 r1) (.int .i64 k1) (.string ⟨t1.toArray⟩) (.int .i64 o1) (.slice A1 f1s.len c1) (.bool q1) (.slice F1 M1 xk)) hg
        have HFin := Lib.hid (And.intro hfin hbs)
        clear hfin hbs hblk hD hF
        go_simp
        exact ⟨.bool true, some (g, true), ⟨g, rfl⟩, ⟨⟨HFin.out.2, fun g' h => (by cases h), fun g' h => (by cases h; exact ⟨hg, HFin.out.1⟩)⟩, fun g' s' e => (by cases e; exact .inr rfl)⟩, fun j hj hz e => absurd (hz e) (by simp)⟩
      · intro m a W hI _ hF hD
        have h : a.tmps[16]?.getD undef = .bool fnd := dep_of hD 9 16 (by kernel_rfl) rfl rfl
        go_simp
        exact ⟨_, rfl, m, rfl, lkT_refl hI (BH.refl _), fun _ _ h => h⟩
    · intro m a W hI hF hN hall
      obtain ⟨g, s, h5, hm⟩ : ∃ g s, a.tmps[5]?.getD undef = .pointer (some ⟨g, 0, none⟩) ∧ m = some (g, s) := all_of hall 10 5 rfl rfl
      have h6 : a.tmps[6]?.getD undef = .bool fnd := all_of hall 12 6 rfl rfl
      obtain ⟨_, g', hm'⟩ : ∃ v : Value, ∃ g', m = some (g', true) := hN 11 _ rfl rfl
      have hgg : g' = g := by rw [hm'] at hm; cases hm; rfl
      have HR := Lib.hid (And.intro h5 (And.intro h6 (And.intro hI.1 (hI.2.2 g (by rw [hm', hgg])).2)))
      have HA := Lib.hid (Frm.act hF)
      clear h5 h6 hm hm' hgg hF hI hN hall hRR
      simp only [Exit.inBlock, Exit.then]
      apply_assumption
      refine Met.intro ?_
      go_step
      (repeat apply Exists.intro)
      refine ⟨?rela, ?eqa⟩
      case eqa => exact HA.out.trans rfl
      exact ⟨g, (Array.getD_eq_getD_getElem? ..).trans HR.out.1, (Array.getD_eq_getD_getElem? ..).trans HR.out.2.1, Lib.hid HR.out.2.2⟩
  case rest =>
    obtain ⟨g5, rfl, rfl, hC⟩ := hcut
    have HFF : Hid (∀ Y, BH wc Y → Hier Y B p b Q v l ds ∧ Y.heap[gN]? = some (.cells #[.string ⟨n.toArray⟩, .int .i64 ar, .int .i64 k, .string ⟨t.toArray⟩, .int .i64 o, .slice A kids.len c, .bool cc, .slice F M x] 37 (0, 0)) ∧ Y.heap[g5]? = some (.cells #[.string ⟨n1.toArray⟩, .int .i64 r1, .int .i64 k1, .string ⟨t1.toArray⟩, .int .i64 o1, .slice A1 f1s.len c1, .bool q1, .slice F1 M1 xk] 37 (0, 0)) ∧ (KS Y (HS p b v Q) kids A c ∧ FlS Y (HS p b v Q) fs F x) ∧ BH w Y) := Lib.hid fun Y hY => by
      have h1 := BH.trans hC.out.1 hY
      exact ⟨HX1.out.bh h1, (Below.block h1 _ (heap_lt HX.out.1)).trans HX.out.1, (Below.block hY _ (heap_lt hC.out.2)).trans hC.out.2, ⟨HK.out.1.bh (BH.trans HX.out.2 h1), HK.out.2.bh (BH.trans HX.out.2 h1)⟩, BH.trans HX.out.2 h1⟩
    obtain ⟨vd, hvd⟩ : ∃ vd, vdB ⟨n, ar, ⟨k, t, kids, o⟩, cc, fs⟩ = vd := ⟨_, rfl⟩
    have HV : Hid (∀ Y, BH wc Y → Calls Tryz.prog 51 #[.agg #[.string ⟨n.toArray⟩, .int .i64 ar, .int .i64 k, .string ⟨t.toArray⟩, .int .i64 o, .slice A kids.len c, .bool cc, .slice F M x]] Y fun e u => e = .returned (.bool vd) ∧ BH Y u) := Lib.hid fun Y hY => by
      have h := hValid V ⟨n, ar, ⟨k, t, kids, o⟩, cc, fs⟩ A F c x Y _ HOk.out (HFF.out Y hY).2.2.2.1.1.kt (HFF.out Y hY).2.2.2.1.2
      simp only [HM.out] at h
      refine h.mono ?_
      rintro e u ⟨rfl, hb⟩
      exact ⟨by rw [hvd], hb⟩
    have HVd := Lib.hid hvd
    obtain ⟨⟨r0, r1', r2, r3, r4, r5, r6, r7⟩, _⟩ := row8 (HFF.out wc (BH.refl _)).2.1
    clear hC hvd
    go_wp2_with (fail)
    refine (HV.out _ (BH.refl _)).mono ?_
    rintro e u1 ⟨rfl, hb⟩
    have HB := Lib.hid hb
    clear hb r0 r1' r2 r3 r4 r5 r6 r7 HV
    cases vd with
    | false =>
      go_wp2_with (fail)
      go_ret
      exact DeclPost.err HH.out (HFF.out _ HB.out).2.2.2.2 (by rw [declE, if_pos HVd.out]) (by decide)
    | true =>
      have hvt : ¬ vdB ⟨n, ar, ⟨k, t, kids, o⟩, cc, fs⟩ = false := by rw [HVd.out]; simp
      have Hvt := Lib.hid hvt
      clear hvt
      obtain ⟨⟨r0, r1', r2, r3, r4, r5, r6, r7⟩, _⟩ := row8 (HFF.out u1 HB.out).2.1
      by_cases h6 : 6 < ar
      · have t1 : decide (6 < ar) = true := by simpa using h6
        have H6 := Lib.hid h6
        clear h6
        go_wp2_with (fail)
        go_ret
        exact DeclPost.err HH.out (HFF.out _ HB.out).2.2.2.2 (by rw [declE, if_neg (by rw [HVd.out]; simp), if_pos (.inl (show 6 < ar by have := H6.out; omega))]) (by decide)
      · by_cases m6 : 6 < M
        · have t0 : decide (6 < ar) = false := by simpa using h6
          have t1 : decide ((6 : Int) < (M : Int)) = true := by rw [decide_eq_true_eq]; omega
          have t1n : decide (6 < M) = true := by simpa using m6
          have H6 := Lib.hid m6
          clear h6 m6
          go_wp2_with (fail)
          go_ret
          exact DeclPost.err HH.out (HFF.out _ HB.out).2.2.2.2 (by rw [declE, if_neg (by rw [HVd.out]; simp), if_pos (.inr (show 6 < fs.length by rw [HM.out]; exact H6.out))]) (by decide)
        have t1m : decide ((6 : Int) < (M : Int)) = false := by rw [decide_eq_false_iff_not]; omega
        have t1mn : decide (6 < M) = false := by simpa using m6
        have HM6 : Hid (¬ (6 < ar ∨ 6 < fs.length)) := Lib.hid (by rw [HM.out]; exact fun h => h.elim h6 m6)
        clear m6
        have t1' : decide (6 < ar) = false := by simpa using h6
        have H6 := Lib.hid h6
        clear h6
        obtain ⟨⟨s0, s1, s2, s3, s4, s5, s6, s7⟩, _⟩ := row8 (HFF.out u1 HB.out).2.2.1
        cases fnd with
        | true =>
          obtain ⟨hf, hkt, hm1, hfl1, hok1⟩ := HFy.out (by first | rfl | trivial)
          obtain ⟨sd, hsd⟩ : ∃ sd, deB ⟨n1, r1, ⟨k1, t1, f1s, o1⟩, q1, fs1⟩ ⟨n, ar, ⟨k, t, kids, o⟩, cc, fs⟩ = sd := ⟨_, rfl⟩
          have hS := hSame V V ⟨n1, r1, ⟨k1, t1, f1s, o1⟩, q1, fs1⟩ ⟨n, ar, ⟨k, t, kids, o⟩, cc, fs⟩ A1 A F1 F c1 c xk x u1 _ _ hok1 HOk.out (hkt.below (HFF.out u1 HB.out).2.2.2.2) (HFF.out u1 HB.out).2.2.2.1.1.kt (hfl1.bh (HFF.out u1 HB.out).2.2.2.2) (HFF.out u1 HB.out).2.2.2.1.2
          rw [hsd] at hS
          simp only [hm1, HM.out] at hS
          have HS := Lib.hid hS
          have Hf := Lib.hid hf
          have Hsd := Lib.hid hsd
          clear hS hf hkt hsd hm1 hfl1 hok1
          go_wp2_with (fail)
          refine HS.out.mono ?_
          rintro e u2 ⟨rfl, hb⟩
          have HB2 := Lib.hid (BH.trans HB.out hb)
          clear hb r0 r1' r2 r3 r4 r5 r6 r7 s0 s1 s2 s3 s4 s5 s6 s7
          cases sd with
          | true =>
            go_wp2_with (fail)
            go_ret
            exact DeclPost.same HH.out (HFF.out _ HB2.out).2.2.2.2 (by rw [declE, if_neg (by rw [HVd.out]; simp), if_neg HM6.out]; simp only [Hf.out]; rw [if_pos Hsd.out]) (by rw [declD]; simp only [Hf.out]; simp)
          | false =>
            go_wp2_with (fail)
            go_ret
            exact DeclPost.same HH.out (HFF.out _ HB2.out).2.2.2.2 (by rw [declE, if_neg (by rw [HVd.out]; simp), if_neg HM6.out]; simp only [Hf.out]; rw [if_neg (by rw [Hsd.out]; simp)]) (by rw [declD]; simp only [Hf.out]; simp)
        | false =>
          have hf := HFn.out (by first | rfl | trivial)
          have Hf := Lib.hid hf
          clear hf
          obtain ⟨A5, c5, rfl, hc5⟩ := own_shape HH.out.own
          obtain ⟨w0, w1, _⟩ := row2 (HFF.out u1 HB.out).1.blk
          clear hc5
          by_cases h60 : 60 ≤ ds.length
          · have t2 : decide ((60 : Int) ≤ (ds.length : Int)) = true := by rw [decide_eq_true_eq]; omega
            have H60 := Lib.hid h60
            clear h60
            go_wp2_with (fail)
            go_ret
            exact DeclPost.err HH.out (HFF.out _ HB.out).2.2.2.2 (by rw [declE, if_neg (by rw [HVd.out]; simp), if_neg HM6.out]; simp only [Hf.out]; rw [if_pos (show 60 ≤ ds.length by have := H60.out; omega)]) (by decide)
          · have t2 : decide ((60 : Int) ≤ (ds.length : Int)) = false := by rw [decide_eq_false_iff_not]; omega
            have t2' : decide (60 ≤ ds.length) = false := by rw [decide_eq_false_iff_not]; omega
            have H60 := Lib.hid h60
            clear h60
            obtain ⟨kn, hkn⟩ : ∃ kn, ev1 (dcB ds) k t kids = kn := ⟨_, rfl⟩
            have hKn := hKnows_any B p b Q _ l ds k o t kids A c u1 (HFF.out u1 HB.out).1 hN (HFF.out u1 HB.out).2.2.2.1.1.kt htl HLt.out
            rw [hkn] at hKn
            have HKn := Lib.hid hKn
            have Hkn := Lib.hid hkn
            clear hKn hkn
            go_wp2_with (fail)
            refine HKn.out.mono ?_
            rintro e u2 ⟨rfl, hb⟩
            have HB2 := Lib.hid (BH.trans HB.out hb)
            clear hb r0 r1' r2 r3 r4 r5 r6 r7 s0 s1 s2 s3 s4 s5 s6 s7 w0 w1
            cases kn with
            | false =>
              go_wp2_with (fail)
              go_ret
              exact DeclPost.err HH.out (HFF.out _ HB2.out).2.2.2.2 (by rw [declE, if_neg (by rw [HVd.out]; simp), if_neg HM6.out]; simp only [Hf.out]; rw [if_neg (show ¬ 60 ≤ ds.length by have := H60.out; omega), if_pos (by rw [Hkn.out]; rfl)]) (by decide)
            | true =>
              obtain ⟨⟨r0, r1', r2, r3, r4, r5, r6, r7⟩, _⟩ := row8 (HFF.out u2 HB2.out).2.1
              obtain ⟨kf, hkf⟩ : ∃ kf, kfB ds n ar fs = kf := ⟨_, rfl⟩
              have hKf := hKnowsFields V B p b Q _ l ds n ar k o t A kids.len c cc fs F x u2 _ (HFF.out u2 HB2.out).1 HOk.out.2.2 (HFF.out u2 HB2.out).2.2.2.1.2
              rw [HM.out, hkf] at hKf
              have HKf := Lib.hid hKf
              have Hkf := Lib.hid hkf
              clear hKf hkf
              go_wp2_with (fail)
              refine HKf.out.mono ?_
              rintro e u3 ⟨rfl, hb⟩
              have HB3 := Lib.hid (BH.trans HB2.out hb)
              clear hb r0 r1' r2 r3 r4 r5 r6 r7
              cases kf with
              | false =>
                go_wp2_with (fail)
                go_ret
                exact DeclPost.err HH.out (HFF.out _ HB3.out).2.2.2.2 (by rw [declE, if_neg (by rw [HVd.out]; simp), if_neg HM6.out]; simp only [Hf.out]; rw [if_neg (show ¬ 60 ≤ ds.length by have := H60.out; omega), if_pos (by rw [Hkn.out, Hkf.out]; rfl)]) (by decide)
              | true =>
                obtain ⟨q2, hq2⟩ : ∃ q2, concB ds t = q2 := ⟨_, rfl⟩
                have Hkt : ¬ (ev1 (dcB ds) k t kids && kfB ds n ar fs) = false := by rw [Hkn.out, Hkf.out]; simp
                have HKt := Lib.hid Hkt
                clear Hkt
                obtain ⟨n2, r2', k2, o2, t2s, A2, N2, c2, F2, M2, xm, hlk⟩ : ∃ (n2 : List UInt8) (r2' k2 o2 : Int) (t2s : List UInt8) (A2 : Option Addr) (N2 c2 : Nat) (F2 : Option Addr) (M2 xm : Nat), ∀ X, BH wc X → (Instr.lookup 75 (.map (some b)) (.string ⟨t.toArray⟩) false).run Tryz.prog X = .ok (.agg #[.string ⟨n2.toArray⟩, .int .i64 r2', .int .i64 k2, .string ⟨t2s.toArray⟩, .int .i64 o2, .slice A2 N2 c2, .bool q2, .slice F2 M2 xm]) X := by
                  have hl2 := fun X (hX : BH wc X) => MapL.look (P := Tryz.prog) (t := 75) (HFF.out X hX).1.map Tryz.underlying9 Tryz.underlying75 (zeroDecl X) (s := t) (by unfold maxLen; omega) false
                  cases hft : findD ds t with
                  | none =>
                    rw [HH.out.none' hft] at hl2
                    obtain rfl : false = q2 := by rw [← hq2, concB, hft]
                    exact ⟨_, _, _, _, _, _, _, _, _, _, _, hl2⟩
                  | some d2 =>
                    obtain ⟨_, u, hu, A2, c2, F2, x2, rfl, _⟩ := HH.out.some' hft
                    rw [hu] at hl2
                    obtain rfl : d2.conc = q2 := by rw [← hq2, concB, hft]
                    exact ⟨_, _, _, _, _, _, _, _, _, _, _, hl2⟩
                have HLk2 := Lib.hid hlk
                have Hq2 := Lib.hid hq2
                clear hlk hq2
                obtain ⟨⟨r0, r1', r2, r3, r4, r5, r6, r7⟩, _⟩ := row8 (HFF.out u3 HB3.out).2.1
                obtain ⟨w0, w1, _⟩ := row2 (HFF.out u3 HB3.out).1.blk
                have hrun := HLk2.out u3 HB3.out
                have hrund := HLk2.out u3.drew (BH.trans HB3.out (below_drew u3))
                have hfc := fun (W : World) => fieldConc W (.string ⟨n2.toArray⟩) (.int .i64 r2') (.int .i64 k2) (.string ⟨t2s.toArray⟩) (.int .i64 o2) (.slice A2 N2 c2) q2 (.slice F2 M2 xm)
                go_upto_region 14 with (fail)
                go_region
                have hB4 := BH.trans HB3.out (below_drew u3)
                have HB4 := Lib.hid hB4
                clear hB4 hrun hrund hfc
                cases q2 with
                | true =>
                  go_wp2_with (fail)
                  go_ret
                  exact DeclPost.err HH.out (HFF.out _ HB4.out).2.2.2.2 (by rw [declE, if_neg (by rw [HVd.out]; simp), if_neg HM6.out]; simp only [Hf.out]; rw [if_neg (show ¬ 60 ≤ ds.length by have := H60.out; omega), if_neg HKt.out, if_pos Hq2.out]) (by decide)
                | false =>
                  have hE : declE ds ⟨n, ar, ⟨k, t, kids, o⟩, cc, fs⟩ = 0 := by
                    rw [declE, if_neg (by rw [HVd.out]; simp), if_neg HM6.out]
                    simp only [Hf.out]
                    rw [if_neg (show ¬ 60 ≤ ds.length by have := H60.out; omega), if_neg HKt.out, if_neg (by rw [Hq2.out]; simp)]
                  have HE := Lib.hid hE
                  have hAd := hadd_any V B p b Q _ l ds ⟨n, ar, ⟨k, t, kids, o⟩, cc, fs⟩ A F c x u3.drew (HFF.out _ HB4.out).1 (Nat.le_trans hBw (Below.size (HFF.out _ HB4.out).2.2.2.2)) hlen HOk.out (HH.out.none' Hf.out) hV0 hV1 (HFF.out _ HB4.out).2.2.2.1.1 (HFF.out _ HB4.out).2.2.2.1.2
                  simp only [HM.out] at hAd
                  have HAd := Lib.hid hAd
                  clear hE hAd
                  go_wp2_with (fail)
                  refine HAd.out.mono ?_
                  rintro e w9 ⟨v', u, rfl, h1, h2⟩
                  have H9 := Lib.hid (And.intro h1 h2)
                  clear h1 h2
                  go_wp2_with (fail)
                  go_ret
                  exact ⟨v', _, by rw [HE.out]; rfl, by rw [declD, if_pos ⟨HE.out, Hf.out⟩]; exact H9.out.1, (KH.bh (HFF.out _ HB4.out).2.2.2.2).trans H9.out.2⟩
end Go.Proofs.YtpkiheenkpcebaaGreatDoor
namespace Go.Proofs.YtpkiheenkpcebaaGreatDoor
open Go.RowKit Sx

/-- the eight cells of a declaration -/
def eight (d : De) (A : Option Addr) (c : Nat) (F : Option Addr) (x : Nat) : List Value := [.string ⟨d.name.toArray⟩, .int .i64 d.arity, .int .i64 d.super.k, .string ⟨d.super.t.toArray⟩, .int .i64 d.super.o, .slice A d.super.kids.len c, .bool d.conc, .slice F d.fields.length x]
/-- the cells xs are the declarations ds, in blocks of S -/
def DX (w : World) (S : Nat → Prop) : List De → List Value → Prop
  | [], xs => xs = []
  | d :: ds, xs => ∃ A c F x zs, xs = eight d A c F x ++ zs ∧ KS w S d.super.kids A c ∧ FlS w S d.fields F x ∧ DX w S ds zs
theorem DX.keep {w w' : World} {S S' : Nat → Prop} (hs : w.heap.size ≤ w'.heap.size) (hk : ∀ x, S x → x < w.heap.size → w'.heap[x]? = w.heap[x]? ∧ S' x) : ∀ (ds : List De) (xs : List Value), DX w S ds xs → DX w' S' ds xs := by
  intro ds
  induction ds with
  | nil => intro xs h; exact h
  | cons d ds ih =>
    rintro xs ⟨A, c, F, x, zs, e, h1, h2, h3⟩
    exact ⟨A, c, F, x, zs, e, h1.keep hs hk, h2.keep hs hk, ih zs h3⟩
theorem DX.bh {w w' : World} {S : Nat → Prop} {ds : List De} {xs : List Value} (h : DX w S ds xs) (hb : BH w w') : DX w' S ds xs := DX.keep (Below.size hb) (fun x hx hl => ⟨Below.block hb x hl, hx⟩) _ _ h
theorem DX.len {w : World} {S : Nat → Prop} : ∀ (ds : List De) (xs : List Value), DX w S ds xs → xs.length = ds.length * 8 := by
  intro ds
  induction ds with
  | nil => intro xs h; rw [show xs = [] from h]; rfl
  | cons d ds ih =>
    rintro xs ⟨A, c, F, x, zs, rfl, h1, h2, h3⟩
    rw [List.length_append, ih zs h3, List.length_cons]
    simp [eight]
    omega
theorem DX.one {w : World} {S : Nat → Prop} : ∀ (ds : List De) (xs : List Value), DX w S ds xs → ∀ u ∈ xs, u.oneCell' = true := by
  intro ds
  induction ds with
  | nil => intro xs h u hu; rw [show xs = [] from h] at hu; cases hu
  | cons d ds ih =>
    rintro xs ⟨A, c, F, x, zs, rfl, h1, h2, h3⟩ u hu
    rcases List.mem_append.1 hu with hu | hu
    · simp only [eight, List.mem_cons, List.not_mem_nil, or_false] at hu
      rcases hu with rfl | rfl | rfl | rfl | rfl | rfl | rfl | rfl <;> rfl
    · exact ih zs h3 u hu
theorem DX.app {w : World} {S : Nat → Prop} {es : List De} {ys : List Value} (hg : DX w S es ys) : ∀ (ds : List De) (xs : List Value), DX w S ds xs → DX w S (ds ++ es) (xs ++ ys) := by
  intro ds
  induction ds with
  | nil => intro xs h; rw [show xs = [] from h]; exact hg
  | cons d ds ih =>
    rintro xs ⟨A, c, F, x, zs, rfl, h1, h2, h3⟩
    exact ⟨A, c, F, x, zs ++ ys, by rw [List.append_assoc], h1, h2, ih zs h3⟩
theorem DX.single {w : World} {S : Nat → Prop} {d : De} {A F : Option Addr} {c x : Nat} (h : KS w S d.super.kids A c) (h2 : FlS w S d.fields F x) : DX w S [d] (eight d A c F x) := ⟨A, c, F, x, [], by simp, h, h2, rfl⟩
theorem DX.split {w : World} {S : Nat → Prop} : ∀ (ds : List De) (xs : List Value) (i : Nat) (d : De), DX w S ds xs → ds[i]? = some d →
    ∃ ys A c F x zs, xs = ys ++ (eight d A c F x ++ zs) ∧ ys.length = i * 8 ∧ DX w S (ds.take i) ys ∧ KS w S d.super.kids A c ∧ FlS w S d.fields F x ∧ DX w S (ds.drop (i + 1)) zs := by
  intro ds
  induction ds with
  | nil => intro xs i d _ h; cases h
  | cons e ds ih =>
    rintro xs i d ⟨A, c, F, x, zs, rfl, h1, h2, h3⟩ hi
    cases i with
    | zero =>
      simp at hi
      subst hi
      exact ⟨[], A, c, F, x, zs, rfl, rfl, rfl, h1, h2, h3⟩
    | succ i =>
      obtain ⟨ys, A', c', F', x', zs', rfl, hl, h4, h5, h6, h7⟩ := ih zs i d h3 (by simpa using hi)
      refine ⟨eight e A c F x ++ ys, A', c', F', x', zs', by rw [List.append_assoc], ?_, ⟨A, c, F, x, ys, rfl, h1, h2, h4⟩, h5, h6, h7⟩
      rw [List.length_append, hl]
      simp [eight]
      omega
/-- the slice (A, ds.length, c) reads as the declarations ds, in blocks of S -/
def DcS (w : World) (S : Nat → Prop) (ds : List De) (A : Option Addr) (c : Nat) : Prop := ds.length ≤ c ∧ ∃ ys, readsAt w S A ds.length ys ∧ DX w S ds ys
theorem DcS.keep {w w' : World} {S S' : Nat → Prop} {ds : List De} {A : Option Addr} {c : Nat} (h : DcS w S ds A c) (hs : w.heap.size ≤ w'.heap.size) (hk : ∀ x, S x → x < w.heap.size → w'.heap[x]? = w.heap[x]? ∧ S' x) : DcS w' S' ds A c := by
  obtain ⟨hc, ys, h1, h2⟩ := h
  exact ⟨hc, ys, h1.keep hs hk, DX.keep hs hk _ _ h2⟩
theorem DcS.bh {w w' : World} {S : Nat → Prop} {ds : List De} {A : Option Addr} {c : Nat} (h : DcS w S ds A c) (hb : BH w w') : DcS w' S ds A c := h.keep (Below.size hb) fun x hx hl => ⟨Below.block hb x hl, hx⟩
theorem DcS.rea {w : World} {S : Nat → Prop} {ds : List De} {A : Option Addr} {c : Nat} (h : DcS w S ds A c) : ∃ ys, Rea w 8 A ds.length ys ∧ DX w S ds ys := by
  obtain ⟨hc, ys, h1, h2⟩ := h
  refine ⟨ys, ⟨DX.len _ _ h2, DX.one ds ys h2, fun hp => ?_⟩, h2⟩
  obtain ⟨g, off, e, _, _, hcell⟩ := h1 hp
  exact ⟨g, off, e, hcell⟩
/-- declaration number i, as cells -/
theorem DcS.at {w : World} {S : Nat → Prop} {ds : List De} {A : Option Addr} {c i : Nat} {d : De} (h : DcS w S ds A c) (hi : ds[i]? = some d) :
    ∃ g off A1 c1 F1 x1, A = some ⟨g, off, none⟩ ∧ S g ∧ g < w.heap.size ∧ w.cell? ⟨g, off + i * 8, none⟩ = some (.string ⟨d.name.toArray⟩) ∧ w.cell? ⟨g, off + i * 8 + 1, none⟩ = some (.int .i64 d.arity) ∧ w.cell? ⟨g, off + i * 8 + 2, none⟩ = some (.int .i64 d.super.k) ∧ w.cell? ⟨g, off + i * 8 + 3, none⟩ = some (.string ⟨d.super.t.toArray⟩) ∧ w.cell? ⟨g, off + i * 8 + 4, none⟩ = some (.int .i64 d.super.o) ∧ w.cell? ⟨g, off + i * 8 + 5, none⟩ = some (.slice A1 d.super.kids.len c1) ∧ w.cell? ⟨g, off + i * 8 + 6, none⟩ = some (.bool d.conc) ∧ w.cell? ⟨g, off + i * 8 + 7, none⟩ = some (.slice F1 d.fields.length x1) ∧ KS w S d.super.kids A1 c1 ∧ FlS w S d.fields F1 x1 := by
  have hl : i < ds.length := (List.getElem?_eq_some_iff.1 hi).1
  obtain ⟨hc, ys, h1, h2⟩ := h
  obtain ⟨us, A1, c1, F1, x1, zs, rfl, hul, _, hk, hf, _⟩ := DX.split ds ys i d h2 hi
  obtain ⟨g, off, e, hS, hg, hcell⟩ := h1 (by omega)
  have hat : ∀ j u, (eight d A1 c1 F1 x1)[j]? = some u → w.cell? ⟨g, off + i * 8 + j, none⟩ = some u := by
    intro j u hu
    have hj : j < (eight d A1 c1 F1 x1).length := (List.getElem?_eq_some_iff.1 hu).1
    rw [Nat.add_assoc]
    refine hcell _ _ ?_
    rw [List.getElem?_append_right (by omega), hul, Nat.add_sub_cancel_left, List.getElem?_append_left hj]
    exact hu
  exact ⟨g, off, A1, c1, F1, x1, e, hS, hg, hat 0 _ rfl, hat 1 _ rfl, hat 2 _ rfl, hat 3 _ rfl, hat 4 _ rfl, hat 5 _ rfl, hat 6 _ rfl, hat 7 _ rfl, hk, hf⟩
theorem DcS.own {w : World} {S : Nat → Prop} {b0 n : Nat} {e : TypeId} {ds : List De} {xs : List Value} {A : Option Addr} {c : Nat} (hn : ds.length = n) (ho : w.ownsRow b0 e 8 (.slice A n c) n xs) (hr : DX w S ds xs) : DcS w (fun x => S x ∨ b0 ≤ x) ds A c := by
  subst hn
  obtain ⟨h1, h2, h3, h4, h5⟩ := Cel.of_own ho
  refine ⟨h2, xs, fun hp => ?_, DX.keep (Nat.le_refl _) (fun x hx _ => ⟨rfl, .inl hx⟩) _ _ hr⟩
  obtain ⟨g, off, e, hg, hc⟩ := h5 hp
  subst e
  exact ⟨g, off, rfl, .inr (ho.lt g (by rfl)).1, hg, hc⟩
theorem DcS.v {w : World} {S : Nat → Prop} {ds : List De} {A : Option Addr} {c : Nat} (h : DcS w S ds A c) : DcS w (fun x => x < w.heap.size) ds A c := h.keep (Nat.le_refl _) fun x _ hl => ⟨rfl, hl⟩

theorem rea8 {X : World} {g : Nat} {e : TypeId} {d : De} {A F : Option Addr} {c x : Nat} (h : X.heap[g]? = some (.cells #[.string ⟨d.name.toArray⟩, .int .i64 d.arity, .int .i64 d.super.k, .string ⟨d.super.t.toArray⟩, .int .i64 d.super.o, .slice A d.super.kids.len c, .bool d.conc, .slice F d.fields.length x] e (0, 0))) : Rea X 8 (some ⟨g, 0, none⟩) 1 (eight d A c F x) := by
  refine ⟨rfl, fun u hu => ?_, fun _ => ⟨g, 0, rfl, fun j u hu => ?_⟩⟩
  · simp only [eight, List.mem_cons, List.not_mem_nil, or_false] at hu
    rcases hu with rfl | rfl | rfl | rfl | rfl | rfl | rfl | rfl <;> rfl
  · rw [Nat.zero_add, cell_of_row _ _ j _ _ _ h]
    simpa [eight] using hu
end Go.Proofs.YtpkiheenkpcebaaGreatDoor
