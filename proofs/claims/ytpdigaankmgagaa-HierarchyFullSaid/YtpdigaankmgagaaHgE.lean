/- sameDecl, Declare, Decls. -/
import Derived.Test.YtpdigaankmgagaaHgC
import Derived.Test.YtpdigaankmgagaaTeq
import Derived.Test.YtpdigaankmgagaaHgD
import Derived.BigQuiet
set_option linter.unusedVariables false
set_option linter.unusedSimpArgs false
namespace Go.Proofs.Ytpdigaankmgagaa.Sx
def sdB (d e : De) : Bool := decide (d.name = e.name) && (decide (d.arity = e.arity) && (decide (d.conc = e.conc) && (cmp1 d.super.k d.super.t d.super.o d.super.kids e.super.k e.super.t e.super.o e.super.kids == 0)))
end Go.Proofs.Ytpdigaankmgagaa.Sx
namespace Go.Proofs.Ytpdigaankmgagaa
open Go.RowKit Sx

set_option maxHeartbeats 2000000 in
set_option maxRecDepth 100000 in
theorem eqFuncNil (F : Nat) (w : World) : Calls Try.prog 30 #[.slice none 0 0, .slice none 0 0, .func (.func F) #[] #[]] w fun e w' => e = .returned (.bool true) ∧ BH w w' := by
  go_enter Try.func30, Try.ntmps30
  go_wp2_with (fail)
  go_loopw [17] (fun iv wr => iv = .int .i64 0 ∧ BH w wr) (fun _ _ => 0)
  case atStart => exact ⟨rfl, BH.refl _⟩
  case round =>
    obtain ⟨rfl, hb⟩ := hrel
    have HB := Lib.hid hb
    clear hb
    go_wp2_with (fail)
    go_ret
    exact ⟨rfl, HB.out⟩

set_option maxHeartbeats 8000000 in
set_option maxRecDepth 100000 in
theorem hSame0 (d e : De) (A A' : Option Addr) (c c' : Nat) (w : World) (hN : fsize d.super.kids ≤ 1073741824) (hN' : fsize e.super.kids ≤ 1073741824) (hK : KT w d.super.kids A c) (hK' : KT w e.super.kids A' c') :
    Calls Try.prog 16 #[.agg #[.string ⟨d.name.toArray⟩, .int .i64 d.arity, .int .i64 d.super.k, .string ⟨d.super.t.toArray⟩, .int .i64 d.super.o, .slice A d.super.kids.len c, .bool d.conc, .slice none 0 0], .agg #[.string ⟨e.name.toArray⟩, .int .i64 e.arity, .int .i64 e.super.k, .string ⟨e.super.t.toArray⟩, .int .i64 e.super.o, .slice A' e.super.kids.len c', .bool e.conc, .slice none 0 0]] w
      fun r w' => r = .returned (.bool (sdB d e)) ∧ BH w w' := by
  obtain ⟨n, ar, ⟨k, t, kids, o⟩, cc, fs⟩ := d
  obtain ⟨n', ar', ⟨k', t', kids', o'⟩, cc', fs'⟩ := e
  simp only at *
  obtain ⟨Z, hZ⟩ : ∃ Z, sdB ⟨n, ar, ⟨k, t, kids, o⟩, cc, fs⟩ ⟨n', ar', ⟨k', t', kids', o'⟩, cc', fs'⟩ = Z := ⟨_, rfl⟩
  rw [hZ]
  obtain ⟨q, hq⟩ : ∃ q, (cmp1 k t o kids k' t' o' kids' == 0) = q := ⟨_, rfl⟩
  have hz : Z = (decide (n = n') && (decide (ar = ar') && (decide (cc = cc') && q))) := by rw [← hZ, sdB]; simp only [hq]
  have HZ := Lib.hid hz
  have e1 := heap_alloc_new w (.cells #[.string ⟨n.toArray⟩, .int .i64 ar, .int .i64 k, .string ⟨t.toArray⟩, .int .i64 o, .slice A kids.len c, .bool cc, .slice none 0 0] 34)
  have f1 := bh_alloc (BH.refl w) (.cells #[.string ⟨n.toArray⟩, .int .i64 ar, .int .i64 k, .string ⟨t.toArray⟩, .int .i64 o, .slice A kids.len c, .bool cc, .slice none 0 0] 34)
  have e2 := heap_alloc_new (w.alloc (.cells #[.string ⟨n.toArray⟩, .int .i64 ar, .int .i64 k, .string ⟨t.toArray⟩, .int .i64 o, .slice A kids.len c, .bool cc, .slice none 0 0] 34)) (.cells #[.string ⟨n'.toArray⟩, .int .i64 ar', .int .i64 k', .string ⟨t'.toArray⟩, .int .i64 o', .slice A' kids'.len c', .bool cc', .slice none 0 0] 34)
  have f2 := bh_alloc f1 (.cells #[.string ⟨n'.toArray⟩, .int .i64 ar', .int .i64 k', .string ⟨t'.toArray⟩, .int .i64 o', .slice A' kids'.len c', .bool cc', .slice none 0 0] 34)
  have e1' := (Below.heap_alloc (w.alloc (.cells #[.string ⟨n.toArray⟩, .int .i64 ar, .int .i64 k, .string ⟨t.toArray⟩, .int .i64 o, .slice A kids.len c, .bool cc, .slice none 0 0] 34)) (.cells #[.string ⟨n'.toArray⟩, .int .i64 ar', .int .i64 k', .string ⟨t'.toArray⟩, .int .i64 o', .slice A' kids'.len c', .bool cc', .slice none 0 0] 34) w.heap.size (by simp)).trans e1
  rw [World.size_alloc] at e2
  obtain ⟨⟨r0, r1, r2, r3, r4, r5, r6, r7⟩, _⟩ := row8 e1'
  obtain ⟨⟨s0, s1, s2, s3, s4, s5, s6, s7⟩, _⟩ := row8 e2
  have HF := Lib.hid (And.intro e1' (And.intro e2 f2))
  have HE : Hid (∀ X, BH w X → Calls Try.prog 29 #[.agg #[.int .i64 k, .string ⟨t.toArray⟩, .int .i64 o, .slice A kids.len c], .agg #[.int .i64 k', .string ⟨t'.toArray⟩, .int .i64 o', .slice A' kids'.len c']] X fun e u => e = .returned (.bool q) ∧ BH X u) := Lib.hid fun X hX => by
    refine (equalT_any k o k' o' t t' kids kids' A A' c c' X (by omega) (by omega) (hK.below hX) (hK'.below hX)).mono ?_
    rintro e u ⟨rfl, hb⟩
    exact ⟨by rw [hq], hb⟩
  clear e1 f1 e2 f2 e1' hZ hq hz hK hK'
  by_cases hn : n = n'
  · subst hn
    by_cases ha : ar = ar'
    · subst ha
      by_cases hc : cc = cc'
      · subst hc
        go_enter Try.func16, Try.ntmps16
        go_wp2_with (fail)
        refine (HE.out _ HF.out.2.2).mono ?_
        rintro e u ⟨rfl, hb⟩
        have HB := Lib.hid (And.intro (BH.trans HF.out.2.2 hb) (And.intro ((Below.block hb _ (heap_lt HF.out.1)).trans HF.out.1) ((Below.block hb _ (heap_lt HF.out.2.1)).trans HF.out.2.1)))
        clear hb r0 r1 r2 r3 r4 r5 r6 r7 s0 s1 s2 s3 s4 s5 s6 s7
        obtain ⟨⟨r0, r1, r2, r3, r4, r5, r6, r7⟩, _⟩ := row8 HB.out.2.1
        obtain ⟨⟨s0, s1, s2, s3, s4, s5, s6, s7⟩, _⟩ := row8 HB.out.2.2
        cases q with
        | true =>
          go_wp2_with (fail)
          refine (eqFuncNil _ _).mono ?_
          rintro e u2 ⟨rfl, hb⟩
          have HB2 := Lib.hid (BH.trans HB.out.1 hb)
          clear hb
          go_wp2_with (fail)
          go_ret
          exact ⟨by rw [HZ.out]; simp, HB2.out⟩
        | false =>
          go_wp2_with (fail)
          go_ret
          exact ⟨by rw [HZ.out]; simp, HB.out.1⟩
      · have t1 : decide (cc = cc') = false := by simpa using hc
        have t2 : (cc == cc') = false := by simpa using hc
        have HT := Lib.hid t1
        go_enter Try.func16, Try.ntmps16
        go_wp2_with (fail)
        go_ret
        exact ⟨by rw [HZ.out, HT.out]; simp, HF.out.2.2⟩
    · have t1 : decide (ar = ar') = false := by simpa using ha
      have t2 : (ar == ar') = false := by simpa using ha
      have HT := Lib.hid t1
      go_enter Try.func16, Try.ntmps16
      go_wp2_with (fail)
      go_ret
      exact ⟨by rw [HZ.out, HT.out]; simp, HF.out.2.2⟩
  · have t1 := tba_ne hn
    have t3 : decide (n = n') = false := by simpa using hn
    have HT := Lib.hid t3
    go_enter Try.func16, Try.ntmps16
    go_wp2_with (fail)
    go_ret
    exact ⟨by rw [HZ.out, HT.out]; simp, HF.out.2.2⟩
end Go.Proofs.Ytpdigaankmgagaa
namespace Go.Proofs.Ytpdigaankmgagaa.Sx
def concB (ds : List De) (t : List UInt8) : Bool := match findD ds t with | some d => d.conc | none => false
/-- what Declare answers, of a declaration without fields -/
def declE (ds : List De) (d : De) : Int :=
  if vdB d = false then 2 else if 6 < d.arity then 4 else
  match findD ds d.name with
  | some k => if sdB k d = true then 0 else 6
  | none => if 60 ≤ ds.length then 8 else if ev1 (dcB ds) d.super.k d.super.t d.super.kids = false then 5 else if concB ds d.super.t = true then 10 else 0
/-- what it leaves -/
def declD (ds : List De) (d : De) : List De := if declE ds d = 0 ∧ findD ds d.name = none then ds ++ [d] else ds
end Go.Proofs.Ytpdigaankmgagaa.Sx
namespace Go.Proofs.Ytpdigaankmgagaa
open Go.RowKit Sx

def dcW (p b gN : Nat) (U : Array Value) (fnd : Bool) (t : List UInt8) (m : Option (Nat × Bool)) (j : Nat) (v : Value) (w : World) : Prop :=
  match j with
  | 0 => v = .pointer (some ⟨p, 0, none⟩)
  | 1 => v = .pointer (some ⟨p, 0, none⟩)
  | 2 => v = .pointer (some ⟨p, 1, none⟩)
  | 3 => v = .map (some b)
  | 4 => v = .pointer (some ⟨gN, 0, none⟩)
  | 5 => v = .string ⟨t.toArray⟩
  | 6 => v = .tuple #[.agg U, .bool fnd]
  | 7 => v = .tuple #[.agg U, .bool fnd]
  | 8 => v = .agg U
  | 9 => v = .bool fnd
  | 10 => ∃ g s, v = .pointer (some ⟨g, 0, none⟩) ∧ m = some (g, s)
  | 11 => ∃ g, m = some (g, true)
  | _ => v = .bool fnd
theorem dcW_T {p b gN : Nat} {U : Array Value} {fnd : Bool} {t : List UInt8} {W : World} (m m' : Option (Nat × Bool)) (j : Nat) (v : Value) (w w' : World) (h : dcW p b gN U fnd t m j v w) (hT : lkT W U m w m' w') : dcW p b gN U fnd t m' j v w' := by
  unfold dcW at *
  split at h
  all_goals first
    | exact h
    | (obtain ⟨g, s, e, hm⟩ := h; rcases hT.2 g s hm with h | h; exact ⟨g, s, e, h⟩; exact ⟨g, true, e, h⟩)
    | (obtain ⟨g, hm⟩ := h; rcases hT.2 g true hm with h | h; exact ⟨g, h⟩; exact ⟨g, h⟩)


theorem fieldConc (W : World) (a b c d e f : Value) (q : Bool) (g : Value) : (Instr.field 34 (.agg #[a, b, c, d, e, f, .bool q, g]) 3).run Try.prog W = .ok (.bool q) W := by
  have hu := Try.underlying34
  unfold Instr.field
  simp [run_underlying hu, asAgg, go_sem]
/-- Declare, at what the look-up has found: n1 .. q1, found or not -/
def DeclPost (B p b : Nat) (v : Value) (l : List (List UInt8 × Value)) (ds : List De) (d : De) (w : World) (e : Ending) (w' : World) : Prop :=
  ∃ v' l', e = .returned (.int .i64 (declE ds d)) ∧ Hier w' B p b v' l' (declD ds d) ∧ KH p b v v' w w'
theorem DeclPost.same {B p b : Nat} {v : Value} {l : List (List UInt8 × Value)} {ds : List De} {d : De} {w w' : World} (H : Hier w B p b v l ds) (hb : BH w w') {x : Int} (hx : declE ds d = x) (hd : declD ds d = ds) : DeclPost B p b v l ds d w (.returned (.int .i64 x)) w' :=
  ⟨v, l, by rw [hx], by rw [hd]; exact H.bh hb, KH.bh hb⟩

theorem DeclPost.err {B p b : Nat} {v : Value} {l : List (List UInt8 × Value)} {ds : List De} {d : De} {w w' : World} (H : Hier w B p b v l ds) (hb : BH w w') {x : Int} (hx : declE ds d = x) (h0 : x ≠ 0) : DeclPost B p b v l ds d w (.returned (.int .i64 x)) w' :=
  DeclPost.same H hb hx (by rw [declD, if_neg (fun h => h0 (hx.symm.trans h.1))])

set_option maxHeartbeats 16000000 in
set_option maxRecDepth 100000 in
theorem hDeclare_of (V : Int) (B p b : Nat) (v : Value) (l : List (List UInt8 × Value)) (ds : List De) (n : List UInt8) (ar k o : Int) (t : List UInt8) (kids : Fo) (cc : Bool) (A : Option Addr) (c : Nat) (w : World) (H : Hier w B p b v l ds) (hBw : B ≤ w.heap.size) (hlen : ds.length ≤ 1000) (hn : n.length ≤ 1048576)
    (hV0 : 0 ≤ V) (hV1 : V ≤ 1152921504606846976) (hN : fsize kids ≤ 1073741824) (hK : KS w (fun x => x ≠ p ∧ x ≠ b ∧ v.ownBlock ≠ some x) kids A c) (hcl : closed1 k o kids V = true) (htl : t.length ≤ 1048576) (hl : lenT kids)
    (n1 : List UInt8) (r1 k1 o1 : Int) (t1 : List UInt8) (A1 : Option Addr) (f1s : Fo) (c1 : Nat) (q1 : Bool) (fnd : Bool)
    (hlook : lookV (getM l n) true (.agg #[.string ⟨#[]⟩, .int .i64 0, .int .i64 0, .string ⟨#[]⟩, .int .i64 0, .slice none 0 0, .bool false, .slice none 0 0]) = .tuple #[.agg #[.string ⟨n1.toArray⟩, .int .i64 r1, .int .i64 k1, .string ⟨t1.toArray⟩, .int .i64 o1, .slice A1 f1s.len c1, .bool q1, .slice none 0 0], .bool fnd])
    (hfy : fnd = true → findD ds n = some ⟨n1, r1, ⟨k1, t1, f1s, o1⟩, q1, []⟩ ∧ KT w f1s A1 c1 ∧ fsize f1s ≤ 1073741824) (hfn : fnd = false → findD ds n = none) :
    Calls Try.prog 7 #[.pointer (some ⟨p, 0, none⟩), .agg #[.string ⟨n.toArray⟩, .int .i64 ar, .int .i64 k, .string ⟨t.toArray⟩, .int .i64 o, .slice A kids.len c, .bool cc, .slice none 0 0]] w (DeclPost B p b v l ds ⟨n, ar, ⟨k, t, kids, o⟩, cc, []⟩ w) := by
  have e1 := heap_alloc_new w (.cells #[.string ⟨n.toArray⟩, .int .i64 ar, .int .i64 k, .string ⟨t.toArray⟩, .int .i64 o, .slice A kids.len c, .bool cc, .slice none 0 0] 34)
  have f1 := bh_alloc (BH.refl w) (.cells #[.string ⟨n.toArray⟩, .int .i64 ar, .int .i64 k, .string ⟨t.toArray⟩, .int .i64 o, .slice A kids.len c, .bool cc, .slice none 0 0] 34)
  have HE := Lib.hid (And.intro e1 f1)
  have HL := Lib.hid hlook
  have HH := Lib.hid H
  have HK := Lib.hid hK
  have Hcl := Lib.hid hcl
  have HLt := Lib.hid hl
  have HFy := Lib.hid hfy
  have HFn := Lib.hid hfn
  have ht := hn
  clear e1 f1 hlook H hK hcl hl hfy hfn
  go_enter Try.func7, Try.ntmps7
  go_upto_region 1 with (fail)
  refine gen_wp _ (fun X => X.heap[w.heap.size]? = some (.cells #[.string ⟨n.toArray⟩, .int .i64 ar, .int .i64 k, .string ⟨t.toArray⟩, .int .i64 o, .slice A kids.len c, .bool cc, .slice none 0 0] 34 (0, 0)) ∧ BH w X) HE.out ?_
  rintro X1 ⟨x1, x2⟩
  obtain ⟨gN, hgN⟩ : ∃ gN, w.heap.size = gN := ⟨_, rfl⟩
  rw [hgN] at x1 ⊢
  have HX := Lib.hid (And.intro x1 x2)
  have HX1 := Lib.hid (HH.out.bh x2)
  clear hgN x1 x2 HE
  have HLk : Hid (∀ X, BH X1 X → (Instr.lookup 38 (.map (some b)) (.string ⟨n.toArray⟩) true).run Try.prog X = .ok (.tuple #[.agg #[.string ⟨n1.toArray⟩, .int .i64 r1, .int .i64 k1, .string ⟨t1.toArray⟩, .int .i64 o1, .slice A1 f1s.len c1, .bool q1, .slice none 0 0], .bool fnd]) X) := Lib.hid fun X hX => by
    rw [← HL.out]
    exact MapL.look (HX1.out.bh hX).map Try.underlying9 Try.underlying38 (zeroDecl X) (by unfold maxLen; omega) true
  go_cut [5, 6] (fun s5 s6 wx => ∃ g5, s5 = .pointer (some ⟨g5, 0, none⟩) ∧ s6 = .bool fnd ∧ Hid (BH X1 wx ∧ wx.heap[g5]? = some (.cells #[.string ⟨n1.toArray⟩, .int .i64 r1, .int .i64 k1, .string ⟨t1.toArray⟩, .int .i64 o1, .slice A1 f1s.len c1, .bool q1, .slice none 0 0] 34 (0, 0))))
  case first =>
    obtain ⟨RR, hRR⟩ : ∃ RR : Act → World → Prop, RR = (fun (a : Act) W => Hid (∃ g5, a.tmps.getD 5 undef = .pointer (some ⟨g5, 0, none⟩) ∧ a.tmps.getD 6 undef = .bool fnd ∧ BH X1 W ∧ W.heap[g5]? = some (.cells #[.string ⟨n1.toArray⟩, .int .i64 r1, .int .i64 k1, .string ⟨t1.toArray⟩, .int .i64 o1, .slice A1 f1s.len c1, .bool q1, .slice none 0 0] 34 (0, 0)))) := ⟨_, rfl⟩
    refine wp_region_ghost (by kernel_rfl) (dcW p b gN #[.string ⟨n1.toArray⟩, .int .i64 r1, .int .i64 k1, .string ⟨t1.toArray⟩, .int .i64 o1, .slice A1 f1s.len c1, .bool q1, .slice none 0 0] fnd n) (lkI X1 #[.string ⟨n1.toArray⟩, .int .i64 r1, .int .i64 k1, .string ⟨t1.toArray⟩, .int .i64 o1, .slice A1 f1s.len c1, .bool q1, .slice none 0 0]) (lkT X1 #[.string ⟨n1.toArray⟩, .int .i64 r1, .int .i64 k1, .string ⟨t1.toArray⟩, .int .i64 o1, .slice A1 f1s.len c1, .bool q1, .slice none 0 0]) (fun j m => j = 10 → m = none) none ⟨below_drew X1, fun g h => (by cases h), fun g h => (by cases h)⟩ (fun _ _ => rfl) (fun _ _ _ _ _ h => h.1) dcW_T (by kernel_rfl) ?_ ?_
    · refine ⟨?_, ?_, ?_, ?_, ?_, ?_, ?_, ?_, ?_, ?_, ?_, ?_, ?_, trivial⟩
      · intro m a W hI _ hF hD
        have h := same_of hF 0 (by kernel_rfl)
        go_simp
        exact ⟨_, rfl, m, rfl, lkT_refl hI (BH.refl _), fun _ _ h => h⟩
      · intro m a W hI _ hF hD
        have h : a.tmps[8]?.getD undef = .pointer (some ⟨p, 0, none⟩) := dep_of hD 0 8 (by kernel_rfl) rfl rfl
        go_simp
        exact ⟨_, rfl, m, rfl, lkT_refl hI (BH.refl _), fun _ _ h => h⟩
      · intro m a W hI _ hF hD
        have h : a.tmps[9]?.getD undef = .pointer (some ⟨p, 0, none⟩) := dep_of hD 1 9 (by kernel_rfl) rfl rfl
        go_simp
        exact ⟨_, rfl, m, rfl, lkT_refl hI (BH.refl _), fun _ _ h => h⟩
      · intro m a W hI _ hF hD
        have h : a.tmps[10]?.getD undef = .pointer (some ⟨p, 1, none⟩) := dep_of hD 2 10 (by kernel_rfl) rfl rfl
        obtain ⟨s0, s1, _⟩ := row2 (HX1.out.bh hI.1).blk
        go_simp
        exact ⟨_, rfl, m, rfl, lkT_refl hI (BH.refl _), fun _ _ h => h⟩
      · intro m a W hI _ hF hD
        have h := same_of hF 3 (by kernel_rfl)
        go_simp
        exact ⟨_, rfl, m, rfl, lkT_refl hI (BH.refl _), fun _ _ h => h⟩
      · intro m a W hI _ hF hD
        have h : a.tmps[12]?.getD undef = .pointer (some ⟨gN, 0, none⟩) := dep_of hD 4 12 (by kernel_rfl) rfl rfl
        obtain ⟨⟨y0, y1, y2, y3, y4, y5, y6, y7⟩, _⟩ := row8 ((Below.block hI.1 _ (heap_lt HX.out.1)).trans HX.out.1)
        go_simp
        exact ⟨_, rfl, m, rfl, lkT_refl hI (BH.refl _), fun _ _ h => h⟩
      · intro m a W hI _ hF hD
        have h : a.tmps[11]?.getD undef = .map (some b) := dep_of hD 3 11 (by kernel_rfl) rfl rfl
        have h' : a.tmps[13]?.getD undef = .string ⟨n.toArray⟩ := dep_of hD 5 13 (by kernel_rfl) rfl rfl
        have hrun := HLk.out W hI.1
        go_simp
        exact ⟨_, rfl, m, rfl, lkT_refl hI (BH.refl _), fun _ _ h => h⟩
      · intro m a W hI _ hF hD
        have h : a.tmps[14]?.getD undef = .tuple #[.agg #[.string ⟨n1.toArray⟩, .int .i64 r1, .int .i64 k1, .string ⟨t1.toArray⟩, .int .i64 o1, .slice A1 f1s.len c1, .bool q1, .slice none 0 0], .bool fnd] := dep_of hD 6 14 (by kernel_rfl) rfl rfl
        go_simp
        exact ⟨_, rfl, m, rfl, lkT_refl hI (BH.refl _), fun _ _ h => h⟩
      · intro m a W hI _ hF hD
        have h : a.tmps[7]?.getD undef = .tuple #[.agg #[.string ⟨n1.toArray⟩, .int .i64 r1, .int .i64 k1, .string ⟨t1.toArray⟩, .int .i64 o1, .slice A1 f1s.len c1, .bool q1, .slice none 0 0], .bool fnd] := dep_of hD 7 7 (by kernel_rfl) rfl rfl
        go_simp
        exact ⟨_, rfl, m, rfl, lkT_refl hI (BH.refl _), fun _ _ h => h⟩
      · intro m a W hI _ hF hD
        have h : a.tmps[7]?.getD undef = .tuple #[.agg #[.string ⟨n1.toArray⟩, .int .i64 r1, .int .i64 k1, .string ⟨t1.toArray⟩, .int .i64 o1, .slice A1 f1s.len c1, .bool q1, .slice none 0 0], .bool fnd] := dep_of hD 7 7 (by kernel_rfl) rfl rfl
        go_simp
        exact ⟨_, rfl, m, rfl, lkT_refl hI (BH.refl _), fun _ _ h => h⟩
      · intro m a W hI hZ hF hD
        obtain rfl : m = none := hZ rfl
        go_simp
        exact ⟨_, rfl, some (W.heap.size, false), ⟨_, _, rfl, rfl⟩, lk_alloc hI, fun j hj e => absurd e hj⟩
      · intro m a W hI hZ hF hD
        obtain ⟨g, s, h5, rfl⟩ : ∃ g s, a.tmps[5]?.getD undef = .pointer (some ⟨g, 0, none⟩) ∧ m = some (g, s) := dep_of hD 10 5 (by kernel_rfl) rfl rfl
        have h15 : a.tmps[15]?.getD undef = .agg #[.string ⟨n1.toArray⟩, .int .i64 r1, .int .i64 k1, .string ⟨t1.toArray⟩, .int .i64 o1, .slice A1 f1s.len c1, .bool q1, .slice none 0 0] := dep_of hD 8 15 (by kernel_rfl) rfl rfl
        obtain ⟨y0, y1, y2, y3, y4, y5, y6, y7, hg, hblk⟩ : ∃ y0 y1 y2 y3 y4 y5 y6 y7, X1.heap.size ≤ g ∧ W.heap[g]? = some (.cells #[y0, y1, y2, y3, y4, y5, y6, y7] 34 (0, 0)) := by
          cases s with
          | false => exact ⟨_, _, _, _, _, _, _, _, hI.2.1 g rfl⟩
          | true => exact ⟨_, _, _, _, _, _, _, _, hI.2.2 g rfl⟩
        obtain ⟨⟨h0, h1, h2, h3, h4, h5', h6, h7⟩, z0, z1, z2, z3, z4, z5, z6, z7⟩ := row8 hblk
        have hfin := s8 hblk (.string ⟨n1.toArray⟩) (.int .i64 r1) (.int .i64 k1) (.string ⟨t1.toArray⟩) (.int .i64 o1) (.slice A1 f1s.len c1) (.bool q1) (.slice none 0 0)
        have hbs := below_gb_of (BH.refl X1) (s8_gb (gb_below hI.1 (some g)) hg (.string ⟨n1.toArray⟩) (.int .i64 r1) (.int .i64 k1) (.string ⟨t1.toArray⟩) (.int .i64 o1) (.slice A1 f1s.len c1) (.bool q1) (.slice none 0 0)) hg
        have HFin := Lib.hid (And.intro hfin hbs)
        clear hfin hbs hblk hD hF
        go_simp
        exact ⟨.bool true, some (g, true), ⟨g, rfl⟩, ⟨⟨HFin.out.2, fun g' h => (by cases h), fun g' h => (by cases h; exact ⟨hg, HFin.out.1⟩)⟩, fun g' s' e => (by cases e; exact .inr rfl)⟩, fun j hj hz e => absurd (hz e) (by simp)⟩
      · intro m a W hI _ hF hD
        have h : a.tmps[16]?.getD undef = .bool fnd := dep_of hD 9 16 (by kernel_rfl) rfl rfl
        go_simp
        exact ⟨_, rfl, m, rfl, lkT_refl hI (BH.refl _), fun _ _ h => h⟩
    · intro m a W hI hF hN hall
      obtain ⟨g, s, h5, hm⟩ : ∃ g s, a.tmps[5]?.getD undef = .pointer (some ⟨g, 0, none⟩) ∧ m = some (g, s) := all_of hall 10 5 rfl rfl
      have h6 : a.tmps[6]?.getD undef = .bool fnd := all_of hall 12 6 rfl rfl
      obtain ⟨_, g', hm'⟩ : ∃ v : Value, ∃ g', m = some (g', true) := hN 11 _ rfl rfl
      have hgg : g' = g := by rw [hm'] at hm; cases hm; rfl
      have HR := Lib.hid (And.intro h5 (And.intro h6 (And.intro hI.1 (hI.2.2 g (by rw [hm', hgg])).2)))
      have HA := Lib.hid (Frm.act hF)
      clear h5 h6 hm hm' hgg hF hI hN hall hRR
      simp only [Exit.inBlock, Exit.then]
      apply_assumption
      refine Met.intro ?_
      go_step
      (repeat apply Exists.intro)
      refine ⟨?rela, ?eqa⟩
      case eqa => exact HA.out.trans rfl
      exact ⟨g, (Array.getD_eq_getD_getElem? ..).trans HR.out.1, (Array.getD_eq_getD_getElem? ..).trans HR.out.2.1, Lib.hid HR.out.2.2⟩
  case rest =>
    obtain ⟨g5, rfl, rfl, hC⟩ := hcut
    have HFF : Hid (∀ Y, BH wc Y → Hier Y B p b v l ds ∧ Y.heap[gN]? = some (.cells #[.string ⟨n.toArray⟩, .int .i64 ar, .int .i64 k, .string ⟨t.toArray⟩, .int .i64 o, .slice A kids.len c, .bool cc, .slice none 0 0] 34 (0, 0)) ∧ Y.heap[g5]? = some (.cells #[.string ⟨n1.toArray⟩, .int .i64 r1, .int .i64 k1, .string ⟨t1.toArray⟩, .int .i64 o1, .slice A1 f1s.len c1, .bool q1, .slice none 0 0] 34 (0, 0)) ∧ KS Y (fun x => x ≠ p ∧ x ≠ b ∧ v.ownBlock ≠ some x) kids A c ∧ BH w Y) := Lib.hid fun Y hY => by
      have h1 := BH.trans hC.out.1 hY
      exact ⟨HX1.out.bh h1, (Below.block h1 _ (heap_lt HX.out.1)).trans HX.out.1, (Below.block hY _ (heap_lt hC.out.2)).trans hC.out.2, HK.out.bh (BH.trans HX.out.2 h1), BH.trans HX.out.2 h1⟩
    obtain ⟨vd, hvd⟩ : ∃ vd, vdB ⟨n, ar, ⟨k, t, kids, o⟩, cc, []⟩ = vd := ⟨_, rfl⟩
    have HV : Hid (∀ Y, BH wc Y → Calls Try.prog 15 #[.agg #[.string ⟨n.toArray⟩, .int .i64 ar, .int .i64 k, .string ⟨t.toArray⟩, .int .i64 o, .slice A kids.len c, .bool cc, .slice none 0 0]] Y fun e u => e = .returned (.bool vd) ∧ BH Y u) := Lib.hid fun Y hY => by
      refine (hValid0 ⟨n, ar, ⟨k, t, kids, o⟩, cc, []⟩ A c Y hn hN (HFF.out Y hY).2.2.2.1.kt htl HLt.out).mono ?_
      rintro e u ⟨rfl, hb⟩
      exact ⟨by rw [hvd], hb⟩
    have HVd := Lib.hid hvd
    obtain ⟨⟨r0, r1', r2, r3, r4, r5, r6, r7⟩, _⟩ := row8 (HFF.out wc (BH.refl _)).2.1
    clear hC hvd
    go_wp2_with (fail)
    refine (HV.out _ (BH.refl _)).mono ?_
    rintro e u1 ⟨rfl, hb⟩
    have HB := Lib.hid hb
    clear hb r0 r1' r2 r3 r4 r5 r6 r7 HV
    cases vd with
    | false =>
      go_wp2_with (fail)
      go_ret
      exact DeclPost.err HH.out (HFF.out _ HB.out).2.2.2.2 (by rw [declE, if_pos HVd.out]) (by decide)
    | true =>
      have hvt : ¬ vdB ⟨n, ar, ⟨k, t, kids, o⟩, cc, []⟩ = false := by rw [HVd.out]; simp
      have Hvt := Lib.hid hvt
      clear hvt
      obtain ⟨⟨r0, r1', r2, r3, r4, r5, r6, r7⟩, _⟩ := row8 (HFF.out u1 HB.out).2.1
      by_cases h6 : 6 < ar
      · have t1 : decide (6 < ar) = true := by simpa using h6
        have H6 := Lib.hid h6
        clear h6
        go_wp2_with (fail)
        go_ret
        exact DeclPost.err HH.out (HFF.out _ HB.out).2.2.2.2 (by rw [declE, if_neg (by rw [HVd.out]; simp), if_pos (show 6 < ar by have := H6.out; omega)]) (by decide)
      · have t1' : decide (6 < ar) = false := by simpa using h6
        have H6 := Lib.hid h6
        clear h6
        obtain ⟨⟨s0, s1, s2, s3, s4, s5, s6, s7⟩, _⟩ := row8 (HFF.out u1 HB.out).2.2.1
        cases fnd with
        | true =>
          obtain ⟨hf, hkt, hfs⟩ := HFy.out (by first | rfl | trivial)
          obtain ⟨sd, hsd⟩ : ∃ sd, sdB ⟨n1, r1, ⟨k1, t1, f1s, o1⟩, q1, []⟩ ⟨n, ar, ⟨k, t, kids, o⟩, cc, []⟩ = sd := ⟨_, rfl⟩
          have hS := hSame0 ⟨n1, r1, ⟨k1, t1, f1s, o1⟩, q1, []⟩ ⟨n, ar, ⟨k, t, kids, o⟩, cc, []⟩ A1 A c1 c u1 hfs hN (hkt.below (HFF.out u1 HB.out).2.2.2.2) (HFF.out u1 HB.out).2.2.2.1.kt
          rw [hsd] at hS
          have HS := Lib.hid hS
          have Hf := Lib.hid hf
          have Hsd := Lib.hid hsd
          clear hS hf hkt hsd
          go_wp2_with (fail)
          refine HS.out.mono ?_
          rintro e u2 ⟨rfl, hb⟩
          have HB2 := Lib.hid (BH.trans HB.out hb)
          clear hb r0 r1' r2 r3 r4 r5 r6 r7 s0 s1 s2 s3 s4 s5 s6 s7
          cases sd with
          | true =>
            go_wp2_with (fail)
            go_ret
            exact DeclPost.same HH.out (HFF.out _ HB2.out).2.2.2.2 (by rw [declE, if_neg (by rw [HVd.out]; simp), if_neg (show ¬ 6 < ar by have := H6.out; omega)]; simp only [Hf.out]; rw [if_pos Hsd.out]) (by rw [declD]; simp only [Hf.out]; simp)
          | false =>
            go_wp2_with (fail)
            go_ret
            exact DeclPost.same HH.out (HFF.out _ HB2.out).2.2.2.2 (by rw [declE, if_neg (by rw [HVd.out]; simp), if_neg (show ¬ 6 < ar by have := H6.out; omega)]; simp only [Hf.out]; rw [if_neg (by rw [Hsd.out]; simp)]) (by rw [declD]; simp only [Hf.out]; simp)
        | false =>
          have hf := HFn.out (by first | rfl | trivial)
          have Hf := Lib.hid hf
          clear hf
          obtain ⟨A5, c5, rfl, hc5⟩ := own_shape HH.out.own
          obtain ⟨w0, w1, _⟩ := row2 (HFF.out u1 HB.out).1.blk
          clear hc5
          by_cases h60 : 60 ≤ ds.length
          · have t2 : decide ((60 : Int) ≤ (ds.length : Int)) = true := by rw [decide_eq_true_eq]; omega
            have H60 := Lib.hid h60
            clear h60
            go_wp2_with (fail)
            go_ret
            exact DeclPost.err HH.out (HFF.out _ HB.out).2.2.2.2 (by rw [declE, if_neg (by rw [HVd.out]; simp), if_neg (show ¬ 6 < ar by have := H6.out; omega)]; simp only [Hf.out]; rw [if_pos (show 60 ≤ ds.length by have := H60.out; omega)]) (by decide)
          · have t2 : decide ((60 : Int) ≤ (ds.length : Int)) = false := by rw [decide_eq_false_iff_not]; omega
            have t2' : decide (60 ≤ ds.length) = false := by rw [decide_eq_false_iff_not]; omega
            have H60 := Lib.hid h60
            clear h60
            obtain ⟨kn, hkn⟩ : ∃ kn, ev1 (dcB ds) k t kids = kn := ⟨_, rfl⟩
            have hKn := hKnows_any B p b _ l ds k o t kids A c u1 (HFF.out u1 HB.out).1 hN (HFF.out u1 HB.out).2.2.2.1.kt htl HLt.out
            rw [hkn] at hKn
            have HKn := Lib.hid hKn
            have Hkn := Lib.hid hkn
            clear hKn hkn
            go_wp2_with (fail)
            refine HKn.out.mono ?_
            rintro e u2 ⟨rfl, hb⟩
            have HB2 := Lib.hid (BH.trans HB.out hb)
            clear hb r0 r1' r2 r3 r4 r5 r6 r7 s0 s1 s2 s3 s4 s5 s6 s7 w0 w1
            cases kn with
            | false =>
              go_wp2_with (fail)
              go_ret
              exact DeclPost.err HH.out (HFF.out _ HB2.out).2.2.2.2 (by rw [declE, if_neg (by rw [HVd.out]; simp), if_neg (show ¬ 6 < ar by have := H6.out; omega)]; simp only [Hf.out]; rw [if_neg (show ¬ 60 ≤ ds.length by have := H60.out; omega), if_pos Hkn.out]) (by decide)
            | true =>
              obtain ⟨⟨r0, r1', r2, r3, r4, r5, r6, r7⟩, _⟩ := row8 (HFF.out u2 HB2.out).2.1
              go_wp2_with (fail)
              refine (hKnowsFields0 p n ar k o t A kids.len c cc u2).mono ?_
              rintro e u3 ⟨rfl, hb⟩
              have HB3 := Lib.hid (BH.trans HB2.out hb)
              clear hb r0 r1' r2 r3 r4 r5 r6 r7
              obtain ⟨q2, hq2⟩ : ∃ q2, concB ds t = q2 := ⟨_, rfl⟩
              have Hkt : ¬ ev1 (dcB ds) k t kids = false := by rw [Hkn.out]; simp
              have HKt := Lib.hid Hkt
              clear Hkt
              obtain ⟨n2, r2', k2, o2, t2s, A2, N2, c2, hlk⟩ : ∃ (n2 : List UInt8) (r2' k2 o2 : Int) (t2s : List UInt8) (A2 : Option Addr) (N2 c2 : Nat), ∀ X, BH wc X → (Instr.lookup 38 (.map (some b)) (.string ⟨t.toArray⟩) false).run Try.prog X = .ok (.agg #[.string ⟨n2.toArray⟩, .int .i64 r2', .int .i64 k2, .string ⟨t2s.toArray⟩, .int .i64 o2, .slice A2 N2 c2, .bool q2, .slice none 0 0]) X := by
                have hl2 := fun X (hX : BH wc X) => MapL.look (P := Try.prog) (t := 38) (HFF.out X hX).1.map Try.underlying9 Try.underlying38 (zeroDecl X) (s := t) (by unfold maxLen; omega) false
                cases hft : findD ds t with
                | none =>
                  rw [HH.out.none' hft] at hl2
                  obtain rfl : false = q2 := by rw [← hq2, concB, hft]
                  exact ⟨_, _, _, _, _, _, _, _, hl2⟩
                | some d2 =>
                  obtain ⟨_, u, hu, A2, c2, rfl, _⟩ := HH.out.some' hft
                  rw [hu] at hl2
                  obtain rfl : d2.conc = q2 := by rw [← hq2, concB, hft]
                  exact ⟨_, _, _, _, _, _, _, _, hl2⟩
              have HLk2 := Lib.hid hlk
              have Hq2 := Lib.hid hq2
              clear hlk hq2
              obtain ⟨⟨r0, r1', r2, r3, r4, r5, r6, r7⟩, _⟩ := row8 (HFF.out u3 HB3.out).2.1
              obtain ⟨w0, w1, _⟩ := row2 (HFF.out u3 HB3.out).1.blk
              have hrun := HLk2.out u3 HB3.out
              have hrund := HLk2.out u3.drew (BH.trans HB3.out (below_drew u3))
              have hfc := fun (W : World) => fieldConc W (.string ⟨n2.toArray⟩) (.int .i64 r2') (.int .i64 k2) (.string ⟨t2s.toArray⟩) (.int .i64 o2) (.slice A2 N2 c2) q2 (.slice none 0 0)
              go_upto_region 14 with (fail)
              go_region
              have hB4 := BH.trans HB3.out (below_drew u3)
              have HB4 := Lib.hid hB4
              clear hB4 hrun hrund hfc
              cases q2 with
              | true =>
                go_wp2_with (fail)
                go_ret
                exact DeclPost.err HH.out (HFF.out _ HB4.out).2.2.2.2 (by rw [declE, if_neg (by rw [HVd.out]; simp), if_neg (show ¬ 6 < ar by have := H6.out; omega)]; simp only [Hf.out]; rw [if_neg (show ¬ 60 ≤ ds.length by have := H60.out; omega), if_neg (by rw [Hkn.out]; simp), if_pos Hq2.out]) (by decide)
              | false =>
                have hE : declE ds ⟨n, ar, ⟨k, t, kids, o⟩, cc, []⟩ = 0 := by
                  rw [declE, if_neg (by rw [HVd.out]; simp), if_neg (show ¬ 6 < ar by have := H6.out; omega)]
                  simp only [Hf.out]
                  rw [if_neg (show ¬ 60 ≤ ds.length by have := H60.out; omega), if_neg (by rw [Hkn.out]; simp), if_neg (by rw [Hq2.out]; simp)]
                have HE := Lib.hid hE
                have hAd := hadd_any V B p b _ l ds ⟨n, ar, ⟨k, t, kids, o⟩, cc, []⟩ A c u3.drew (HFF.out _ HB4.out).1 (Nat.le_trans hBw (Below.size (HFF.out _ HB4.out).2.2.2.2)) hlen hn (HH.out.none' Hf.out) hV0 hV1 (by show fsize kids ≤ _; omega) (HFF.out _ HB4.out).2.2.2.1 Hcl.out
                have HAd := Lib.hid hAd
                clear hE hAd
                go_wp2_with (fail)
                refine HAd.out.mono ?_
                rintro e w9 ⟨v', u, rfl, h1, h2⟩
                have H9 := Lib.hid (And.intro h1 h2)
                clear h1 h2
                go_wp2_with (fail)
                go_ret
                exact ⟨v', _, by rw [HE.out]; rfl, by rw [declD, if_pos ⟨HE.out, Hf.out⟩]; exact H9.out.1, (KH.bh (HFF.out _ HB4.out).2.2.2.2).trans H9.out.2⟩
end Go.Proofs.Ytpdigaankmgagaa
namespace Go.Proofs.Ytpdigaankmgagaa
open Go.RowKit Sx

/-- a declaration without fields, of bounded size, closed within V bodies -/
def GoodD (V : Int) (d : De) : Prop := d.fields = [] ∧ fsize d.super.kids ≤ 1073741824 ∧ closed1 d.super.k d.super.o d.super.kids V = true ∧ d.name.length ≤ 1048576

theorem hDeclare0 (V : Int) (B p b : Nat) (v : Value) (l : List (List UInt8 × Value)) (ds : List De) (d : De) (A : Option Addr) (c : Nat) (w : World) (H : Hier w B p b v l ds) (hds : ∀ d ∈ ds, GoodD V d) (hd : GoodD V d) (hBw : B ≤ w.heap.size) (hlen : ds.length ≤ 1000)
    (hV0 : 0 ≤ V) (hV1 : V ≤ 1152921504606846976) (hK : KS w (fun x => x ≠ p ∧ x ≠ b ∧ v.ownBlock ≠ some x) d.super.kids A c) (htl : d.super.t.length ≤ 1048576) (hl : lenT d.super.kids) :
    Calls Try.prog 7 #[.pointer (some ⟨p, 0, none⟩), .agg #[.string ⟨d.name.toArray⟩, .int .i64 d.arity, .int .i64 d.super.k, .string ⟨d.super.t.toArray⟩, .int .i64 d.super.o, .slice A d.super.kids.len c, .bool d.conc, .slice none 0 0]] w (DeclPost B p b v l ds d w) := by
  obtain ⟨n, ar, ⟨k, t, kids, o⟩, cc, fs⟩ := d
  obtain ⟨h1, h2, h3, h4⟩ := hd
  simp only at h1 h2 h3 h4 hK htl hl ⊢
  subst h1
  cases hf : findD ds n with
  | none => exact hDeclare_of V B p b v l ds n ar k o t kids cc A c w H hBw hlen h4 hV0 hV1 h2 hK h3 htl hl [] 0 0 0 [] none .nil 0 false false (by rw [H.none' hf]; rfl) (fun h => by cases h) (fun _ => hf)
  | some d1 =>
    obtain ⟨hn, u, hu, A1, c1, rfl, hk1⟩ := H.some' hf
    obtain ⟨n1, r1, ⟨k1, t1, f1s, o1⟩, q1, fs1⟩ := d1
    obtain ⟨g1, g2, _, _⟩ := hds _ (List.mem_of_find?_eq_some hf)
    simp only at g1 g2
    subst g1
    exact hDeclare_of V B p b v l ds n ar k o t kids cc A c w H hBw hlen h4 hV0 hV1 h2 hK h3 htl hl n1 r1 k1 o1 t1 A1 f1s c1 q1 true (by rw [hu]; rfl) (fun _ => ⟨hf, hk1.kt, g2⟩) (fun h => by cases h)

theorem infoDecl : (Try.prog.info? 34).map (fun i => (i.zero, i.size, i.bytes)) = some (some (.agg #[.string ⟨#[]⟩, .int .i64 0, .int .i64 0, .string ⟨#[]⟩, .int .i64 0, .slice none 0 0, .bool false, .slice none 0 0]), 8, 112) := by kernel_rfl

theorem cel8 {X : World} {g : Nat} {e : TypeId} {a b c d x y z u : Value} (h : X.heap[g]? = some (.cells #[a, b, c, d, x, y, z, u] e (0, 0))) : Cel X 8 (some ⟨g, 0, none⟩) 1 1 [a, b, c, d, x, y, z, u] := by
  refine ⟨rfl, Nat.le_refl _, by decide, (fun e => by cases e), fun _ => ⟨g, 0, rfl, heap_lt h, fun j u hu => ?_⟩⟩
  rw [Nat.zero_add, cell_of_row _ _ j _ _ _ h]
  simpa using hu

set_option maxHeartbeats 8000000 in
set_option maxRecDepth 100000 in
theorem hDecls_len (V : Int) (B p b : Nat) (v : Value) (l : List (List UInt8 × Value)) (ds : List De) (w : World) (H : Hier w B p b v l ds) (hds : ∀ d ∈ ds, GoodD V d) (hBw : B ≤ w.heap.size) (hlen : ds.length ≤ 1000) (hV0 : 0 ≤ V) (hV1 : V ≤ 1152921504606846976) :
    Calls Try.prog 9 #[.pointer (some ⟨p, 0, none⟩)] w fun e w' => ∃ A c, e = .returned (.slice A ds.length c) ∧ BH w w' := by
  obtain ⟨i0, hi, hz0, hz1, hz2⟩ := info_parts infoDecl
  obtain ⟨A5, c5, rfl, hc5⟩ := own_shape H.own
  have HH := Lib.hid H
  have HD := Lib.hid hds
  obtain ⟨s0, s1, _⟩ := row2 H.blk
  have hC := Cel.of_own H.own
  have HC := Lib.hid hC
  clear H hds hC hc5
  go_enter Try.func9, Try.ntmps9
  go_wp2_with (fail)
  go_loopw [3, 11] (fun s3 iv wr => ∃ (i : Nat) (xs : List Value), iv = .int .i64 (i : Int) ∧ i ≤ ds.length ∧ wr.ownsRow w.heap.size 34 8 s3 i xs ∧ BH w wr) (fun _ iv _ => ds.length - (match iv with | .int _ n => n.toNat | _ => 0))
  case atStart => exact ⟨0, [], rfl, Nat.zero_le _, World.ownsRow_nil _ _ _ _, BH.refl _⟩
  case round =>
    obtain ⟨i, xs, rfl, hil, hown, hbh⟩ := hrel
    obtain ⟨A6, c6, rfl, hc6⟩ := own_shape hown
    have HO := Lib.hid hown
    have HB := Lib.hid hbh
    clear hown hc6
    by_cases hlt : i < ds.length
    · have hge : decide ((i : Int) < (ds.length : Int)) = true := by rw [decide_eq_true_eq]; omega
      have hiL : (i : Int) < (ds.length : Int) := by omega
      have hi0 : (0 : Int) ≤ (i : Int) := by omega
      obtain ⟨d, hd⟩ : ∃ d, ds[i]? = some d := ⟨_, List.getElem?_eq_getElem hlt⟩
      obtain ⟨g, off, rfl, hg, hcell⟩ := (HC.out.bh hbh).2.2.2.2 (by omega)
      have q0 := hcell i (strV d.name) (by rw [namesV, List.getElem?_map, hd]; rfl)
      have hfd : ∃ u, getM l d.name = some u ∧ D0 wr (fun x => x ≠ p ∧ x ≠ b ∧ (Value.slice (some ⟨g, off, none⟩) ds.length c5).ownBlock ≠ some x) u d := by
        obtain ⟨u, h1, h2⟩ := (HH.out.bh hbh).row i d hd
        obtain ⟨es, clock, _, _, hn, _⟩ := HH.out.map
        exact ⟨u, getM_some hn (List.mem_of_getElem? h1), h2⟩
      obtain ⟨u, hu, A1, c1, rfl, hk1⟩ := hfd
      obtain ⟨g1, g2, g3, g4⟩ := HD.out d (List.mem_of_getElem? hd)
      have hl2 := MapL.look (P := Try.prog) (t := 38) (HH.out.bh hbh).map Try.underlying9 Try.underlying38 (zeroDecl wr) (s := d.name) (by unfold maxLen; omega) false
      rw [hu] at hl2
      have hrun : (Instr.lookup 38 (.map (some b)) (.string ⟨d.name.toArray⟩) false).run Try.prog wr = .ok (.agg #[.string ⟨d.name.toArray⟩, .int .i64 d.arity, .int .i64 d.super.k, .string ⟨d.super.t.toArray⟩, .int .i64 d.super.o, .slice A1 d.super.kids.len c1, .bool d.conc, .slice none 0 0]) wr := hl2
      have hcp := copyDecl0 V d.name d.arity d.super.k d.super.o d.super.t d.super.kids A1 c1 d.conc wr hV0 hV1 (by omega) hk1.kt g3
      have HCp := Lib.hid hcp
      obtain ⟨w0, w1, _⟩ := row2 (HH.out.bh hbh).blk
      clear hbh hu hk1 g1 g2 g3 g4 hl2 hcp hcell hd
      go_wp2_with (fail)
      refine HCp.out.mono ?_
      rintro e u2 ⟨A2, c2, rfl, h1, h2⟩
      have HB2 := Lib.hid (BH.trans HB.out h2)
      have HO2 := Lib.hid (HO.out.kept (row := none) (gb_below h2 none) (by
        cases hv : (Value.slice A6 i c6).ownBlock with
        | none => exact .inl rfl
        | some x => exact .inr (by simp)))
      clear h1 h2 w0 w1 hrun q0
      go_wp2_with (at_builtin; go_loud (refine wpList_app _ (by rfl) _ _ _ (by rfl) w.heap.size 34 i0 _ 8 112 Try.underlying35 hi hz0 hz1 hz2 rfl (by decide) (.slice A6 i c6) i xs (by rfl) (HO2.out.alloc _) (some ⟨u2.heap.size, 0, none⟩) 1 1 [.string ⟨d.name.toArray⟩, .int .i64 d.arity, .int .i64 d.super.k, .string ⟨d.super.t.toArray⟩, .int .i64 d.super.o, .slice A2 d.super.kids.len c2, .bool d.conc, .slice none 0 0] (by rfl) (cel8 (heap_alloc_new u2 _)) (by intro x hx; simp at hx; rcases hx with rfl | rfl | rfl | rfl | rfl | rfl | rfl | rfl <;> rfl) (by unfold maxLen; omega) (by omega) (by have := Below.size HB2.out; simp; omega) ?_))
      intro v1 w5 ho hg1 ha
      obtain ⟨A7, c7, rfl, hc7⟩ := own_shape ho
      have HO3 := Lib.hid ho
      have HB5 := Lib.hid (bh_own (bh_alloc HB2.out (.cells #[.string ⟨d.name.toArray⟩, .int .i64 d.arity, .int .i64 d.super.k, .string ⟨d.super.t.toArray⟩, .int .i64 d.super.o, .slice A2 d.super.kids.len c2, .bool d.conc, .slice none 0 0] 34)) hg1 (fun q hq => (HO.out.lt q hq).1))
      clear ho hg1 ha hc7
      go_wp2_with (fail)
      exact ⟨⟨i + 1, _, rfl, hlt, HO3.out, HB5.out⟩, by simp; omega⟩
    · have hge : decide ((i : Int) < (ds.length : Int)) = false := by rw [decide_eq_false_iff_not]; omega
      have hge2 : decide (i < ds.length) = false := by rw [decide_eq_false_iff_not]; omega
      have hie : i = ds.length := by omega
      have HI := Lib.hid hie
      clear hbh hie
      go_wp2_with (fail)
      go_ret
      exact ⟨A6, c6, by rw [← HI.out]; rfl, HB.out⟩
end Go.Proofs.Ytpdigaankmgagaa
