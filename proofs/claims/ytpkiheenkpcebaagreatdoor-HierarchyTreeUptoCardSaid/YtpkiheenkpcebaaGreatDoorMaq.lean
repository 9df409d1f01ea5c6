/- hierarchy.agrees, declares. No condition but bounded sizes. hierarchy.everyNamed with declares, Knows; knowsFields of a declaration without fields. No condition but bounded sizes. hierarchy.sameDecl of declarations with fields. No condition but bounded sizes. -/
import Derived.Test.YtpkiheenkpcebaaGreatDoorMan
import Derived.Test.YtpkiheenkpcebaaGreatDoorMao
import Derived.Test.YtpkiheenkpcebaaGreatDoorMap
set_option linter.unusedVariables false
set_option linter.unusedSimpArgs false
namespace Go.Proofs.YtpkiheenkpcebaaGreatDoor
open Go.RowKit Sx

set_option maxHeartbeats 4000000 in
set_option maxRecDepth 100000 in
theorem hAgrees (n : List UInt8) (ar : Int) (a2 a3 a4 a5 a6 a7 : Value) (k o : Int) (t : List UInt8) (A : Option Addr) (N c : Nat) (w : World) :
    Calls Tryz.prog 86 #[.agg #[.string ⟨n.toArray⟩, .int .i64 ar, a2, a3, a4, a5, a6, a7], .agg #[.int .i64 k, .string ⟨t.toArray⟩, .int .i64 o, .slice A N c]] w fun e w' => e = .returned (.bool (decide (t = n) && ((N : Int) == ar))) ∧ BH w w' := by
  have e1 := heap_alloc_new w (.cells #[.string ⟨n.toArray⟩, .int .i64 ar, a2, a3, a4, a5, a6, a7] 37)
  have f1 := bh_alloc (BH.refl w) (.cells #[.string ⟨n.toArray⟩, .int .i64 ar, a2, a3, a4, a5, a6, a7] 37)
  have e2 := heap_alloc_new (w.alloc (.cells #[.string ⟨n.toArray⟩, .int .i64 ar, a2, a3, a4, a5, a6, a7] 37)) (.cells #[.int .i64 k, .string ⟨t.toArray⟩, .int .i64 o, .slice A N c] 34)
  have f2 := bh_alloc f1 (.cells #[.int .i64 k, .string ⟨t.toArray⟩, .int .i64 o, .slice A N c] 34)
  have e1' := (Below.heap_alloc (w.alloc (.cells #[.string ⟨n.toArray⟩, .int .i64 ar, a2, a3, a4, a5, a6, a7] 37)) (.cells #[.int .i64 k, .string ⟨t.toArray⟩, .int .i64 o, .slice A N c] 34) w.heap.size (by simp)).trans e1
  rw [World.size_alloc] at e2
  have HF := Lib.hid f2
  obtain ⟨⟨r0, r1, r2, r3, r4, r5, r6, r7⟩, _⟩ := row8 e1'
  obtain ⟨s0, s1, s2, s3, _⟩ := row4 e2
  obtain ⟨Z, hZ⟩ : ∃ Z, (decide (t = n) && ((N : Int) == ar)) = Z := ⟨_, rfl⟩
  rw [hZ]
  have HZ := Lib.hid hZ
  clear e1 f1 e2 f2 e1' hZ
  by_cases ht : t = n
  · subst ht
    by_cases hN : (N : Int) = ar
    · have t1 : decide ((N : Int) = ar) = true := by simpa using hN
      have t2 : ((N : Int) == ar) = true := by simpa using hN
      have HN := Lib.hid hN
      clear hN
      go_enter Tryz.func86, Tryz.ntmps86
      go_wp2_with (fail)
      go_ret
      exact ⟨by rw [← HZ.out, t2]; simp, HF.out⟩
    · have t1 : decide ((N : Int) = ar) = false := by simpa using hN
      have t2 : ((N : Int) == ar) = false := by simpa using hN
      go_enter Tryz.func86, Tryz.ntmps86
      go_wp2_with (fail)
      go_ret
      exact ⟨by rw [← HZ.out, t2]; simp, HF.out⟩
  · have t1 := tba_ne ht
    have t3 : decide (t = n) = false := by simpa using ht
    go_enter Tryz.func86, Tryz.ntmps86
    go_wp2_with (fail)
    go_ret
    exact ⟨by rw [← HZ.out, t3]; rfl, HF.out⟩

/-- the ghost of a region that makes a variable and stores what was looked up: its block, and whether it has been stored -/
def lkI (W : World) (U : Array Value) (m : Option (Nat × Bool)) (w : World) : Prop :=
  BH W w ∧ (∀ g, m = some (g, false) → W.heap.size ≤ g ∧ w.heap[g]? = some (.cells #[.string ⟨#[]⟩, .int .i64 0, .int .i64 0, .string ⟨#[]⟩, .int .i64 0, .slice none 0 0, .bool false, .slice none 0 0] 37 (0, 0))) ∧ (∀ g, m = some (g, true) → W.heap.size ≤ g ∧ w.heap[g]? = some (.cells U 37 (0, 0)))
def lkT (W : World) (U : Array Value) (m : Option (Nat × Bool)) (w : World) (m' : Option (Nat × Bool)) (w' : World) : Prop := lkI W U m' w' ∧ (∀ g s, m = some (g, s) → m' = some (g, s) ∨ m' = some (g, true))
theorem lkI_bh {W : World} {U : Array Value} {m : Option (Nat × Bool)} {w w' : World} (h : lkI W U m w) (hb : BH w w') : lkI W U m w' :=
  ⟨BH.trans h.1 hb, fun g hg => ⟨(h.2.1 g hg).1, (Below.block hb _ (heap_lt (h.2.1 g hg).2)).trans (h.2.1 g hg).2⟩, fun g hg => ⟨(h.2.2 g hg).1, (Below.block hb _ (heap_lt (h.2.2 g hg).2)).trans (h.2.2 g hg).2⟩⟩
theorem lkT_refl {W : World} {U : Array Value} {m : Option (Nat × Bool)} {w w' : World} (h : lkI W U m w) (hb : BH w w') : lkT W U m w m w' := ⟨lkI_bh h hb, fun g s e => .inl e⟩
theorem lk_alloc {W w : World} {U : Array Value} (h : lkI W U none w) : lkT W U none w (some (w.heap.size, false)) (w.alloc (.cells #[.string ⟨#[]⟩, .int .i64 0, .int .i64 0, .string ⟨#[]⟩, .int .i64 0, .slice none 0 0, .bool false, .slice none 0 0] 37)) :=
  ⟨⟨BH.trans h.1 (bh_alloc (BH.refl w) _), fun g hg => by cases hg; exact ⟨Below.size h.1, heap_alloc_new w _⟩, fun g hg => by cases hg⟩, fun g s e => by cases e⟩
def dcV (p b gN : Nat) (U : Array Value) (fnd : Bool) (t : List UInt8) (m : Option (Nat × Bool)) (j : Nat) (v : Value) (w : World) : Prop :=
  match j with
  | 0 => v = .pointer (some ⟨p, 0, none⟩)
  | 1 => v = .pointer (some ⟨p, 0, none⟩)
  | 2 => v = .pointer (some ⟨p, 1, none⟩)
  | 3 => v = .map (some b)
  | 4 => v = .pointer (some ⟨gN, 1, none⟩)
  | 5 => v = .string ⟨t.toArray⟩
  | 6 => v = .tuple #[.agg U, .bool fnd]
  | 7 => v = .tuple #[.agg U, .bool fnd]
  | 8 => v = .agg U
  | 9 => v = .bool fnd
  | 10 => ∃ g s, v = .pointer (some ⟨g, 0, none⟩) ∧ m = some (g, s)
  | 11 => ∃ g, m = some (g, true)
  | _ => v = .bool fnd
theorem dcV_T {p b gN : Nat} {U : Array Value} {fnd : Bool} {t : List UInt8} {W : World} (m m' : Option (Nat × Bool)) (j : Nat) (v : Value) (w w' : World) (h : dcV p b gN U fnd t m j v w) (hT : lkT W U m w m' w') : dcV p b gN U fnd t m' j v w' := by
  unfold dcV at *
  split at h
  all_goals first
    | exact h
    | (obtain ⟨g, s, e, hm⟩ := h; rcases hT.2 g s hm with h | h; exact ⟨g, s, e, h⟩; exact ⟨g, true, e, h⟩)
    | (obtain ⟨g, hm⟩ := h; rcases hT.2 g true hm with h | h; exact ⟨g, h⟩; exact ⟨g, h⟩)

theorem zeroDecl (X : World) : (zeroValue 37).run Tryz.prog X = .ok (.agg #[.string ⟨#[]⟩, .int .i64 0, .int .i64 0, .string ⟨#[]⟩, .int .i64 0, .slice none 0 0, .bool false, .slice none 0 0]) X := by
  go_simp
def dcB (ds : List De) (t : List UInt8) (N : Nat) : Bool := match findD ds t with | some d => (N : Int) == d.arity | none => false

set_option maxHeartbeats 8000000 in
set_option maxRecDepth 100000 in
theorem hDeclares_of (B p b : Nat) (Q : Nat → Prop) (v : Value) (l : List (List UInt8 × Value)) (ds : List De) (k o : Int) (t : List UInt8) (A : Option Addr) (N c : Nat) (w : World) (H : Hier w B p b Q v l ds) (ht : t.length ≤ 1048576)
    (n1 : List UInt8) (r1 k1 o1 : Int) (t1 : List UInt8) (A1 : Option Addr) (N1 c1 : Nat) (q1 : Bool) (F1 : Option Addr) (M1 x1 : Nat) (fnd : Bool) (hlook : lookV (getM l t) true (.agg #[.string ⟨#[]⟩, .int .i64 0, .int .i64 0, .string ⟨#[]⟩, .int .i64 0, .slice none 0 0, .bool false, .slice none 0 0]) = .tuple #[.agg #[.string ⟨n1.toArray⟩, .int .i64 r1, .int .i64 k1, .string ⟨t1.toArray⟩, .int .i64 o1, .slice A1 N1 c1, .bool q1, .slice F1 M1 x1], .bool fnd]) (Z : Bool)
    (hag : fnd = true → ∀ X, Calls Tryz.prog 86 #[.agg #[.string ⟨n1.toArray⟩, .int .i64 r1, .int .i64 k1, .string ⟨t1.toArray⟩, .int .i64 o1, .slice A1 N1 c1, .bool q1, .slice F1 M1 x1], .agg #[.int .i64 k, .string ⟨t.toArray⟩, .int .i64 o, .slice A N c]] X fun e u => e = .returned (.bool Z) ∧ BH X u) (hfn : fnd = false → Z = false) :
    Calls Tryz.prog 64 #[.pointer (some ⟨p, 0, none⟩), .agg #[.int .i64 k, .string ⟨t.toArray⟩, .int .i64 o, .slice A N c]] w fun e w' => e = .returned (.bool Z) ∧ BH w w' := by
  have e1 := heap_alloc_new w (.cells #[.int .i64 k, .string ⟨t.toArray⟩, .int .i64 o, .slice A N c] 34)
  have f1 := bh_alloc (BH.refl w) (.cells #[.int .i64 k, .string ⟨t.toArray⟩, .int .i64 o, .slice A N c] 34)
  have HE := Lib.hid (And.intro e1 f1)
  have HL := Lib.hid hlook
  have HH := Lib.hid H
  have HAg := Lib.hid hag
  have HFn := Lib.hid hfn
  clear e1 f1 hlook H hag hfn
  go_enter Tryz.func64, Tryz.ntmps64
  go_upto_region 1 with (fail)
  refine gen_wp _ (fun X => X.heap[w.heap.size]? = some (.cells #[.int .i64 k, .string ⟨t.toArray⟩, .int .i64 o, .slice A N c] 34 (0, 0)) ∧ BH w X) HE.out ?_
  rintro X1 ⟨xx1, xx2⟩
  obtain ⟨gN, hgN⟩ : ∃ gN, w.heap.size = gN := ⟨_, rfl⟩
  rw [hgN] at xx1 ⊢
  have HX := Lib.hid (And.intro xx1 xx2)
  have HX1 := Lib.hid (HH.out.bh xx2)
  clear hgN xx1 xx2 HE
  have HLk : Hid (∀ X, BH X1 X → (Instr.lookup 75 (.map (some b)) (.string ⟨t.toArray⟩) true).run Tryz.prog X = .ok (.tuple #[.agg #[.string ⟨n1.toArray⟩, .int .i64 r1, .int .i64 k1, .string ⟨t1.toArray⟩, .int .i64 o1, .slice A1 N1 c1, .bool q1, .slice F1 M1 x1], .bool fnd]) X) := Lib.hid fun X hX => by
    rw [← HL.out]
    exact MapL.look (HX1.out.bh hX).map Tryz.underlying9 Tryz.underlying75 (zeroDecl X) (by unfold maxLen; omega) true
  go_cut [5, 6] (fun s5 s6 wx => ∃ g5, s5 = .pointer (some ⟨g5, 0, none⟩) ∧ s6 = .bool fnd ∧ Hid (BH X1 wx ∧ wx.heap[g5]? = some (.cells #[.string ⟨n1.toArray⟩, .int .i64 r1, .int .i64 k1, .string ⟨t1.toArray⟩, .int .i64 o1, .slice A1 N1 c1, .bool q1, .slice F1 M1 x1] 37 (0, 0))))
  case first =>
    obtain ⟨RR, hRR⟩ : ∃ RR : Act → World → Prop, RR = (fun (a : Act) W => Hid (∃ g5, a.tmps.getD 5 undef = .pointer (some ⟨g5, 0, none⟩) ∧ a.tmps.getD 6 undef = .bool fnd ∧ BH X1 W ∧ W.heap[g5]? = some (.cells #[.string ⟨n1.toArray⟩, .int .i64 r1, .int .i64 k1, .string ⟨t1.toArray⟩, .int .i64 o1, .slice A1 N1 c1, .bool q1, .slice F1 M1 x1] 37 (0, 0)))) := ⟨_, rfl⟩
    refine wp_region_ghost (by kernel_rfl) (dcV p b gN #[.string ⟨n1.toArray⟩, .int .i64 r1, .int .i64 k1, .string ⟨t1.toArray⟩, .int .i64 o1, .slice A1 N1 c1, .bool q1, .slice F1 M1 x1] fnd t) (lkI X1 #[.string ⟨n1.toArray⟩, .int .i64 r1, .int .i64 k1, .string ⟨t1.toArray⟩, .int .i64 o1, .slice A1 N1 c1, .bool q1, .slice F1 M1 x1]) (lkT X1 #[.string ⟨n1.toArray⟩, .int .i64 r1, .int .i64 k1, .string ⟨t1.toArray⟩, .int .i64 o1, .slice A1 N1 c1, .bool q1, .slice F1 M1 x1]) (fun j m => j = 10 → m = none) none ⟨below_drew X1, fun g h => (by cases h), fun g h => (by cases h)⟩ (fun _ _ => rfl) (fun _ _ _ _ _ h => h.1) dcV_T (by kernel_rfl) ?_ ?_
    · refine ⟨?_, ?_, ?_, ?_, ?_, ?_, ?_, ?_, ?_, ?_, ?_, ?_, ?_, trivial⟩
      · intro m a W hI _ hF hD
        have h := same_of hF 0 (by kernel_rfl)
        go_simp
        exact ⟨_, rfl, m, rfl, lkT_refl hI (BH.refl _), fun _ _ h => h⟩
      · intro m a W hI _ hF hD
        have h : a.tmps[8]?.getD undef = .pointer (some ⟨p, 0, none⟩) := dep_of hD 0 8 (by kernel_rfl) rfl rfl
        go_simp
        exact ⟨_, rfl, m, rfl, lkT_refl hI (BH.refl _), fun _ _ h => h⟩
      · intro m a W hI _ hF hD
        have h : a.tmps[9]?.getD undef = .pointer (some ⟨p, 0, none⟩) := dep_of hD 1 9 (by kernel_rfl) rfl rfl
        go_simp
        exact ⟨_, rfl, m, rfl, lkT_refl hI (BH.refl _), fun _ _ h => h⟩
      · intro m a W hI _ hF hD
        have h : a.tmps[10]?.getD undef = .pointer (some ⟨p, 1, none⟩) := dep_of hD 2 10 (by kernel_rfl) rfl rfl
        obtain ⟨s0, s1, _⟩ := row2 (HX1.out.bh hI.1).blk
        go_simp
        exact ⟨_, rfl, m, rfl, lkT_refl hI (BH.refl _), fun _ _ h => h⟩
      · intro m a W hI _ hF hD
        have h := same_of hF 3 (by kernel_rfl)
        go_simp
        exact ⟨_, rfl, m, rfl, lkT_refl hI (BH.refl _), fun _ _ h => h⟩
      · intro m a W hI _ hF hD
        have h : a.tmps[12]?.getD undef = .pointer (some ⟨gN, 1, none⟩) := dep_of hD 4 12 (by kernel_rfl) rfl rfl
        obtain ⟨s0, s1, s2, s3, _⟩ := row4 ((Below.block hI.1 _ (heap_lt HX.out.1)).trans HX.out.1)
        go_simp
        exact ⟨_, rfl, m, rfl, lkT_refl hI (BH.refl _), fun _ _ h => h⟩
      · intro m a W hI _ hF hD
        have h : a.tmps[11]?.getD undef = .map (some b) := dep_of hD 3 11 (by kernel_rfl) rfl rfl
        have h' : a.tmps[13]?.getD undef = .string ⟨t.toArray⟩ := dep_of hD 5 13 (by kernel_rfl) rfl rfl
        have hrun := HLk.out W hI.1
        go_simp
        exact ⟨_, rfl, m, rfl, lkT_refl hI (BH.refl _), fun _ _ h => h⟩
      · intro m a W hI _ hF hD
        have h : a.tmps[14]?.getD undef = .tuple #[.agg #[.string ⟨n1.toArray⟩, .int .i64 r1, .int .i64 k1, .string ⟨t1.toArray⟩, .int .i64 o1, .slice A1 N1 c1, .bool q1, .slice F1 M1 x1], .bool fnd] := dep_of hD 6 14 (by kernel_rfl) rfl rfl
        go_simp
        exact ⟨_, rfl, m, rfl, lkT_refl hI (BH.refl _), fun _ _ h => h⟩
      · intro m a W hI _ hF hD
        have h : a.tmps[7]?.getD undef = .tuple #[.agg #[.string ⟨n1.toArray⟩, .int .i64 r1, .int .i64 k1, .string ⟨t1.toArray⟩, .int .i64 o1, .slice A1 N1 c1, .bool q1, .slice F1 M1 x1], .bool fnd] := dep_of hD 7 7 (by kernel_rfl) rfl rfl
        go_simp
        exact ⟨_, rfl, m, rfl, lkT_refl hI (BH.refl _), fun _ _ h => h⟩
      · intro m a W hI _ hF hD
        have h : a.tmps[7]?.getD undef = .tuple #[.agg #[.string ⟨n1.toArray⟩, .int .i64 r1, .int .i64 k1, .string ⟨t1.toArray⟩, .int .i64 o1, .slice A1 N1 c1, .bool q1, .slice F1 M1 x1], .bool fnd] := dep_of hD 7 7 (by kernel_rfl) rfl rfl
        go_simp
        exact ⟨_, rfl, m, rfl, lkT_refl hI (BH.refl _), fun _ _ h => h⟩
      · intro m a W hI hZ hF hD
        obtain rfl : m = none := hZ rfl
        go_simp
        exact ⟨_, rfl, some (W.heap.size, false), ⟨_, _, rfl, rfl⟩, lk_alloc hI, fun j hj e => absurd e hj⟩
      · intro m a W hI hZ hF hD
        obtain ⟨g, s, h5, rfl⟩ : ∃ g s, a.tmps[5]?.getD undef = .pointer (some ⟨g, 0, none⟩) ∧ m = some (g, s) := dep_of hD 10 5 (by kernel_rfl) rfl rfl
        have h15 : a.tmps[15]?.getD undef = .agg #[.string ⟨n1.toArray⟩, .int .i64 r1, .int .i64 k1, .string ⟨t1.toArray⟩, .int .i64 o1, .slice A1 N1 c1, .bool q1, .slice F1 M1 x1] := dep_of hD 8 15 (by kernel_rfl) rfl rfl
        obtain ⟨y0, y1, y2, y3, y4, y5, y6, y7, hg, hblk⟩ : ∃ y0 y1 y2 y3 y4 y5 y6 y7, X1.heap.size ≤ g ∧ W.heap[g]? = some (.cells #[y0, y1, y2, y3, y4, y5, y6, y7] 37 (0, 0)) := by
          cases s with
          | false => exact ⟨_, _, _, _, _, _, _, _, hI.2.1 g rfl⟩
          | true => exact ⟨_, _, _, _, _, _, _, _, hI.2.2 g rfl⟩
        obtain ⟨⟨h0, h1, h2, h3, h4, h5', h6, h7⟩, z0, z1, z2, z3, z4, z5, z6, z7⟩ := row8 hblk
        have hfin := s8 hblk (.string ⟨n1.toArray⟩) (.int .i64 r1) (.int .i64 k1) (.string ⟨t1.toArray⟩) (.int .i64 o1) (.slice A1 N1 c1) (.bool q1) (.slice F1 M1 x1)
        have hbs := below_gb_of (BH.refl X1) (s8_gb (gb_below hI.1 (some g)) hg (.string ⟨n1.toArray⟩) (.int .i64 r1) (.int .i64 k1) (.string ⟨t1.toArray⟩) (.int .i64 o1) (.slice A1 N1 c1) (.bool q1) (.slice F1 M1 x1)) hg
        have HFin := Lib.hid (And.intro hfin hbs)
        clear hfin hbs hblk hD hF
        go_simp
        exact ⟨.bool true, some (g, true), ⟨g, rfl⟩, ⟨⟨HFin.out.2, fun g' h => (by cases h), fun g' h => (by cases h; exact ⟨hg, HFin.out.1⟩)⟩, fun g' s' e => (by cases e; exact .inr rfl)⟩, fun j hj hz e => absurd (hz e) (by simp)⟩
      · intro m a W hI _ hF hD
        have h : a.tmps[16]?.getD undef = .bool fnd := dep_of hD 9 16 (by kernel_rfl) rfl rfl
        go_simp
        exact ⟨_, rfl, m, rfl, lkT_refl hI (BH.refl _), fun _ _ h => h⟩
    · intro m a W hI hF hN hall
      obtain ⟨g, s, h5, hm⟩ : ∃ g s, a.tmps[5]?.getD undef = .pointer (some ⟨g, 0, none⟩) ∧ m = some (g, s) := all_of hall 10 5 rfl rfl
      have h6 : a.tmps[6]?.getD undef = .bool fnd := all_of hall 12 6 rfl rfl
      obtain ⟨_, g', hm'⟩ : ∃ v : Value, ∃ g', m = some (g', true) := hN 11 _ rfl rfl
      have hgg : g' = g := by rw [hm'] at hm; cases hm; rfl
      have HR := Lib.hid (And.intro h5 (And.intro h6 (And.intro hI.1 (hI.2.2 g (by rw [hm', hgg])).2)))
      have HA := Lib.hid (Frm.act hF)
      clear h5 h6 hm hm' hgg hF hI hN hall hRR
      simp only [Exit.inBlock, Exit.then]
      apply_assumption
      refine Met.intro ?_
      go_step
      (repeat apply Exists.intro)
      refine ⟨?rela, ?eqa⟩
      case eqa => exact HA.out.trans rfl
      exact ⟨g, (Array.getD_eq_getD_getElem? ..).trans HR.out.1, (Array.getD_eq_getD_getElem? ..).trans HR.out.2.1, Lib.hid HR.out.2.2⟩
  case rest =>
    obtain ⟨g5, rfl, rfl, hC⟩ := hcut
    have hn := (Below.block hC.out.1 _ (heap_lt HX.out.1)).trans HX.out.1
    obtain ⟨⟨r0, r1, r2, r3, r4, r5, r6, r7⟩, _⟩ := row8 hC.out.2
    obtain ⟨s0, s1, s2, s3, _⟩ := row4 hn
    have HB := Lib.hid (BH.trans HX.out.2 hC.out.1)
    clear hn
    cases fnd with
    | true =>
      go_wp2_with (fail)
      refine (HAg.out (by first | rfl | trivial) _).mono ?_
      rintro e u ⟨rfl, hb⟩
      have HB2 := Lib.hid (BH.trans HB.out hb)
      clear hb r0 r1 r2 r3 r4 r5 r6 r7 s0 s1 s2 s3
      go_wp2_with (fail)
      go_ret
      exact ⟨rfl, HB2.out⟩
    | false =>
      go_wp2_with (fail)
      go_ret
      exact ⟨by rw [HFn.out (by first | rfl | trivial)]; rfl, HB.out⟩
end Go.Proofs.YtpkiheenkpcebaaGreatDoor
namespace Go.Proofs.YtpkiheenkpcebaaGreatDoor.Sx
/-- pf holds at every node of kind 2 -/
def evL (pf : List UInt8 → Nat → Bool) : Fo → Bool
  | .nil => true
  | .cons k t kids _ r => ((if k = 2 then pf t kids.len else true) && evL pf kids) && evL pf r
def ev1 (pf : List UInt8 → Nat → Bool) (k : Int) (t : List UInt8) (kids : Fo) : Bool := (if k = 2 then pf t kids.len else true) && evL pf kids
theorem evL_cons (pf : List UInt8 → Nat → Bool) (k : Int) (t : List UInt8) (kids : Fo) (o : Int) (r : Fo) : evL pf (.cons k t kids o r) = (ev1 pf k t kids && evL pf r) := rfl
end Go.Proofs.YtpkiheenkpcebaaGreatDoor.Sx
namespace Go.Proofs.YtpkiheenkpcebaaGreatDoor
open Go.RowKit Sx

theorem hDeclares (B p b : Nat) (Q : Nat → Prop) (v : Value) (l : List (List UInt8 × Value)) (ds : List De) (k o : Int) (t : List UInt8) (A : Option Addr) (N c : Nat) (w : World) (H : Hier w B p b Q v l ds) (ht : t.length ≤ 1048576) :
    Calls Tryz.prog 64 #[.pointer (some ⟨p, 0, none⟩), .agg #[.int .i64 k, .string ⟨t.toArray⟩, .int .i64 o, .slice A N c]] w fun e w' => e = .returned (.bool (dcB ds t N)) ∧ BH w w' := by
  cases hf : findD ds t with
  | none =>
    exact hDeclares_of B p b Q v l ds k o t A N c w H ht [] 0 0 0 [] none 0 0 false none 0 0 false (by rw [H.none' hf]; rfl) (dcB ds t N) (fun h => by cases h) (fun _ => by rw [dcB, hf])
  | some d =>
    obtain ⟨hn, u, hu, A1, c1, F1, x1, rfl, _⟩ := H.some' hf
    refine hDeclares_of B p b Q v l ds k o t A N c w H ht d.name d.arity d.super.k d.super.o d.super.t A1 d.super.kids.len c1 d.conc F1 d.fields.length x1 true (by rw [hu]; rfl) (dcB ds t N) (fun _ X => ?_) (fun h => by cases h)
    refine (hAgrees d.name d.arity _ _ _ _ _ _ k o t A N c X).mono ?_
    rintro e u ⟨rfl, hb⟩
    refine ⟨?_, hb⟩
    rw [dcB, hf, hn]
    simp

set_option maxHeartbeats 8000000 in
set_option maxRecDepth 100000 in
theorem hEvery (p : Nat) (J : World → Prop) (hJ : ∀ X Y, J X → BH X Y → J Y) (pf : List UInt8 → Nat → Bool)
    (hC : ∀ (X : World) (k o : Int) (t : List UInt8) (A : Option Addr) (N c : Nat), J X → t.length ≤ 1048576 → Calls Tryz.prog 64 #[.pointer (some ⟨p, 0, none⟩), .agg #[.int .i64 k, .string ⟨t.toArray⟩, .int .i64 o, .slice A N c]] X fun e u => e = .returned (.bool (pf t N)) ∧ BH X u)
    (M : Nat) : ∀ (k o : Int) (t : List UInt8) (kids : Fo) (A : Option Addr) (c : Nat) (w : World), fsize kids < M → fsize kids ≤ 1073741824 → KT w kids A c → t.length ≤ 1048576 → lenT kids → J w →
    Calls Tryz.prog 63 #[.agg #[.int .i64 k, .string ⟨t.toArray⟩, .int .i64 o, .slice A kids.len c], .func (.func 64) #[.pointer (some ⟨p, 0, none⟩)] #[]] w fun e w' => e = .returned (.bool (ev1 pf k t kids)) ∧ BH w w' := by
  induction M with
  | zero => intro k o t kids A c w h; exact absurd h (Nat.not_lt_zero _)
  | succ M ih =>
  intro k o t kids A c w hM hN hK ht hl hj
  obtain ⟨Z, hZ⟩ : ∃ Z, ev1 pf k t kids = Z := ⟨_, rfl⟩
  rw [hZ]
  have HZ := Lib.hid hZ
  have IH := Lib.hid ih
  have HJ := Lib.hid hJ
  have HC := Lib.hid hC
  have HK := Lib.hid hK
  have Hj := Lib.hid hj
  have Hl := Lib.hid hl
  have hlen := len_le_fsize kids
  obtain ⟨L, hL⟩ : ∃ L, kids.len = L := ⟨_, rfl⟩
  rw [hL] at hlen ⊢
  have HL := Lib.hid hL
  have e1 := heap_alloc_new w (.cells #[.int .i64 k, .string ⟨t.toArray⟩, .int .i64 o, .slice A L c] 34)
  have f1 := bh_alloc (BH.refl w) (.cells #[.int .i64 k, .string ⟨t.toArray⟩, .int .i64 o, .slice A L c] 34)
  have HE := Lib.hid (And.intro e1 f1)
  obtain ⟨b0, b1, b2, b3, _⟩ := row4 e1
  obtain ⟨q, hq⟩ : ∃ q, pf t L = q := ⟨_, rfl⟩
  have Hq := Lib.hid hq
  clear hZ ih hJ hC hK hj hl hL e1 f1 hq
  go_enter Tryz.func63, Tryz.ntmps63
  go_upto_region 1 with (fail)
  go_cut [15] (fun s15 wx => Hid ((s15 = .bool true ∧ Z = false ∨ s15 = .bool false ∧ Z = evL pf kids) ∧ BH w wx ∧ wx.heap[w.heap.size]? = some (.cells #[.int .i64 k, .string ⟨t.toArray⟩, .int .i64 o, .slice A L c] 34 (0, 0))))
  case first =>
    by_cases h2 : k = 2
    · subst h2
      have hC' := HC.out _ 2 o t A L c (HJ.out _ _ Hj.out HE.out.2) ht
      rw [Hq.out] at hC'
      have HC' := Lib.hid hC'
      have hz : Z = (q && evL pf kids) := by
        rw [← HZ.out, ev1, if_pos rfl, HL.out, Hq.out]
      have Hz := Lib.hid hz
      clear hC' hz
      go_wp2_with (fail)
      refine HC'.out.mono ?_
      rintro e u ⟨rfl, hb⟩
      have HB := Lib.hid (And.intro (BH.trans HE.out.2 hb) ((Below.block hb _ (heap_lt HE.out.1)).trans HE.out.1))
      clear hb
      cases q with
      | true =>
        go_wp2_with (fail)
        go_meet
        exact Lib.hid ⟨.inr ⟨rfl, by rw [Hz.out]; rfl⟩, HB.out⟩
      | false =>
        go_wp2_with (fail)
        go_meet
        exact Lib.hid ⟨.inl ⟨rfl, by rw [Hz.out]; rfl⟩, HB.out⟩
    · have t1 : (k == 2) = false := by simpa using h2
      have t2 : decide (k = 2) = false := by simpa using h2
      have hz : Z = evL pf kids := by
        rw [← HZ.out, ev1, if_neg h2]
        rfl
      have Hz := Lib.hid hz
      clear hz
      go_wp2_with (fail)
      go_meet
      exact Lib.hid ⟨.inr ⟨rfl, Hz.out⟩, HE.out.2, HE.out.1⟩
  case rest =>
    obtain ⟨hs, hbw, hblk⟩ := hcut.out
    have HB := Lib.hid (And.intro hbw hblk)
    obtain ⟨x0, x1, x2, x3, _⟩ := row4 hblk
    clear hbw hblk hcut
    rcases hs with ⟨rfl, hz⟩ | ⟨rfl, hz⟩
    · have Hz := Lib.hid hz
      clear hz
      go_wp2_with (fail)
      go_ret
      exact ⟨by rw [Hz.out]; rfl, HB.out.1⟩
    · have Hz := Lib.hid hz
      clear hz
      go_wp2_with (fail)
      go_loopw [19] (fun iv wr => ∃ (i : Nat) (r : Fo), iv = .int .i64 (i : Int) ∧ Suf i r kids ∧ BH w wr ∧ Hid (evL pf kids = evL pf r)) (fun iv _ => L - (match iv with | .int _ n => n.toNat | _ => 0))
      case atStart => exact ⟨0, kids, rfl, Suf.zero _, HB.out.1, Lib.hid rfl⟩
      case round =>
        obtain ⟨i, r, rfl, hsuf, hbr, hev⟩ := hrel
        have hlen' := hsuf.len
        rw [HL.out] at hlen'
        have HBr := Lib.hid hbr
        have HSuf := Lib.hid hsuf
        cases r with
        | nil =>
          simp only [Fo.len] at hlen'
          have hge : decide ((i : Int) < (L : Int)) = false := by rw [decide_eq_false_iff_not]; omega
          have hge2 : decide (i < L) = false := by rw [decide_eq_false_iff_not]; omega
          clear hlen' hsuf hbr
          go_wp2_with (fail)
          go_ret
          exact ⟨by rw [Hz.out, hev.out]; rfl, HBr.out⟩
        | cons k1 t1 kids1 o1 r1 =>
          simp only [Fo.len] at hlen'
          obtain ⟨g, off, A1, c1, rfl, hgl, q0, q1, q2, q3, hk1⟩ := HK.out.get hsuf hbr
          have hkid := hsuf.kid.1
          have hl1 : t1.length ≤ 1048576 ∧ lenT kids1 := by
            obtain ⟨pre, he, hpl⟩ := hsuf
            have h := Hl.out
            rw [he] at h
            clear he hpl
            induction pre with
            | nil => exact ⟨h.1, h.2.1⟩
            | cons _ _ _ _ _ _ ihp => exact ihp h.2.2
          have hge : decide ((i : Int) < (L : Int)) = true := by rw [decide_eq_true_eq]; omega
          have hiL : (i : Int) < (L : Int) := by omega
          have hi0 : (0 : Int) ≤ (i : Int) := by omega
          obtain ⟨z, hz⟩ : ∃ z, ev1 pf k1 t1 kids1 = z := ⟨_, rfl⟩
          have fA := bh_alloc (BH.refl wr) (.cells #[.int .i64 k1, .string ⟨t1.toArray⟩, .int .i64 o1, .slice A1 kids1.len c1] 34)
          have eA := heap_alloc_new wr (.cells #[.int .i64 k1, .string ⟨t1.toArray⟩, .int .i64 o1, .slice A1 kids1.len c1] 34)
          obtain ⟨y0, y1, y2, y3, _⟩ := row4 eA
          have hI := IH.out k1 o1 t1 kids1 A1 c1 _ (by omega) (by omega) ((hk1.below hbr).below fA) hl1.1 hl1.2 (HJ.out _ _ Hj.out (BH.trans hbr fA))
          rw [hz] at hI
          have HI := Lib.hid hI
          have HFA := Lib.hid (BH.trans hbr fA)
          have Hzz := Lib.hid hz
          clear hsuf hbr hk1 hgl hI fA eA hz hl1
          go_wp2_with (fail)
          refine HI.out.mono ?_
          rintro e u ⟨rfl, hb⟩
          have HB2 := Lib.hid (BH.trans HFA.out hb)
          clear hb y0 y1 y2 y3 q0 q1 q2 q3
          have hee := hev.out
          rw [evL_cons, Hzz.out] at hee
          have Hee := Lib.hid hee
          clear hee
          cases z with
          | true =>
            go_wp2_with (fail)
            exact ⟨⟨i + 1, r1, rfl, HSuf.out.next, HB2.out, Lib.hid (by rw [Hee.out]; rfl)⟩, by simp; omega⟩
          | false =>
            go_wp2_with (fail)
            go_ret
            exact ⟨by rw [Hz.out, Hee.out]; rfl, HB2.out⟩

theorem hKnows_any (B p b : Nat) (Q : Nat → Prop) (v : Value) (l : List (List UInt8 × Value)) (ds : List De) (k o : Int) (t : List UInt8) (kids : Fo) (A : Option Addr) (c : Nat) (w : World) (H : Hier w B p b Q v l ds) (hN : fsize kids ≤ 1073741824) (hK : KT w kids A c) (ht : t.length ≤ 1048576) (hl : lenT kids) :
    Calls Tryz.prog 32 #[.pointer (some ⟨p, 0, none⟩), .agg #[.int .i64 k, .string ⟨t.toArray⟩, .int .i64 o, .slice A kids.len c]] w fun e w' => e = .returned (.bool (ev1 (dcB ds) k t kids)) ∧ BH w w' := by
  have e1 := heap_alloc_new w (.cells #[.int .i64 k, .string ⟨t.toArray⟩, .int .i64 o, .slice A kids.len c] 34)
  have f1 := bh_alloc (BH.refl w) (.cells #[.int .i64 k, .string ⟨t.toArray⟩, .int .i64 o, .slice A kids.len c] 34)
  obtain ⟨b0, b1, b2, b3, _⟩ := row4 e1
  have hE := hEvery p (fun X => Hier X B p b Q v l ds) (fun X Y h hb => h.bh hb) (dcB ds) (fun X k o t A N c h ht => hDeclares B p b Q v l ds k o t A N c X h ht) (fsize kids + 1) k o t kids A c _ (by omega) hN (hK.below f1) ht hl (H.bh f1)
  have HE := Lib.hid hE
  have HF := Lib.hid f1
  clear hE f1 H hK hl e1
  go_enter Tryz.func32, Tryz.ntmps32
  go_wp2_with (fail)
  refine HE.out.mono ?_
  rintro e u ⟨rfl, hb⟩
  have HB := Lib.hid (BH.trans HF.out hb)
  clear hb
  go_wp2_with (fail)
  go_ret
  exact ⟨rfl, HB.out⟩

end Go.Proofs.YtpkiheenkpcebaaGreatDoor
namespace Go.Proofs.YtpkiheenkpcebaaGreatDoor
open Go.RowKit Sx

set_option maxHeartbeats 8000000 in
set_option maxRecDepth 100000 in
theorem hSame (V V' : Int) (d e : De) (A A' F F' : Option Addr) (c c' x x' : Nat) (w : World) (S S' : Nat → Prop) (hok : OkD V d) (hok' : OkD V' e) (hK : KT w d.super.kids A c) (hK' : KT w e.super.kids A' c') (hF : FlS w S d.fields F x) (hF' : FlS w S' e.fields F' x') :
    Calls Tryz.prog 52 #[.agg #[.string ⟨d.name.toArray⟩, .int .i64 d.arity, .int .i64 d.super.k, .string ⟨d.super.t.toArray⟩, .int .i64 d.super.o, .slice A d.super.kids.len c, .bool d.conc, .slice F d.fields.length x], .agg #[.string ⟨e.name.toArray⟩, .int .i64 e.arity, .int .i64 e.super.k, .string ⟨e.super.t.toArray⟩, .int .i64 e.super.o, .slice A' e.super.kids.len c', .bool e.conc, .slice F' e.fields.length x']] w
      fun r w' => r = .returned (.bool (deB d e)) ∧ BH w w' := by
  obtain ⟨n, ar, ⟨k, t, kids, o⟩, cc, fs⟩ := d
  obtain ⟨n', ar', ⟨k', t', kids', o'⟩, cc', fs'⟩ := e
  obtain ⟨_, ⟨hN, _⟩, hof⟩ := hok
  obtain ⟨_, ⟨hN', _⟩, hof'⟩ := hok'
  simp only at hN hN' hof hof' hK hK' hF hF' ⊢
  obtain ⟨M, hM⟩ : ∃ M, fs.length = M := ⟨_, rfl⟩
  obtain ⟨M', hM'⟩ : ∃ M', fs'.length = M' := ⟨_, rfl⟩
  obtain ⟨r, hr⟩ : ∃ r, (decide (M = M') && feB fs fs') = r := ⟨_, rfl⟩
  rw [hM, hM']
  have HQ : Hid (∀ X, BH w X → Calls Tryz.prog 83 #[.slice F M x, .slice F' M' x', .func (.func 84) #[] #[]] X fun e u => e = .returned (.bool r) ∧ BH X u) := Lib.hid fun X hX => by
    have h := eqFields V V' fs fs' F F' x x' X S S' hof hof' (hF.bh hX) (hF'.bh hX)
    rw [hM, hM'] at h
    rw [← hr]
    exact h
  obtain ⟨Z, hZ⟩ : ∃ Z, deB ⟨n, ar, ⟨k, t, kids, o⟩, cc, fs⟩ ⟨n', ar', ⟨k', t', kids', o'⟩, cc', fs'⟩ = Z := ⟨_, rfl⟩
  rw [hZ]
  obtain ⟨q, hq⟩ : ∃ q, (cmp1 k t o kids k' t' o' kids' == 0) = q := ⟨_, rfl⟩
  have hz : Z = (decide (n = n') && (decide (ar = ar') && (decide (cc = cc') && (q && r)))) := by rw [← hZ, deB, cmpT]; simp only [hq, hM, hM', hr]
  have HZ := Lib.hid hz
  have e1 := heap_alloc_new w (.cells #[.string ⟨n.toArray⟩, .int .i64 ar, .int .i64 k, .string ⟨t.toArray⟩, .int .i64 o, .slice A kids.len c, .bool cc, .slice F M x] 37)
  have f1 := bh_alloc (BH.refl w) (.cells #[.string ⟨n.toArray⟩, .int .i64 ar, .int .i64 k, .string ⟨t.toArray⟩, .int .i64 o, .slice A kids.len c, .bool cc, .slice F M x] 37)
  have e2 := heap_alloc_new (w.alloc (.cells #[.string ⟨n.toArray⟩, .int .i64 ar, .int .i64 k, .string ⟨t.toArray⟩, .int .i64 o, .slice A kids.len c, .bool cc, .slice F M x] 37)) (.cells #[.string ⟨n'.toArray⟩, .int .i64 ar', .int .i64 k', .string ⟨t'.toArray⟩, .int .i64 o', .slice A' kids'.len c', .bool cc', .slice F' M' x'] 37)
  have f2 := bh_alloc f1 (.cells #[.string ⟨n'.toArray⟩, .int .i64 ar', .int .i64 k', .string ⟨t'.toArray⟩, .int .i64 o', .slice A' kids'.len c', .bool cc', .slice F' M' x'] 37)
  have e1' := (Below.heap_alloc (w.alloc (.cells #[.string ⟨n.toArray⟩, .int .i64 ar, .int .i64 k, .string ⟨t.toArray⟩, .int .i64 o, .slice A kids.len c, .bool cc, .slice F M x] 37)) (.cells #[.string ⟨n'.toArray⟩, .int .i64 ar', .int .i64 k', .string ⟨t'.toArray⟩, .int .i64 o', .slice A' kids'.len c', .bool cc', .slice F' M' x'] 37) w.heap.size (by simp)).trans e1
  rw [World.size_alloc] at e2
  obtain ⟨⟨r0, r1, r2, r3, r4, r5, r6, r7⟩, _⟩ := row8 e1'
  obtain ⟨⟨s0, s1, s2, s3, s4, s5, s6, s7⟩, _⟩ := row8 e2
  have HF := Lib.hid (And.intro e1' (And.intro e2 f2))
  have HE : Hid (∀ X, BH w X → Calls Tryz.prog 82 #[.agg #[.int .i64 k, .string ⟨t.toArray⟩, .int .i64 o, .slice A kids.len c], .agg #[.int .i64 k', .string ⟨t'.toArray⟩, .int .i64 o', .slice A' kids'.len c']] X fun e u => e = .returned (.bool q) ∧ BH X u) := Lib.hid fun X hX => by
    refine (equalT_any k o k' o' t t' kids kids' A A' c c' X (by omega) (by omega) (hK.below hX) (hK'.below hX)).mono ?_
    rintro e u ⟨rfl, hb⟩
    exact ⟨by rw [hq], hb⟩
  clear e1 f1 e2 f2 e1' hZ hq hz hK hK' hN hN' hof hof' hM hM' hr hF hF'
  by_cases hn : n = n'
  · subst hn
    by_cases ha : ar = ar'
    · subst ha
      by_cases hc : cc = cc'
      · subst hc
        go_enter Tryz.func52, Tryz.ntmps52
        go_wp2_with (fail)
        refine (HE.out _ HF.out.2.2).mono ?_
        rintro e u ⟨rfl, hb⟩
        have HB := Lib.hid (And.intro (BH.trans HF.out.2.2 hb) (And.intro ((Below.block hb _ (heap_lt HF.out.1)).trans HF.out.1) ((Below.block hb _ (heap_lt HF.out.2.1)).trans HF.out.2.1)))
        clear hb r0 r1 r2 r3 r4 r5 r6 r7 s0 s1 s2 s3 s4 s5 s6 s7
        obtain ⟨⟨r0, r1, r2, r3, r4, r5, r6, r7⟩, _⟩ := row8 HB.out.2.1
        obtain ⟨⟨s0, s1, s2, s3, s4, s5, s6, s7⟩, _⟩ := row8 HB.out.2.2
        cases q with
        | true =>
          go_wp2_with (fail)
          refine (HQ.out _ HB.out.1).mono ?_
          rintro e u2 ⟨rfl, hb⟩
          have HB2 := Lib.hid (BH.trans HB.out.1 hb)
          clear hb
          go_wp2_with (fail)
          go_ret
          exact ⟨by rw [HZ.out]; simp, HB2.out⟩
        | false =>
          go_wp2_with (fail)
          go_ret
          exact ⟨by rw [HZ.out]; simp, HB.out.1⟩
      · have t1 : decide (cc = cc') = false := by simpa using hc
        have t2 : (cc == cc') = false := by simpa using hc
        have HT := Lib.hid t1
        go_enter Tryz.func52, Tryz.ntmps52
        go_wp2_with (fail)
        go_ret
        exact ⟨by rw [HZ.out, HT.out]; simp, HF.out.2.2⟩
    · have t1 : decide (ar = ar') = false := by simpa using ha
      have t2 : (ar == ar') = false := by simpa using ha
      have HT := Lib.hid t1
      go_enter Tryz.func52, Tryz.ntmps52
      go_wp2_with (fail)
      go_ret
      exact ⟨by rw [HZ.out, HT.out]; simp, HF.out.2.2⟩
  · have t1 := tba_ne hn
    have t3 : decide (n = n') = false := by simpa using hn
    have HT := Lib.hid t3
    go_enter Tryz.func52, Tryz.ntmps52
    go_wp2_with (fail)
    go_ret
    exact ⟨by rw [HZ.out, HT.out]; simp, HF.out.2.2⟩
end Go.Proofs.YtpkiheenkpcebaaGreatDoor
