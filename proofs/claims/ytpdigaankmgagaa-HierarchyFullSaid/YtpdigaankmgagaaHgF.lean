/- Supertype at the example; check. -/
import Derived.Test.YtpdigaankmgagaaHgE
import Derived.Test.YtpdigaankmgagaaTkn
import Derived.Test.YtpdigaankmgagaaTcr
set_option linter.unusedVariables false
set_option linter.unusedSimpArgs false
namespace Go.Proofs.Ytpdigaankmgagaa.Sx
def sList : List UInt8 := [76, 105, 115, 116]
def sVec : List UInt8 := [86, 101, 99]
def sInt : List UInt8 := [73, 110, 116]
def hV1 : Fo := .cons 5 [] .nil 0 .nil
def hI1 : Fo := .cons 2 sInt .nil 0 .nil
def dList : De := ⟨sList, 1, ⟨0, [], .nil, 0⟩, false, []⟩
def dVec : De := ⟨sVec, 1, ⟨2, sList, hV1, 0⟩, false, []⟩
theorem ins_ex : rep1 (Gi hI1) shi 2 sList 0 hV1 0 = ⟨2, sList, hI1, 0⟩ := by kernel_rfl
end Go.Proofs.Ytpdigaankmgagaa.Sx
namespace Go.Proofs.Ytpdigaankmgagaa
open Go.RowKit Sx

set_option maxHeartbeats 4000000 in
set_option maxRecDepth 100000 in
theorem hSuperCalled_vec (p : Nat) (A1 : Option Addr) (c1 : Nat) (w : World) : Calls Try.prog 23 #[.pointer (some ⟨p, 0, none⟩), .string ⟨#[76, 105, 115, 116]⟩, .agg #[.string ⟨#[86, 101, 99]⟩, .int .i64 1, .int .i64 2, .string ⟨#[76, 105, 115, 116]⟩, .int .i64 0, .slice A1 1 c1, .bool false, .slice none 0 0]] w fun e w' => e = .returned (.tuple #[.agg #[.int .i64 2, .string ⟨#[76, 105, 115, 116]⟩, .int .i64 0, .slice A1 1 c1], .bool true]) ∧ BH w w' := by
  have e1 := heap_alloc_new w (.cells #[.string ⟨#[86, 101, 99]⟩, .int .i64 1, .int .i64 2, .string ⟨#[76, 105, 115, 116]⟩, .int .i64 0, .slice A1 1 c1, .bool false, .slice none 0 0] 34)
  have f1 := bh_alloc (BH.refl w) (.cells #[.string ⟨#[86, 101, 99]⟩, .int .i64 1, .int .i64 2, .string ⟨#[76, 105, 115, 116]⟩, .int .i64 0, .slice A1 1 c1, .bool false, .slice none 0 0] 34)
  have e2 := heap_alloc_new (w.alloc (.cells #[.string ⟨#[86, 101, 99]⟩, .int .i64 1, .int .i64 2, .string ⟨#[76, 105, 115, 116]⟩, .int .i64 0, .slice A1 1 c1, .bool false, .slice none 0 0] 34)) (.cells #[.int .i64 0, .string ⟨#[]⟩, .int .i64 0, .slice none 0 0] 31)
  have f2 := bh_alloc f1 (.cells #[.int .i64 0, .string ⟨#[]⟩, .int .i64 0, .slice none 0 0] 31)
  have e1' := (Below.heap_alloc (w.alloc (.cells #[.string ⟨#[86, 101, 99]⟩, .int .i64 1, .int .i64 2, .string ⟨#[76, 105, 115, 116]⟩, .int .i64 0, .slice A1 1 c1, .bool false, .slice none 0 0] 34)) (.cells #[.int .i64 0, .string ⟨#[]⟩, .int .i64 0, .slice none 0 0] 31) w.heap.size (by simp)).trans e1
  rw [World.size_alloc] at e2
  obtain ⟨⟨r0, r1, r2, r3, r4, r5, r6, r7⟩, _⟩ := row8 e1'
  obtain ⟨b0, b1, b2, b3, y0, y1, y2, y3⟩ := row4 e2
  have HE := Lib.hid (And.intro e2 f2)
  clear e1 f1 e2 f2 e1'
  go_enter Try.func23, Try.ntmps23
  go_wp2_with (fail)
  obtain ⟨m0, m1, m2, m3, _⟩ := row4 (s4 HE.out.1 (.int .i64 2) (.string ⟨#[76, 105, 115, 116]⟩) (.int .i64 0) (.slice A1 1 c1))
  exact bodyPost_ret (v := .tuple #[.agg #[.int .i64 2, .string ⟨#[76, 105, 115, 116]⟩, .int .i64 0, .slice A1 1 c1], .bool true]) (by simp [results, Try.results23, go_sem, m0, m1, m2, m3]) rfl ⟨rfl, bh_alloc (bh_alloc (BH.refl w) _) _⟩

/-- the ghost of a region that makes a term's variable and stores into it -/
def l4I (W : World) (U : Array Value) (m : Option (Nat × Bool)) (w : World) : Prop :=
  BH W w ∧ (∀ g, m = some (g, false) → W.heap.size ≤ g ∧ w.heap[g]? = some (.cells #[.int .i64 0, .string ⟨#[]⟩, .int .i64 0, .slice none 0 0] 31 (0, 0))) ∧ (∀ g, m = some (g, true) → W.heap.size ≤ g ∧ w.heap[g]? = some (.cells U 31 (0, 0)))
def l4T (W : World) (U : Array Value) (m : Option (Nat × Bool)) (w : World) (m' : Option (Nat × Bool)) (w' : World) : Prop := l4I W U m' w' ∧ (∀ g s, m = some (g, s) → m' = some (g, s) ∨ m' = some (g, true))
theorem l4I_bh {W : World} {U : Array Value} {m : Option (Nat × Bool)} {w w' : World} (h : l4I W U m w) (hb : BH w w') : l4I W U m w' :=
  ⟨BH.trans h.1 hb, fun g hg => ⟨(h.2.1 g hg).1, (Below.block hb _ (heap_lt (h.2.1 g hg).2)).trans (h.2.1 g hg).2⟩, fun g hg => ⟨(h.2.2 g hg).1, (Below.block hb _ (heap_lt (h.2.2 g hg).2)).trans (h.2.2 g hg).2⟩⟩
theorem l4T_refl {W : World} {U : Array Value} {m : Option (Nat × Bool)} {w w' : World} (h : l4I W U m w) (hb : BH w w') : l4T W U m w m w' := ⟨l4I_bh h hb, fun g s e => .inl e⟩
theorem l4_alloc {W w : World} {U : Array Value} (h : l4I W U none w) : l4T W U none w (some (w.heap.size, false)) (w.alloc (.cells #[.int .i64 0, .string ⟨#[]⟩, .int .i64 0, .slice none 0 0] 31)) :=
  ⟨⟨BH.trans h.1 (bh_alloc (BH.refl w) _), fun g hg => by cases hg; exact ⟨Below.size h.1, heap_alloc_new w _⟩, fun g hg => by cases hg⟩, fun g s e => by cases e⟩
def spV (p b gN : Nat) (A1 : Option Addr) (c1 : Nat) (m : Option (Nat × Bool)) (j : Nat) (v : Value) (w : World) : Prop :=
  match j with
  | 0 => v = .pointer (some ⟨p, 0, none⟩)
  | 1 => v = .string ⟨#[76, 105, 115, 116]⟩
  | 2 => v = .pointer (some ⟨p, 0, none⟩)
  | 3 => v = .pointer (some ⟨p, 0, none⟩)
  | 4 => v = .pointer (some ⟨p, 1, none⟩)
  | 5 => v = .map (some b)
  | 6 => v = .pointer (some ⟨gN, 1, none⟩)
  | 7 => v = .string ⟨#[86, 101, 99]⟩
  | 8 => v = .agg #[.string ⟨#[86, 101, 99]⟩, .int .i64 1, .int .i64 2, .string ⟨#[76, 105, 115, 116]⟩, .int .i64 0, .slice A1 1 c1, .bool false, .slice none 0 0]
  | 9 => v = .tuple #[.agg #[.int .i64 2, .string ⟨#[76, 105, 115, 116]⟩, .int .i64 0, .slice A1 1 c1], .bool true]
  | 10 => v = .tuple #[.agg #[.int .i64 2, .string ⟨#[76, 105, 115, 116]⟩, .int .i64 0, .slice A1 1 c1], .bool true]
  | 11 => v = .agg #[.int .i64 2, .string ⟨#[76, 105, 115, 116]⟩, .int .i64 0, .slice A1 1 c1]
  | 12 => v = .bool true
  | 13 => ∃ g s, v = .pointer (some ⟨g, 0, none⟩) ∧ m = some (g, s)
  | 14 => ∃ g, m = some (g, true)
  | _ => v = .bool true
theorem spV_T {p b gN : Nat} {A1 : Option Addr} {c1 : Nat} {U : Array Value} {W : World} (m m' : Option (Nat × Bool)) (j : Nat) (v : Value) (w w' : World) (h : spV p b gN A1 c1 m j v w) (hT : l4T W U m w m' w') : spV p b gN A1 c1 m' j v w' := by
  unfold spV at *
  split at h
  all_goals first
    | exact h
    | (obtain ⟨g, s, e, hm⟩ := h; rcases hT.2 g s hm with h | h; exact ⟨g, s, e, h⟩; exact ⟨g, true, e, h⟩)
    | (obtain ⟨g, hm⟩ := h; rcases hT.2 g true hm with h | h; exact ⟨g, h⟩; exact ⟨g, h⟩)

set_option maxHeartbeats 16000000 in
set_option maxRecDepth 100000 in
theorem hSuper_vec (B p b : Nat) (v : Value) (l : List (List UInt8 × Value)) (ds : List De) (A : Option Addr) (c : Nat) (w : World) (H : Hier w B p b v l ds) (hf : findD ds sVec = some dVec) (hK : KT w hI1 A c) :
    Calls Try.prog 13 #[.pointer (some ⟨p, 0, none⟩), .agg #[.int .i64 2, .string ⟨#[86, 101, 99]⟩, .int .i64 0, .slice A 1 c], .string ⟨#[76, 105, 115, 116]⟩] w fun e w' => ∃ A' c', e = .returned (.tuple #[.agg #[.int .i64 2, .string ⟨#[76, 105, 115, 116]⟩, .int .i64 0, .slice A' 1 c'], .bool true]) ∧ KT w' hI1 A' c' ∧ BH w w' := by
  obtain ⟨hn, u, hu, A1, c1, rfl, hk1⟩ := H.some' hf
  have e1 := heap_alloc_new w (.cells #[.int .i64 2, .string ⟨#[86, 101, 99]⟩, .int .i64 0, .slice A 1 c] 31)
  have f1 := bh_alloc (BH.refl w) (.cells #[.int .i64 2, .string ⟨#[86, 101, 99]⟩, .int .i64 0, .slice A 1 c] 31)
  have e2 := heap_alloc_new (w.alloc (.cells #[.int .i64 2, .string ⟨#[86, 101, 99]⟩, .int .i64 0, .slice A 1 c] 31)) (.cells #[.int .i64 0, .string ⟨#[]⟩, .int .i64 0, .slice none 0 0] 31)
  have f2 := bh_alloc f1 (.cells #[.int .i64 0, .string ⟨#[]⟩, .int .i64 0, .slice none 0 0] 31)
  have e1' := (Below.heap_alloc (w.alloc (.cells #[.int .i64 2, .string ⟨#[86, 101, 99]⟩, .int .i64 0, .slice A 1 c] 31)) (.cells #[.int .i64 0, .string ⟨#[]⟩, .int .i64 0, .slice none 0 0] 31) w.heap.size (by simp)).trans e1
  rw [World.size_alloc] at e2
  obtain ⟨b0, b1, b2, b3, _⟩ := row4 e1'
  have HE := Lib.hid (And.intro e1' (And.intro e2 f2))
  have HH := Lib.hid H
  have HK := Lib.hid hK
  have HK1 := Lib.hid hk1.kt
  have HF := Lib.hid hf
  have HU := Lib.hid hu
  have hne := tba_ne (show ¬ sVec = sList by decide)
  have hne' : ¬ ((⟨#[86, 101, 99]⟩ : ByteArray) = ⟨#[76, 105, 115, 116]⟩) := hne
  clear e1 f1 e2 f2 e1' H hK hk1 hf hu hne hn
  go_enter Try.func13, Try.ntmps13
  go_wp2_with (fail)
  refine (hDeclares B p b v l ds 2 0 sVec A 1 c _ (HH.out.bh HE.out.2.2) (by decide)).mono ?_
  rintro e u1 ⟨rfl, hb⟩
  have hdc : dcB ds sVec 1 = true := by rw [dcB, HF.out]; rfl
  rw [hdc]
  have HB := Lib.hid (And.intro (BH.trans HE.out.2.2 hb) (And.intro ((Below.block hb _ (heap_lt HE.out.1)).trans HE.out.1) ((Below.block hb _ (heap_lt HE.out.2.1)).trans HE.out.2.1)))
  clear hb hdc b0 b1 b2 b3
  go_upto_region 7 with (fail)
  obtain ⟨gN, hgN⟩ : ∃ gN, w.heap.size = gN := ⟨_, rfl⟩
  have HgN := Lib.hid hgN
  rw [hgN] at HB ⊢
  clear hgN HE
  go_cut [8, 9] (fun s8 s9 wx => ∃ g8, s8 = .pointer (some ⟨g8, 0, none⟩) ∧ s9 = .bool true ∧ Hid (BH u1 wx ∧ wx.heap[g8]? = some (.cells #[.int .i64 2, .string ⟨#[76, 105, 115, 116]⟩, .int .i64 0, .slice A1 1 c1] 31 (0, 0))))
  case first =>
    refine wp_region_ghost (by kernel_rfl) (spV p b gN A1 c1) (l4I u1 #[.int .i64 2, .string ⟨#[76, 105, 115, 116]⟩, .int .i64 0, .slice A1 1 c1]) (l4T u1 #[.int .i64 2, .string ⟨#[76, 105, 115, 116]⟩, .int .i64 0, .slice A1 1 c1]) (fun j m => j = 13 → m = none) none ⟨below_drew u1, fun g h => (by cases h), fun g h => (by cases h)⟩ (fun _ _ => rfl) (fun _ _ _ _ _ h => h.1) spV_T (by kernel_rfl) ?_ ?_
    · refine ⟨?_, ?_, ?_, ?_, ?_, ?_, ?_, ?_, ?_, ?_, ?_, ?_, ?_, ?_, ?_, ?_, trivial⟩
      · intro m a W hI _ hF hD
        have h := same_of hF 0 (by kernel_rfl)
        go_simp
        exact ⟨_, rfl, m, rfl, l4T_refl hI (BH.refl _), fun _ _ h => h⟩
      · intro m a W hI _ hF hD
        have h := same_of hF 2 (by kernel_rfl)
        go_simp
        exact ⟨_, rfl, m, rfl, l4T_refl hI (BH.refl _), fun _ _ h => h⟩
      · intro m a W hI _ hF hD
        have h := same_of hF 0 (by kernel_rfl)
        go_simp
        exact ⟨_, rfl, m, rfl, l4T_refl hI (BH.refl _), fun _ _ h => h⟩
      · intro m a W hI _ hF hD
        have h : a.tmps[28]?.getD undef = .pointer (some ⟨p, 0, none⟩) := dep_of hD 2 28 (by kernel_rfl) rfl rfl
        go_simp
        exact ⟨_, rfl, m, rfl, l4T_refl hI (BH.refl _), fun _ _ h => h⟩
      · intro m a W hI _ hF hD
        have h : a.tmps[29]?.getD undef = .pointer (some ⟨p, 0, none⟩) := dep_of hD 3 29 (by kernel_rfl) rfl rfl
        go_simp
        exact ⟨_, rfl, m, rfl, l4T_refl hI (BH.refl _), fun _ _ h => h⟩
      · intro m a W hI _ hF hD
        have h : a.tmps[30]?.getD undef = .pointer (some ⟨p, 1, none⟩) := dep_of hD 4 30 (by kernel_rfl) rfl rfl
        obtain ⟨s0, s1, _⟩ := row2 (HH.out.bh (BH.trans HB.out.1 hI.1)).blk
        go_simp
        exact ⟨_, rfl, m, rfl, l4T_refl hI (BH.refl _), fun _ _ h => h⟩
      · intro m a W hI _ hF hD
        have h := same_of hF 4 (by kernel_rfl)
        go_simp
        exact ⟨_, rfl, m, rfl, l4T_refl hI (BH.refl _), fun _ _ h => h⟩
      · intro m a W hI _ hF hD
        have h : a.tmps[32]?.getD undef = .pointer (some ⟨gN, 1, none⟩) := dep_of hD 6 32 (by kernel_rfl) rfl rfl
        obtain ⟨s0, s1, s2, s3, _⟩ := row4 ((Below.block hI.1 _ (heap_lt HB.out.2.1)).trans HB.out.2.1)
        go_simp
        exact ⟨_, rfl, m, rfl, l4T_refl hI (BH.refl _), fun _ _ h => h⟩
      · intro m a W hI _ hF hD
        have h : a.tmps[31]?.getD undef = .map (some b) := dep_of hD 5 31 (by kernel_rfl) rfl rfl
        have h' : a.tmps[33]?.getD undef = .string ⟨#[86, 101, 99]⟩ := dep_of hD 7 33 (by kernel_rfl) rfl rfl
        have hl2 := MapL.look (P := Try.prog) (t := 38) (HH.out.bh (BH.trans HB.out.1 hI.1)).map Try.underlying9 Try.underlying38 (zeroDecl W) (s := sVec) (by decide) false
        rw [HU.out] at hl2
        have hrun : (Instr.lookup 38 (.map (some b)) (.string ⟨#[86, 101, 99]⟩) false).run Try.prog W = .ok (.agg #[.string ⟨#[86, 101, 99]⟩, .int .i64 1, .int .i64 2, .string ⟨#[76, 105, 115, 116]⟩, .int .i64 0, .slice A1 1 c1, .bool false, .slice none 0 0]) W := hl2
        clear hl2
        go_simp
        exact ⟨_, rfl, m, rfl, l4T_refl hI (BH.refl _), fun _ _ h => h⟩
      · intro m a W hI _ hF hD
        have h : a.tmps[26]?.getD undef = .pointer (some ⟨p, 0, none⟩) := dep_of hD 0 26 (by kernel_rfl) rfl rfl
        have h' : a.tmps[27]?.getD undef = .string ⟨#[76, 105, 115, 116]⟩ := dep_of hD 1 27 (by kernel_rfl) rfl rfl
        have h'' : a.tmps[34]?.getD undef = .agg #[.string ⟨#[86, 101, 99]⟩, .int .i64 1, .int .i64 2, .string ⟨#[76, 105, 115, 116]⟩, .int .i64 0, .slice A1 1 c1, .bool false, .slice none 0 0] := dep_of hD 8 34 (by kernel_rfl) rfl rfl
        go_simp
        refine (hSuperCalled_vec p A1 c1 W).mono ?_
        rintro e u ⟨rfl, hb⟩
        exact ⟨_, rfl, m, rfl, l4T_refl hI hb, fun _ _ h => h⟩
      · intro m a W hI _ hF hD
        have h : a.tmps[35]?.getD undef = .tuple #[.agg #[.int .i64 2, .string ⟨#[76, 105, 115, 116]⟩, .int .i64 0, .slice A1 1 c1], .bool true] := dep_of hD 9 35 (by kernel_rfl) rfl rfl
        go_simp
        exact ⟨_, rfl, m, rfl, l4T_refl hI (BH.refl _), fun _ _ h => h⟩
      · intro m a W hI _ hF hD
        have h : a.tmps[25]?.getD undef = .tuple #[.agg #[.int .i64 2, .string ⟨#[76, 105, 115, 116]⟩, .int .i64 0, .slice A1 1 c1], .bool true] := dep_of hD 10 25 (by kernel_rfl) rfl rfl
        go_simp
        exact ⟨_, rfl, m, rfl, l4T_refl hI (BH.refl _), fun _ _ h => h⟩
      · intro m a W hI _ hF hD
        have h : a.tmps[25]?.getD undef = .tuple #[.agg #[.int .i64 2, .string ⟨#[76, 105, 115, 116]⟩, .int .i64 0, .slice A1 1 c1], .bool true] := dep_of hD 10 25 (by kernel_rfl) rfl rfl
        go_simp
        exact ⟨_, rfl, m, rfl, l4T_refl hI (BH.refl _), fun _ _ h => h⟩
      · intro m a W hI hZ hF hD
        obtain rfl : m = none := hZ rfl
        go_simp
        exact ⟨_, rfl, some (W.heap.size, false), ⟨_, _, rfl, rfl⟩, l4_alloc hI, fun j hj e => absurd e hj⟩
      · intro m a W hI hZ hF hD
        obtain ⟨g, s, h5, rfl⟩ : ∃ g s, a.tmps[8]?.getD undef = .pointer (some ⟨g, 0, none⟩) ∧ m = some (g, s) := dep_of hD 13 8 (by kernel_rfl) rfl rfl
        have h15 : a.tmps[36]?.getD undef = .agg #[.int .i64 2, .string ⟨#[76, 105, 115, 116]⟩, .int .i64 0, .slice A1 1 c1] := dep_of hD 11 36 (by kernel_rfl) rfl rfl
        obtain ⟨y0, y1, y2, y3, hg, hblk⟩ : ∃ y0 y1 y2 y3, u1.heap.size ≤ g ∧ W.heap[g]? = some (.cells #[y0, y1, y2, y3] 31 (0, 0)) := by
          cases s with
          | false => exact ⟨_, _, _, _, hI.2.1 g rfl⟩
          | true => exact ⟨_, _, _, _, hI.2.2 g rfl⟩
        obtain ⟨h0, h1, h2, h3, z0, z1, z2, z3⟩ := row4 hblk
        have hfin := s4 hblk (.int .i64 2) (.string ⟨#[76, 105, 115, 116]⟩) (.int .i64 0) (.slice A1 1 c1)
        have hbs := below_gb_of (BH.refl u1) (s4_gb (gb_below hI.1 (some g)) hg (.int .i64 2) (.string ⟨#[76, 105, 115, 116]⟩) (.int .i64 0) (.slice A1 1 c1)) hg
        have HFin := Lib.hid (And.intro hfin hbs)
        clear hfin hbs hblk hD hF
        go_simp
        exact ⟨.bool true, some (g, true), ⟨g, rfl⟩, ⟨⟨HFin.out.2, fun g' h => (by cases h), fun g' h => (by cases h; exact ⟨hg, HFin.out.1⟩)⟩, fun g' s' e => (by cases e; exact .inr rfl)⟩, fun j hj hz e => absurd (hz e) (by simp)⟩
      · intro m a W hI _ hF hD
        have h : a.tmps[37]?.getD undef = .bool true := dep_of hD 12 37 (by kernel_rfl) rfl rfl
        go_simp
        exact ⟨_, rfl, m, rfl, l4T_refl hI (BH.refl _), fun _ _ h => h⟩
    · intro m a W hI hF hN hall
      obtain ⟨g, s, h5, hm⟩ : ∃ g s, a.tmps[8]?.getD undef = .pointer (some ⟨g, 0, none⟩) ∧ m = some (g, s) := all_of hall 13 8 rfl rfl
      have h6 : a.tmps[9]?.getD undef = .bool true := all_of hall 15 9 rfl rfl
      obtain ⟨_, g', hm'⟩ : ∃ v : Value, ∃ g', m = some (g', true) := hN 14 _ rfl rfl
      have hgg : g' = g := by rw [hm'] at hm; cases hm; rfl
      have HR := Lib.hid (And.intro h5 (And.intro h6 (And.intro hI.1 (hI.2.2 g (by rw [hm', hgg])).2)))
      have HA := Lib.hid (Frm.act hF)
      clear h5 h6 hm hm' hgg hF hI hN hall
      simp only [Exit.inBlock, Exit.then]
      apply_assumption
      refine Met.intro ?_
      go_step
      (repeat apply Exists.intro)
      refine ⟨?rela, ?eqa⟩
      case eqa => exact HA.out.trans rfl
      exact ⟨g, (Array.getD_eq_getD_getElem? ..).trans HR.out.1, (Array.getD_eq_getD_getElem? ..).trans HR.out.2.1, Lib.hid HR.out.2.2⟩
  case rest =>
    obtain ⟨g8, rfl, rfl, hC⟩ := hcut
    have hn := (Below.block hC.out.1 _ (heap_lt HB.out.2.1)).trans HB.out.2.1
    have hr := (Below.block hC.out.1 _ (heap_lt HB.out.2.2)).trans HB.out.2.2
    have HBw := Lib.hid (BH.trans HB.out.1 hC.out.1)
    have HR := Lib.hid hr
    obtain ⟨b0, b1, b2, b3, _⟩ := row4 hn
    obtain ⟨s0, s1, s2, s3, _⟩ := row4 hC.out.2
    clear hn hr
    have hI := instantiate_any 1 2 0 sList hV1 A1 c1 hI1 A c wc (by decide) (by decide) (by decide) (wid_of_size (by decide)) (by decide) (HK1.out.below HBw.out) (HK.out.below HBw.out) (by decide)
    rw [ins_ex] at hI
    have HI := Lib.hid hI
    clear hI
    go_wp2_with (fail)
    refine HI.out.mono ?_
    rintro e u2 ⟨A2, c2, rfl, h1, h2⟩
    have HR2 := Lib.hid (And.intro ((Below.block h2 _ (heap_lt HR.out)).trans HR.out) (And.intro (BH.trans HBw.out h2) (And.intro h1 (Below.size h2))))
    clear h1 h2 b0 b1 b2 b3 s0 s1 s2 s3
    obtain ⟨b0, b1, b2, b3, y0, y1, y2, y3⟩ := row4 HR2.out.1
    go_wp2_with (fail)
    obtain ⟨m0, m1, m2, m3, _⟩ := row4 (s4 HR2.out.1 (.int .i64 2) (.string ⟨sList.toArray⟩) (.int .i64 0) (.slice A2 hI1.len c2))
    have hgs := heap_lt HR.out
    have hgw := HgN.out
    have hsz := HR2.out.2.2.2
    refine bodyPost_ret (v := .tuple #[.agg #[.int .i64 2, .string ⟨sList.toArray⟩, .int .i64 0, .slice A2 hI1.len c2], .bool true]) (by simp [results, Try.results13, go_sem, m0, m1, m2, m3]) rfl ⟨A2, c2, rfl, ?_, ?_⟩
    · exact (HR2.out.2.2.1.keep (S' := fun _ => True) (by simp [size_set]) fun x hx hl => ⟨s4_far (by rcases hx with hx | hx; exact hx.elim; omega) _ _ _ _, trivial⟩).kt
    · exact below_gb_of (BH.refl w) (s4_gb (N := gN + 1) (gb_below HR2.out.2.1 (some (gN + 1))) (by omega) _ _ _ _) (by omega)
end Go.Proofs.Ytpdigaankmgagaa
namespace Go.Proofs.Ytpdigaankmgagaa.Sx
theorem vt_any (ar : Int) : vtB 0 [] 0 .nil ar = true := by
  rw [vtB, show free1 0 0 .nil 0 = [] from rfl, setI_nil]
  rfl
theorem vt_list : vtB 2 sList 0 hV1 1 = true := by
  rw [vtB, show free1 2 0 hV1 0 = [0] from by simp [free1, freeL, hV1, freeB, aroundB, Go.RowKit.wrap64], setI_one]
  rfl
theorem vd_list : vdB dList = true := by
  rw [vdB, vsB]
  show (tnB sList && (decide ((0 : Int) ≤ 1) && (((0 : Int) == 0 || (0 : Int) == 2) && vtB 0 [] 0 .nil 1))) = true
  rw [vt_any]
  decide
theorem vd_vec : vdB dVec = true := by
  rw [vdB, vsB]
  show (tnB sVec && (decide ((0 : Int) ≤ 1) && (((2 : Int) == 0 || (2 : Int) == 2) && vtB 2 sList 0 hV1 1))) = true
  rw [vt_list]
  decide
theorem de_list : declE ds0 dList = 0 := by
  rw [declE, if_neg (by rw [vd_list]; simp), if_neg (by decide)]
  rfl
theorem de_vec : declE (ds0 ++ [dList]) dVec = 0 := by
  rw [declE, if_neg (by rw [vd_vec]; simp), if_neg (by decide)]
  rfl
theorem dd_list : declD ds0 dList = ds0 ++ [dList] := by rw [declD, if_pos ⟨de_list, rfl⟩]
theorem dd_vec : declD (ds0 ++ [dList]) dVec = ds0 ++ [dList] ++ [dVec] := by rw [declD, if_pos ⟨de_vec, rfl⟩]
end Go.Proofs.Ytpdigaankmgagaa.Sx
namespace Go.Proofs.Ytpdigaankmgagaa
open Go.RowKit Sx

theorem good0 : ∀ d ∈ ds0, GoodD 1 d := by
  intro d hd
  obtain ⟨s, hs, rfl⟩ := List.mem_map.1 hd
  refine ⟨rfl, by show fsize Fo.nil ≤ _; decide, rfl, ?_⟩
  have key : ∀ s ∈ nm0, s.length ≤ 1048576 := by decide
  exact key s hs
theorem goodL : GoodD 1 dList := ⟨rfl, by decide, by decide, by decide⟩
theorem goodV : GoodD 1 dVec := ⟨rfl, by decide, by decide, by decide⟩
theorem good_app {V : Int} {ds : List De} {d : De} (h : ∀ x ∈ ds, GoodD V x) (hd : GoodD V d) : ∀ x ∈ ds ++ [d], GoodD V x := by
  intro x hx
  rcases List.mem_append.1 hx with hx | hx
  · exact h x hx
  · simp at hx
    subst hx
    exact hd

theorem hTermEq (k o k' o' : Int) (t t' : List UInt8) (kids kids' : Fo) (A A' : Option Addr) (c c' : Nat) (w : World) (hN2 : fsize kids ≤ 4611686018427387904) (hN3 : fsize kids' ≤ 4611686018427387904) (hK : KT w kids A c) (hK' : KT w kids' A' c') :
    Calls Try.prog 14 #[.agg #[.int .i64 k, .string ⟨t.toArray⟩, .int .i64 o, .slice A kids.len c], .agg #[.int .i64 k', .string ⟨t'.toArray⟩, .int .i64 o', .slice A' kids'.len c']] w fun e w' => e = .returned (.bool (cmp1 k t o kids k' t' o' kids' == 0)) ∧ Below w.heap.size w w' := by
  have B2 : Below w.heap.size w ((w.alloc (.cells #[.int .i64 k, .string ⟨t.toArray⟩, .int .i64 o, .slice A kids.len c] 31 (0, 0))).alloc (.cells #[.int .i64 k', .string ⟨t'.toArray⟩, .int .i64 o', .slice A' kids'.len c'] 31 (0, 0))) :=
    ((Below.refl _ _).alloc (Nat.le_refl _) _).alloc (by simp) _
  have HC := Lib.hid (rcompare_any (fsize kids) k o k' o' t t' kids kids' A A' c c' _ (Nat.le_refl _) hN2 hN3 (hK.below B2) (hK'.below B2))
  have HB := Lib.hid B2
  clear B2 hK hK'
  go_enter Try.func14, Try.ntmps14
  go_wp2_with (go_at_call 25; refine HC.out.mono ?_; rintro e w4 ⟨rfl, hb⟩; have HB4 := Lib.hid hb; clear hb)
  go_ret
  exact ⟨rfl, HB.out.trans (HB4.out.mono HB.out.size)⟩

set_option maxHeartbeats 8000000 in
set_option maxRecDepth 100000 in
theorem check3_any (w : World) : Calls Try.prog 5 #[] w fun e w' => e = .returned (.bool true) ∧ BH w w' := by
  go_enter Try.func5, Try.ntmps5
  go_wp2_with (fail)
  refine (hnew_any _).mono ?_
  rintro e u1 ⟨p, b, v, l, rfl, hH, hb⟩
  have HH := Lib.hid hH
  have HB := Lib.hid hb
  clear hH hb
  go_wp2_with (fail)
  refine (hDeclare0 1 w.heap.size p b v l ds0 dList none 0 u1 HH.out good0 goodL (Below.size HB.out) (by decide) (by decide) (by decide) ⟨Nat.le_refl _, [], reads_nil _ _, rfl⟩ (by decide) trivial).mono ?_
  rintro e u2 ⟨v2, l2, rfl, h1, h2⟩
  rw [de_list]
  rw [dd_list] at h1
  have HH2 := Lib.hid h1
  have HB2 := Lib.hid (Below.trans (show Below w.heap.size w u1 from HB.out) (h2.below HH.out (Below.size HB.out)))
  clear h1 h2 HH HB
  go_wp2_with (fail)
  refine (varC _ _).mono ?_
  rintro e u3 ⟨rfl, h3⟩
  have hA := heap_alloc_new u3 (.cells #[.int .i64 5, .string ⟨#[]⟩, .int .i64 0, .slice none 0 0] 31)
  have f3 := bh_alloc h3 (.cells #[.int .i64 5, .string ⟨#[]⟩, .int .i64 0, .slice none 0 0] 31)
  have hs3 := Below.size h3
  go_wp2_with (fail)
  refine (namedC _ _ _ _ _).mono ?_
  rintro e u4 ⟨rfl, h4⟩
  have hblk := (Below.block h4 _ (heap_lt hA)).trans hA
  have hb4 := BH.trans f3 h4
  have HH4 := Lib.hid (HH2.out.bh hb4)
  have HB4 := Lib.hid (Below.trans (show Below w.heap.size w u2 from HB2.out) (hb4.mono (Below.size HB2.out)))
  obtain ⟨gA, hgA⟩ : ∃ gA, u3.heap.size = gA := ⟨_, rfl⟩
  rw [hgA] at hblk hs3 ⊢
  have hKS : KS u4 (fun x => x ≠ p ∧ x ≠ b ∧ v2.ownBlock ≠ some x) hV1 (some ⟨gA, 0, none⟩) 1 := by
    have hS : gA ≠ p ∧ gA ≠ b ∧ v2.ownBlock ≠ some gA := ⟨by have := heap_lt HH2.out.blk; omega, by have := HH2.out.map.lt; omega, fun e => by have := (HH2.out.own.lt gA e).2; omega⟩
    refine ⟨Nat.le_refl _, [.int .i64 5, .string ⟨#[]⟩, .int .i64 0, .slice none 0 0], fun _ => ⟨gA, 0, rfl, hS, heap_lt hblk, fun j u hu => ?_⟩, none, 0, [], [], rfl, Nat.le_refl _, reads_nil _ _, rfl, rfl⟩
    rw [Nat.zero_add, cell_of_row _ _ j _ _ _ hblk]
    simpa using hu
  have HKS := Lib.hid hKS
  clear hgA hA f3 h3 h4 hblk hb4 hKS hs3 HH2 HB2
  go_wp2_with (fail)
  refine (hDeclare0 1 w.heap.size p b v2 l2 (ds0 ++ [dList]) dVec (some ⟨gA, 0, none⟩) 1 u4 HH4.out (good_app good0 goodL) goodV (Below.size HB4.out) (by decide) (by decide) (by decide) HKS.out (by decide) ⟨by decide, trivial, trivial⟩).mono ?_
  rintro e u5 ⟨v5, l5, rfl, h1, h2⟩
  rw [de_vec]
  rw [dd_vec] at h1
  have HH5 := Lib.hid h1
  have HB5 := Lib.hid (Below.trans (show Below w.heap.size w u4 from HB4.out) (h2.below HH4.out (Below.size HB4.out)))
  clear h1 h2 HH4 HB4 HKS
  go_wp2_with (fail)
  refine (namedC _ _ _ _ _).mono ?_
  rintro e u6 ⟨rfl, h6⟩
  have hA := heap_alloc_new u6 (.cells #[.int .i64 2, .string ⟨#[73, 110, 116]⟩, .int .i64 0, .slice none 0 0] 31)
  have f6 := bh_alloc h6 (.cells #[.int .i64 2, .string ⟨#[73, 110, 116]⟩, .int .i64 0, .slice none 0 0] 31)
  go_wp2_with (fail)
  refine (namedC _ _ _ _ _).mono ?_
  rintro e u7 ⟨rfl, h7⟩
  have hk := kt1 (k := 2) (t := sInt) (o := 0) (kids := .nil) (A := none) (c := 0) ((Below.block h7 _ (heap_lt hA)).trans hA) (kt0 _)
  have hb7 := BH.trans f6 h7
  obtain ⟨gA, hgA⟩ : ∃ gA, u6.heap.size = gA := ⟨_, rfl⟩
  rw [hgA] at hk ⊢
  have HH7 := Lib.hid (HH5.out.bh hb7)
  have HB7 := Lib.hid (Below.trans (show Below w.heap.size w u5 from HB5.out) (hb7.mono (Below.size HB5.out)))
  have HK7 := Lib.hid hk
  clear hgA hA f6 h6 h7 hk hb7 HH5 HB5
  go_wp2_with (fail)
  refine (hSuper_vec w.heap.size p b v5 l5 (ds0 ++ [dList] ++ [dVec]) (some ⟨gA, 0, none⟩) 1 u7 HH7.out rfl HK7.out).mono ?_
  rintro e u8 ⟨A8, c8, rfl, hk8, hb8⟩
  have HH8 := Lib.hid (HH7.out.bh hb8)
  have HB8 := Lib.hid (Below.trans (show Below w.heap.size w u7 from HB7.out) (hb8.mono (Below.size HB7.out)))
  have HK8 := Lib.hid hk8
  clear hk8 hb8 HH7 HB7 HK7
  go_upto_region 5 with (fail)
  refine gen_wp _ (fun X => Hier X w.heap.size p b v5 l5 (ds0 ++ [dList] ++ [dVec]) ∧ BH w X ∧ X.heap[u8.heap.size]? = some (.cells #[.int .i64 2, .string ⟨#[76, 105, 115, 116]⟩, .int .i64 0, .slice A8 1 c8] 31 (0, 0)) ∧ KT X hI1 A8 c8) ?_ ?_
  · have f1 := bh_alloc (BH.refl u8) (.cells #[.int .i64 2, .string ⟨#[76, 105, 115, 116]⟩, .int .i64 0, .slice A8 1 c8] 31)
    exact ⟨HH8.out.bh f1, Below.trans (show Below w.heap.size w u8 from HB8.out) (f1.mono (Below.size HB8.out)), heap_alloc_new u8 _, HK8.out.below f1⟩
  rintro X ⟨x1, x2, x3, x4⟩
  obtain ⟨g2, hg2⟩ : ∃ g2, u8.heap.size = g2 := ⟨_, rfl⟩
  rw [hg2] at x3 ⊢
  clear hg2 HH8 HB8 HK8
  obtain ⟨b0, b1, b2, b3, _⟩ := row4 x3
  have CE : Hid (∀ Y A c, BH X Y → KT Y hI1 A c → Calls Try.prog 14 #[.agg #[.int .i64 2, .string ⟨#[76, 105, 115, 116]⟩, .int .i64 0, .slice A8 1 c8], .agg #[.int .i64 2, .string ⟨#[76, 105, 115, 116]⟩, .int .i64 0, .slice A 1 c]] Y fun e u => e = .returned (.bool true) ∧ BH Y u) := Lib.hid fun Y A c hY hk => by
    refine (hTermEq 2 0 2 0 sList sList hI1 hI1 A8 A c8 c Y (by decide) (by decide) (x4.below hY) hk).mono ?_
    rintro e u ⟨rfl, hb⟩
    exact ⟨by rw [cmp1_self]; rfl, hb⟩
  have CD : Hid (∀ Y, BH X Y → Calls Try.prog 9 #[.pointer (some ⟨p, 0, none⟩)] Y fun e u => (∃ A c, e = .returned (.slice A 6 c)) ∧ BH Y u) := Lib.hid fun Y hY => by
    refine (hDecls_len 1 w.heap.size p b v5 l5 (ds0 ++ [dList] ++ [dVec]) Y (x1.bh hY) (good_app (good_app good0 goodL) goodV) (Below.size (BH.trans x2 hY)) (by decide) (by decide) (by decide)).mono ?_
    rintro e u ⟨A, c, rfl, hb⟩
    exact ⟨⟨A, c, rfl⟩, hb⟩
  have HPn := Lib.hid (below_drew X)
  have HX2 := Lib.hid x2
  have HG2 := Lib.hid x3
  clear x1 x2 x3 x4
  go_region_held3 (fun Y => Y.cell? ⟨g2, 0, none⟩ = some (.int .i64 2) ∧ Y.cell? ⟨g2, 1, none⟩ = some (.string ⟨#[76, 105, 115, 116]⟩) ∧ Y.cell? ⟨g2, 2, none⟩ = some (.int .i64 0) ∧ Y.cell? ⟨g2, 3, none⟩ = some (.slice A8 1 c8)) (go_keep)
    (first
      | (go_at_call 11; refine (namedC _ _ _ _ _).mono ?_; rintro e u ⟨rfl, hb⟩; (first | (have HPn := Lib.hid (BH.trans HPn.out hb)) | (have HBk := Lib.hid ((Below.block hb _ (heap_lt (heap_alloc_new _ _))).trans (heap_alloc_new _ _)); have HPn := Lib.hid (BH.trans HPn.out (BH.trans (bh_alloc (BH.refl _) _) hb)))); clear hb; obtain ⟨b0, b1, b2, b3, _⟩ := row4 ((Below.block HPn.out _ (heap_lt HG2.out)).trans HG2.out))
      | (go_at_call 14; refine (CE.out _ _ _ HPn.out (kt1 (t := sInt) (kids := .nil) HBk.out (kt0 _))).mono ?_; rintro e u ⟨rfl, hb⟩; have HPn := Lib.hid (BH.trans HPn.out hb); clear hb; obtain ⟨b0, b1, b2, b3, _⟩ := row4 ((Below.block HPn.out _ (heap_lt HG2.out)).trans HG2.out))
      | (go_at_call 9; refine (CD.out _ HPn.out).mono ?_; rintro e u ⟨⟨A9, c9, rfl⟩, hb⟩; have HPn := Lib.hid (BH.trans HPn.out hb); clear hb; obtain ⟨b0, b1, b2, b3, _⟩ := row4 ((Below.block HPn.out _ (heap_lt HG2.out)).trans HG2.out)))
  all_goals
    go_wp2_with (fail)
    go_ret
    exact ⟨rfl, BH.trans HX2.out HPn.out⟩
end Go.Proofs.Ytpdigaankmgagaa
