/- hierarchy.copyDecl of a declaration with fields. No condition but bounded sizes. -/
import Derived.Test.YtpkiheenkpcebaaGreatDoorMan
import Derived.Deep.CutBlock
set_option linter.unusedVariables false
set_option linter.unusedSimpArgs false
namespace Go.Proofs.YtpkiheenkpcebaaGreatDoor
open Go.RowKit Sx

/-- what the operations ahead of the store of a field's type leave -/
def cpV (gb g i n x2 : Nat) (k o : Int) (t : List UInt8) (kids : Fo) (A : Option Addr) (c B0 : Nat) (j : Nat) (v : Value) (w : World) : Prop :=
  match j with
  | 0 => v = .pointer (some ⟨gb, 7, none⟩)
  | 1 => v = .slice (some ⟨g, 0, none⟩) n x2
  | 2 => v = .int .i64 (i : Int)
  | 3 => v = .pointer (some ⟨gb, 7, none⟩)
  | 4 => v = .slice (some ⟨g, 0, none⟩) n x2
  | 5 => v = .int .i64 (i : Int)
  | 6 => v = .pointer (some ⟨g, i * 5, none⟩)
  | 7 => v = .pointer (some ⟨g, i * 5 + 1, none⟩)
  | 8 => v = .agg #[.int .i64 k, .string ⟨t.toArray⟩, .int .i64 o, .slice A kids.len c]
  | 9 => ∃ A3 c3, v = .agg #[.int .i64 k, .string ⟨t.toArray⟩, .int .i64 o, .slice A3 kids.len c3] ∧ KS w (fun x => B0 ≤ x) kids A3 c3
  | 10 => v = .pointer (some ⟨g, i * 5, none⟩)
  | 11 => v = .pointer (some ⟨g, i * 5 + 1, none⟩)
  | _ => True
theorem cpV_bh {gb g i n x2 : Nat} {k o : Int} {t : List UInt8} {kids : Fo} {A : Option Addr} {c B0 : Nat} {j : Nat} {v : Value} {w w' : World} (h : cpV gb g i n x2 k o t kids A c B0 j v w) (hb : BH w w') : cpV gb g i n x2 k o t kids A c B0 j v w' := by
  unfold cpV at *
  split at h
  all_goals first
    | exact h
    | (obtain ⟨A2, c2, e, hk⟩ := h; exact ⟨A2, c2, e, hk.bh hb⟩)

set_option maxHeartbeats 8000000 in
set_option maxRecDepth 100000 in
theorem copyDecl_any (V : Int) (d : De) (A F : Option Addr) (c x : Nat) (w : World) (S : Nat → Prop) (hV0 : 0 ≤ V) (hV1 : V ≤ 1152921504606846976) (hok : OkD V d) (hK : KS w S d.super.kids A c) (hFl : FlS w S d.fields F x) :
    Calls Tryz.prog 50 #[.agg #[.string ⟨d.name.toArray⟩, .int .i64 d.arity, .int .i64 d.super.k, .string ⟨d.super.t.toArray⟩, .int .i64 d.super.o, .slice A d.super.kids.len c, .bool d.conc, .slice F d.fields.length x]] w fun e w' => ∃ A2 c2 F2 x2, e = .returned (.agg #[.string ⟨d.name.toArray⟩, .int .i64 d.arity, .int .i64 d.super.k, .string ⟨d.super.t.toArray⟩, .int .i64 d.super.o, .slice A2 d.super.kids.len c2, .bool d.conc, .slice F2 d.fields.length x2]) ∧ KS w' (fun x => w.heap.size ≤ x) d.super.kids A2 c2 ∧ FlS w' (fun x => w.heap.size ≤ x) d.fields F2 x2 ∧ BH w w' := by
  obtain ⟨n, ar, ⟨k, t, kids, o⟩, cc, fs⟩ := d
  obtain ⟨hn, ⟨hN, ht, hl, hcl⟩, hfl, hff⟩ := hok
  simp only at hn hN ht hl hcl hfl hff hK hFl ⊢
  obtain ⟨ys, hrea, hfx⟩ := hFl.rea
  obtain ⟨M, hM⟩ : ∃ M, fs.length = M := ⟨_, rfl⟩
  rw [hM] at hrea hfl ⊢
  have HM := Lib.hid hM
  have f1 := bh_alloc (BH.refl w) (.cells #[.string ⟨n.toArray⟩, .int .i64 ar, .int .i64 k, .string ⟨t.toArray⟩, .int .i64 o, .slice A kids.len c, .bool cc, .slice F M x] 37)
  have e1 := heap_alloc_new w (.cells #[.string ⟨n.toArray⟩, .int .i64 ar, .int .i64 k, .string ⟨t.toArray⟩, .int .i64 o, .slice A kids.len c, .bool cc, .slice F M x] 37)
  have f2 := bh_alloc f1 (.cells #[.string ⟨#[]⟩, .int .i64 0, .int .i64 0, .string ⟨#[]⟩, .int .i64 0, .slice none 0 0, .bool false, .slice none 0 0] 37)
  have e2 := heap_alloc_new (w.alloc (.cells #[.string ⟨n.toArray⟩, .int .i64 ar, .int .i64 k, .string ⟨t.toArray⟩, .int .i64 o, .slice A kids.len c, .bool cc, .slice F M x] 37)) (.cells #[.string ⟨#[]⟩, .int .i64 0, .int .i64 0, .string ⟨#[]⟩, .int .i64 0, .slice none 0 0, .bool false, .slice none 0 0] 37)
  rw [World.size_alloc] at e2
  have e1' := (Below.heap_alloc (w.alloc (.cells #[.string ⟨n.toArray⟩, .int .i64 ar, .int .i64 k, .string ⟨t.toArray⟩, .int .i64 o, .slice A kids.len c, .bool cc, .slice F M x] 37)) (.cells #[.string ⟨#[]⟩, .int .i64 0, .int .i64 0, .string ⟨#[]⟩, .int .i64 0, .slice none 0 0, .bool false, .slice none 0 0] 37) w.heap.size (by simp)).trans e1
  have HC := Lib.hid (hcopy_any V k o t kids A c _ hV0 hV1 (by omega) (hK.kt.below f2) hcl)
  have HE := Lib.hid (And.intro e1' (And.intro e2 f2))
  have HR := Lib.hid hrea
  have HX0 := Lib.hid (FX.keep (S' := fun y => y < w.heap.size) (Nat.le_refl _) (fun y _ hl => ⟨rfl, hl⟩) _ _ hfx)
  have HFF := Lib.hid hff
  obtain ⟨⟨r0, r1, r2, r3, r4, r5, r6, r7⟩, z0, z1, z2, z3, z4, z5, z6, z7⟩ := row8 e1'
  clear f1 e1 f2 e2 e1' hK hcl hN hFl hrea hfx hff hM hl ht hn
  go_enter Tryz.func50, Tryz.ntmps50
  go_wp2_with (fail)
  refine HC.out.mono ?_
  rintro e w2 ⟨A2, c2, rfl, u1, u2⟩
  obtain ⟨g1, g2, g3⟩ := HE.out
  have E1 := Lib.hid ((Below.block u2 _ (heap_lt g1)).trans g1)
  have E2 := Lib.hid ((Below.block u2 _ (heap_lt g2)).trans g2)
  have U1 := Lib.hid (u1.keep (S' := fun y => w.heap.size + 2 ≤ y) (Nat.le_refl _) fun y hy _ => ⟨rfl, hy.elim (fun h => h.elim) fun h => by simpa using h⟩)
  have U2 := Lib.hid (BH.trans g3 u2)
  clear g1 g2 g3 u1 u2 r0 r1 r2 r3 r4 r5 r6 r7 z0 z1 z2 z3 z4 z5 z6 z7 HC HE
  obtain ⟨⟨r0, r1, r2, r3, r4, r5, r6, r7⟩, z0, z1, z2, z3, z4, z5, z6, z7⟩ := row8 E1.out
  go_upto_region 2 with (fail)
  refine gen_wp _ (fun X => X.heap[w.heap.size]? = some (.cells #[.string ⟨n.toArray⟩, .int .i64 ar, .int .i64 k, .string ⟨t.toArray⟩, .int .i64 o, .slice A2 kids.len c2, .bool cc, .slice F M x] 37 (0, 0)) ∧ X.heap[w.heap.size + 1]? = some (.cells #[.string ⟨#[]⟩, .int .i64 0, .int .i64 0, .string ⟨#[]⟩, .int .i64 0, .slice none 0 0, .bool false, .slice none 0 0] 37 (0, 0)) ∧ KS X (fun y => w.heap.size + 2 ≤ y) kids A2 c2 ∧ BH w X) ?_ ?_
  · refine ⟨s4at2 E1.out _ _ _ _, (s4at2_far (by omega) _ _ _ _).trans E2.out, U1.out.keep (by simp [size_set]) fun y hy _ => ⟨s4at2_far (by omega) _ _ _ _, hy⟩, ?_⟩
    exact below_gb_of (BH.refl w) (s4at2_gb (gb_below U2.out (some w.heap.size)) (Nat.le_refl _) _ _ _ _) (Nat.le_refl _)
  rintro X3 ⟨x1, x2, x3, x4⟩
  have HX := Lib.hid (And.intro x1 (And.intro x2 (And.intro x3 x4)))
  have hCl := cloneF F M x ys X3 hfl (HR.out.bh x4)
  have HCl := Lib.hid hCl
  clear E1 E2 U1 U2 r0 r1 r2 r3 r4 r5 r6 r7 z0 z1 z2 z3 z4 z5 z6 z7 x2 x3 x4 hCl
  obtain ⟨⟨r0, r1, r2, r3, r4, r5, r6, r7⟩, z0, z1, z2, z3, z4, z5, z6, z7⟩ := row8 x1
  clear x1
  go_wp2_with (fail)
  refine HCl.out.mono ?_
  rintro e w4 ⟨F2, x2c, rfl, ho, hb⟩
  obtain ⟨x1, x2, x3, x4⟩ := HX.out
  have hlt3 : w.heap.size + 2 ≤ X3.heap.size := by have := heap_lt x2; omega
  have HL3 := Lib.hid hlt3
  have hk4 : KS w4 (fun y => w.heap.size + 2 ≤ y ∧ y < X3.heap.size) kids A2 c2 := (x3.keep (S' := fun y => w.heap.size + 2 ≤ y ∧ y < X3.heap.size) (Nat.le_refl _) fun y hy hl => ⟨rfl, hy, hl⟩).bh hb
  have HY := Lib.hid (And.intro ((Below.block hb _ (heap_lt x1)).trans x1) (And.intro ((Below.block hb _ (heap_lt x2)).trans x2) (And.intro hk4 (And.intro ho (BH.trans x4 hb)))))
  clear x1 x2 x3 x4 hb HX r0 r1 r2 r3 r4 r5 r6 r7 z0 z1 z2 z3 z4 z5 z6 z7 ho hk4 hlt3 HCl
  obtain ⟨⟨r0, r1, r2, r3, r4, r5, r6, r7⟩, z0, z1, z2, z3, z4, z5, z6, z7⟩ := row8 HY.out.1
  go_upto_region 3 with (fail)
  refine gen_wp _ (fun X => (X.heap[w.heap.size]? = some (.cells #[.string ⟨n.toArray⟩, .int .i64 ar, .int .i64 k, .string ⟨t.toArray⟩, .int .i64 o, .slice A2 kids.len c2, .bool cc, .slice F2 M x2c] 37 (0, 0)) ∧ X.heap[w.heap.size + 1]? = some (.cells #[.string ⟨#[]⟩, .int .i64 0, .int .i64 0, .string ⟨#[]⟩, .int .i64 0, .slice none 0 0, .bool false, .slice none 0 0] 37 (0, 0))) ∧ KS X (fun y => w.heap.size + 2 ≤ y ∧ y < X3.heap.size) kids A2 c2 ∧ X.ownsRow X3.heap.size 40 5 (.slice F2 M x2c) M ys ∧ BH w X) ?_ ?_
  · obtain ⟨x1, x2, x3, x5, x4⟩ := HY.out
    refine ⟨⟨heap_set (i := 7) x1 _, (heap_far (p := ⟨w.heap.size, 7, none⟩) (show w.heap.size + 1 ≠ w.heap.size by omega) _).trans x2⟩, x3.keep (by simp [size_set]) fun y hy _ => ⟨heap_far (p := ⟨w.heap.size, 7, none⟩) (show y ≠ w.heap.size by omega) _, hy⟩, ?_, ?_⟩
    · refine x5.kept (row := some w.heap.size) (gb_setCell (World.grownBy.refl _ _) (.inl rfl) _) ?_
      cases hv : (Value.slice F2 M x2c).ownBlock with
      | none => exact .inl rfl
      | some y => exact .inr (by have := (x5.lt y hv).1; have := HL3.out; simp; omega)
    · exact below_gb_of (BH.refl w) (gb_setCell (gb_below x4 (some w.heap.size)) (.inr (Nat.le_refl _)) _) (Nat.le_refl _)
  rintro X5 ⟨⟨x1, x2⟩, x3, x5, x4⟩
  have HZ := Lib.hid (And.intro x1 (And.intro x2 (And.intro x3 (And.intro x5 x4))))
  clear x2 x3 x4 x5 HY r0 r1 r2 r3 r4 r5 r6 r7 z0 z1 z2 z3 z4 z5 z6 z7
  obtain ⟨⟨r0, r1, r2, r3, r4, r5, r6, r7⟩, z0, z1, z2, z3, z4, z5, z6, z7⟩ := row8 x1
  clear x1
  go_wp2_with (fail)
  go_loopw [15] (fun iv wr => ∃ i : Nat, iv = .int .i64 (i : Int) ∧ i ≤ M ∧ Hid ((wr.heap[w.heap.size]? = some (.cells #[.string ⟨n.toArray⟩, .int .i64 ar, .int .i64 k, .string ⟨t.toArray⟩, .int .i64 o, .slice A2 kids.len c2, .bool cc, .slice F2 M x2c] 37 (0, 0)) ∧ wr.heap[w.heap.size + 1]? = some (.cells #[.string ⟨#[]⟩, .int .i64 0, .int .i64 0, .string ⟨#[]⟩, .int .i64 0, .slice none 0 0, .bool false, .slice none 0 0] 37 (0, 0))) ∧ KS wr (fun y => w.heap.size + 2 ≤ y ∧ y < X3.heap.size) kids A2 c2 ∧
      (∃ us zs, wr.ownsRow X3.heap.size 40 5 (.slice F2 M x2c) M (us ++ zs) ∧ us.length = i * 5 ∧ FX wr (fun y => w.heap.size + 2 ≤ y ∧ (Value.slice F2 M x2c).ownBlock ≠ some y) (fs.take i) us ∧ FX wr (fun y => y < w.heap.size) (fs.drop i) zs) ∧ BH w wr)) (fun iv _ => M - (match iv with | .int _ n => n.toNat | _ => 0))
  case atStart =>
    obtain ⟨x1, x2, x3, x5, x4⟩ := HZ.out
    exact ⟨0, rfl, Nat.zero_le _, Lib.hid ⟨⟨x1, x2⟩, x3, ⟨[], ys, x5, rfl, rfl, FX.keep (Below.size x4) (fun y hy hl => ⟨Below.block x4 y hl, hy⟩) _ _ HX0.out⟩, x4⟩⟩
  case round =>
    obtain ⟨i, rfl, hiM, hR⟩ := hrel
    obtain ⟨⟨x1, x2⟩, _⟩ := hR.out
    clear r0 r1 r2 r3 r4 r5 r6 r7 z0 z1 z2 z3 z4 z5 z6 z7
    by_cases hlt : i < M
    · have hge : decide ((i : Int) < (M : Int)) = true := by rw [decide_eq_true_eq]; omega
      have hiL : (i : Int) < (M : Int) := by omega
      have hi0 : (0 : Int) ≤ (i : Int) := by omega
      obtain ⟨⟨n1, ⟨k1, t1, h1, j1⟩⟩, hy⟩ : ∃ f, fs[i]? = some f := ⟨_, List.getElem?_eq_getElem (by rw [HM.out]; exact hlt)⟩
      have hd : fs.drop i = (n1, ⟨k1, t1, h1, j1⟩) :: fs.drop (i + 1) := by
        obtain ⟨hl, he⟩ := List.getElem?_eq_some_iff.1 hy
        rw [List.drop_eq_getElem_cons hl, he]
      have htk : fs.take (i + 1) = fs.take i ++ [(n1, ⟨k1, t1, h1, j1⟩)] := by rw [List.take_add_one, hy]; rfl
      obtain ⟨hf1, hf2, hf3, hf4, hf5⟩ := HFF.out _ (List.mem_of_getElem? hy)
      simp only at hf1 hf2 hf3 hf4 hf5
      obtain ⟨_, x3, ⟨us, zs, q1, q2, q3, q4⟩, q5⟩ := hR.out
      rw [hd] at q4
      obtain ⟨A1, c1, zs', rfl, hk1, q6⟩ := q4
      simp only at hk1 q1
      obtain ⟨g, rfl, hg⟩ : ∃ g, F2 = some ⟨g, 0, none⟩ ∧ X3.heap.size ≤ g := by
        rcases q1.2 with ⟨e, h0⟩ | ⟨g, cap, cur, e, hb, _⟩
        · exact absurd h0 (by omega)
        · cases e; exact ⟨g, rfl, hb⟩
      have hat : ∀ j u, (five n1 ⟨k1, t1, h1, j1⟩ A1 c1)[j]? = some u → wr.cell? ⟨g, i * 5 + j, none⟩ = some u := by
        intro j u hu
        have hj : j < (five n1 ⟨k1, t1, h1, j1⟩ A1 c1).length := (List.getElem?_eq_some_iff.1 hu).1
        have := q1.cells (g := g) rfl (i * 5 + j) u (by rw [List.getElem?_append_right (by omega), q2, Nat.add_sub_cancel_left, List.getElem?_append_left hj]; exact hu)
        rw [add_none, Nat.zero_add] at this
        exact this
      have c0 := hat 1 _ rfl
      have c1' := hat 2 _ rfl
      have c2' := hat 3 _ rfl
      have c3' := hat 4 _ rfl
      have hgl := (q1.lt g rfl).2
      obtain ⟨⟨r0, r1, r2, r3, r4, r5, r6, r7⟩, _⟩ := row8 x1
      have HG := Lib.hid (And.intro hg hgl)
      have HCells := Lib.hid (And.intro c0 (And.intro c1' (And.intro c2' c3')))
      have HQ := Lib.hid (And.intro q1 (And.intro q2 (And.intro q3 (And.intro hk1 (And.intro q6 (And.intro q5 (And.intro x3 (And.intro x1 x2))))))))
      have HCP := Lib.hid (fun X (hX : BH wr X) => hcopy_any V k1 j1 t1 h1 A1 c1 X hV0 hV1 (by omega) ((hk1.bh hX).kt) hf5)
      have HTk := Lib.hid htk
      have HM2 := Lib.hid hiM
      clear hat c0 c1' c2' c3' hg hgl q1 q2 q3 hk1 q6 q5 x3 x1 x2 hf1 hf2 hf3 hf4 hf5 hy hd htk hR hiM
      go_upto_block 1 with (fail)
      obtain ⟨RR, hRR⟩ : ∃ RR : World → Prop, RR = (fun W => Hid ((W.heap[w.heap.size]? = some (.cells #[.string ⟨n.toArray⟩, .int .i64 ar, .int .i64 k, .string ⟨t.toArray⟩, .int .i64 o, .slice A2 kids.len c2, .bool cc, .slice (some ⟨g, 0, none⟩) M x2c] 37 (0, 0)) ∧ W.heap[w.heap.size + 1]? = some (.cells #[.string ⟨#[]⟩, .int .i64 0, .int .i64 0, .string ⟨#[]⟩, .int .i64 0, .slice none 0 0, .bool false, .slice none 0 0] 37 (0, 0))) ∧ KS W (fun y => w.heap.size + 2 ≤ y ∧ y < X3.heap.size) kids A2 c2 ∧
        (∃ us zs, W.ownsRow X3.heap.size 40 5 (.slice (some ⟨g, 0, none⟩) M x2c) M (us ++ zs) ∧ us.length = (i + 1) * 5 ∧ FX W (fun y => w.heap.size + 2 ≤ y ∧ (Value.slice (some ⟨g, 0, none⟩) M x2c).ownBlock ≠ some y) (fs.take (i + 1)) us ∧ FX W (fun y => y < w.heap.size) (fs.drop (i + 1)) zs) ∧ BH w W)) := ⟨_, rfl⟩
      have HRR := Lib.hid hRR
      clear hRR
      go_cut [] (fun wx => RR wx)
      case first =>
        go_upto_region 6 with (fail)
        refine wp_region_last (γ := Unit) (by kernel_rfl) (fun _ => cpV w.heap.size g i M x2c k1 j1 t1 h1 A1 c1 wr.heap.size) (fun _ W => BH wr W) (fun _ W _ W' => BH W W') (fun _ _ => True) (fun _ W => RR W) () 12 _ rfl (below_drew wr) (fun _ => trivial) (fun _ _ _ _ h1 h2 => BH.trans h1 h2) (fun _ _ _ _ _ _ h1 h2 => cpV_bh h1 h2) (by kernel_rfl) ?_ ?_ ?_
        · refine ⟨?_, ?_, ?_, ?_, ?_, ?_, ?_, ?_, ?_, ?_, ?_, ?_, trivial⟩
          · intro m a W hI _ hF hD
            have h := same_of hF 1 (by kernel_rfl)
            go_simp
            exact ⟨_, rfl, rfl, BH.refl _⟩
          · intro m a W hI _ hF hD
            have h : a.tmps[18]?.getD undef = .pointer (some ⟨w.heap.size, 7, none⟩) := dep_of hD 0 18 (by kernel_rfl) rfl rfl
            have h7 := BH.cell hI r7
            go_simp
            exact ⟨_, rfl, rfl, BH.refl _⟩
          · intro m a W hI _ hF hD
            have h := same_of hF 3 (by kernel_rfl)
            go_simp
            exact ⟨_, rfl, rfl, BH.refl _⟩
          · intro m a W hI _ hF hD
            have h := same_of hF 1 (by kernel_rfl)
            go_simp
            exact ⟨_, rfl, rfl, BH.refl _⟩
          · intro m a W hI _ hF hD
            have h : a.tmps[21]?.getD undef = .pointer (some ⟨w.heap.size, 7, none⟩) := dep_of hD 3 21 (by kernel_rfl) rfl rfl
            have h7 := BH.cell hI r7
            go_simp
            exact ⟨_, rfl, rfl, BH.refl _⟩
          · intro m a W hI _ hF hD
            have h := same_of hF 3 (by kernel_rfl)
            go_simp
            exact ⟨_, rfl, rfl, BH.refl _⟩
          · intro m a W hI _ hF hD
            have h : a.tmps[22]?.getD undef = .slice (some ⟨g, 0, none⟩) M x2c := dep_of hD 4 22 (by kernel_rfl) rfl rfl
            have h' : a.tmps[23]?.getD undef = .int .i64 (i : Int) := dep_of hD 5 23 (by kernel_rfl) rfl rfl
            go_simp
            exact ⟨_, rfl, rfl, BH.refl _⟩
          · intro m a W hI _ hF hD
            have h : a.tmps[24]?.getD undef = .pointer (some ⟨g, i * 5, none⟩) := dep_of hD 6 24 (by kernel_rfl) rfl rfl
            go_simp
            exact ⟨_, rfl, rfl, BH.refl _⟩
          · intro m a W hI _ hF hD
            have h : a.tmps[25]?.getD undef = .pointer (some ⟨g, i * 5 + 1, none⟩) := dep_of hD 7 25 (by kernel_rfl) rfl rfl
            obtain ⟨y0, y1, y2, y3⟩ := HCells.out
            have y0 := BH.cell hI y0
            have y1 := BH.cell hI y1
            have y2 := BH.cell hI y2
            have y3 := BH.cell hI y3
            go_simp
            exact ⟨_, rfl, rfl, BH.refl _⟩
          · intro m a W hI _ hF hD
            have h : a.tmps[26]?.getD undef = .agg #[.int .i64 k1, .string ⟨t1.toArray⟩, .int .i64 j1, .slice A1 h1.len c1] := dep_of hD 8 26 (by kernel_rfl) rfl rfl
            go_simp
            refine (HCP.out W hI).mono ?_
            rintro e u ⟨A3, c3, rfl, h3, h4⟩
            have hs := Below.size hI
            exact ⟨_, rfl, ⟨A3, c3, rfl, h3.keep (Nat.le_refl _) fun x hx _ => ⟨rfl, hx.elim (fun h => h.elim) fun h => Nat.le_trans hs h⟩⟩, h4⟩
          · intro m a W hI _ hF hD
            have h : a.tmps[19]?.getD undef = .slice (some ⟨g, 0, none⟩) M x2c := dep_of hD 1 19 (by kernel_rfl) rfl rfl
            have h' : a.tmps[20]?.getD undef = .int .i64 (i : Int) := dep_of hD 2 20 (by kernel_rfl) rfl rfl
            go_simp
            exact ⟨_, rfl, rfl, BH.refl _⟩
          · intro m a W hI _ hF hD
            have h : a.tmps[28]?.getD undef = .pointer (some ⟨g, i * 5, none⟩) := dep_of hD 10 28 (by kernel_rfl) rfl rfl
            go_simp
            exact ⟨_, rfl, rfl, BH.refl _⟩
        · intro m a W hI hF hall
          have h29 : a.tmps[29]?.getD undef = .pointer (some ⟨g, i * 5 + 1, none⟩) := all_of hall 11 29 rfl rfl
          obtain ⟨A3, c3, h27, hk3⟩ : ∃ A3 c3, a.tmps[27]?.getD undef = .agg #[.int .i64 k1, .string ⟨t1.toArray⟩, .int .i64 j1, .slice A3 h1.len c3] ∧ KS W (fun x => wr.heap.size ≤ x) h1 A3 c3 := all_of hall 9 27 rfl rfl
          obtain ⟨q1, q2, q3, hk1, q6, q5, x3, x1, x2⟩ := HQ.out
          have q1W := q1.kept (row := none) (gb_below hI none) (.inr (by simp [Value.ownBlock]))
          obtain ⟨cur, hcur⟩ : ∃ cur, W.heap[g]? = some (.cells cur 40 (0, 0)) := by
            rcases q1W.2 with ⟨e, _⟩ | ⟨g', cap, cur, e, _, hb, _⟩
            · cases e
            · cases e; exact ⟨cur, hb⟩
          have z1 : W.frozen? ⟨g, i * 5 + 1, none⟩ = false := by simp [World.frozen?, hcur]
          have z2 : W.frozen? ⟨g, i * 5 + 2, none⟩ = false := by simp [World.frozen?, hcur]
          have z3 : W.frozen? ⟨g, i * 5 + 3, none⟩ = false := by simp [World.frozen?, hcur]
          have z4 : W.frozen? ⟨g, i * 5 + 4, none⟩ = false := by simp [World.frozen?, hcur]
          obtain ⟨y0, y1, y2, y3⟩ := HCells.out
          have y0 := BH.cell hI y0
          have y1 := BH.cell hI y1
          have y2 := BH.cell hI y2
          have y3 := BH.cell hI y3
          have hgw := HG.out
          have h3 := HL3.out
          have hsW := Below.size hI
          have hs5 := Below.size q5
          have hfin : RR ((((W.setCell ⟨g, i * 5 + 1, none⟩ (.int .i64 k1)).setCell ⟨g, i * 5 + 2, none⟩ (.string ⟨t1.toArray⟩)).setCell ⟨g, i * 5 + 3, none⟩ (.int .i64 j1)).setCell ⟨g, i * 5 + 4, none⟩ (.slice A3 h1.len c3)) := by
            rw [HRR.out]
            refine Lib.hid ⟨⟨?_, ?_⟩, ?_, ⟨us ++ five n1 ⟨k1, t1, h1, j1⟩ A3 c3, zs', ?_, ?_, ?_, ?_⟩, ?_⟩
            · exact (set4_far (by omega) _ _ _ _).trans ((Below.block hI _ (heap_lt x1)).trans x1)
            · exact (set4_far (by omega) _ _ _ _).trans ((Below.block hI _ (heap_lt x2)).trans x2)
            · exact (x3.bh hI).keep (by simp [size_set]) fun y hy _ => ⟨set4_far (by omega) _ _ _ _, hy⟩
            · have := own_set4 q1W q2 (.int .i64 k1) (.string ⟨t1.toArray⟩) (.int .i64 j1) (.slice A3 h1.len c3)
              rw [List.append_assoc]
              exact this
            · rw [List.length_append, q2]; simp [five]; omega
            · rw [HTk.out]
              refine FX.app ?_ _ _ ?_
              · refine FX.single (hk3.keep (by simp [size_set]) fun y hy hyl => ⟨set4_far (by omega) _ _ _ _, by omega, fun e => ?_⟩)
                have e' : g = y := by simpa [Value.ownBlock] using e
                omega
              · exact FX.keep (by simp [size_set]; omega) (fun y hy hyl => ⟨(set4_far (fun e => hy.2 (by rw [e]; rfl)) _ _ _ _).trans (Below.block hI y hyl), hy⟩) _ _ q3
            · exact FX.keep (by simp [size_set]; omega) (fun y hy hyl => ⟨(set4_far (by omega) _ _ _ _).trans (Below.block hI y hyl), hy⟩) _ _ q6
            · exact below_gb_of (BH.refl w) (set4_gb (gb_below (BH.trans q5 hI) (some g)) (by omega) _ _ _ _) (by omega)
          clear q1 q2 q3 hk1 q6 q5 x3 x1 x2 q1W hcur hgw h3 hsW hs5 hk3
          go_simp
          exact hfin
        · intro a W hF hR
          have HA := Lib.hid (Frm.act hF)
          have HRW := Lib.hid hR
          clear hF hR
          simp only [Exit.inBlock, Exit.then]
          apply_assumption
          refine Met.intro ?_
          go_step
          (repeat apply Exists.intro)
          refine ⟨?rela, ?eqa⟩
          case eqa => exact HA.out.trans rfl
          exact HRW.out
      case rest =>
        have hRR := hcut
        rw [HRR.out] at hRR
        have HN := Lib.hid hRR.out
        clear hRR hcut
        have hML := HM2.out
        go_wp2_with (fail)
        exact ⟨⟨i + 1, rfl, by omega, HN⟩, by simp; omega⟩
    · have hge : decide ((i : Int) < (M : Int)) = false := by rw [decide_eq_false_iff_not]; omega
      have hie : i = M := by omega
      have HI := Lib.hid hie
      obtain ⟨⟨r0, r1, r2, r3, r4, r5, r6, r7⟩, _⟩ := row8 x1
      obtain ⟨⟨p0, p1, p2, p3, p4, p5, p6, p7⟩, y0, y1, y2, y3, y4, y5, y6, y7⟩ := row8 x2
      clear x1 x2 hie
      go_wp2_with (fail)
      obtain ⟨⟨x1, x2⟩, x3, ⟨us, zs, o1, o2, o3, o4⟩, x4⟩ := hR.out
      obtain ⟨⟨m0, m1, m2, m3, m4, m5, m6, m7⟩, _⟩ := row8 (s8 x2 (.string ⟨n.toArray⟩) (.int .i64 ar) (.int .i64 k) (.string ⟨t.toArray⟩) (.int .i64 o) (.slice A2 kids.len c2) (.bool cc) (.slice F2 M x2c))
      have hzs : zs = [] := by
        rw [HI.out, ← HM.out, List.drop_length] at o4
        exact o4
      subst hzs
      have e3 : fs.take i = fs := List.take_of_length_le (by rw [HM.out, HI.out]; exact Nat.le_refl _)
      rw [e3] at o3
      rw [List.append_nil] at o1
      have hS : FlS wr (fun y => (w.heap.size + 2 ≤ y ∧ (Value.slice F2 M x2c).ownBlock ≠ some y) ∨ X3.heap.size ≤ y) fs F2 x2c := FlS.own HM.out o1 o3
      have h3 := HL3.out
      refine bodyPost_ret (v := .agg #[.string ⟨n.toArray⟩, .int .i64 ar, .int .i64 k, .string ⟨t.toArray⟩, .int .i64 o, .slice A2 kids.len c2, .bool cc, .slice F2 M x2c]) (by simp [results, Tryz.results50, go_sem, m0, m1, m2, m3, m4, m5, m6, m7]) rfl ⟨A2, c2, F2, x2c, rfl, ?_, ?_, ?_⟩
      · exact x3.keep (by simp [size_set]) fun y hy _ => ⟨s8_far (by omega) _ _ _ _ _ _ _ _, by omega⟩
      · exact hS.keep (by simp [size_set]) fun y hy _ => ⟨s8_far (by omega) _ _ _ _ _ _ _ _, by omega⟩
      · exact below_gb_of (BH.refl w) (s8_gb (gb_below x4 (some (w.heap.size + 1))) (by omega) _ _ _ _ _ _ _ _) (by omega)
end Go.Proofs.YtpkiheenkpcebaaGreatDoor
