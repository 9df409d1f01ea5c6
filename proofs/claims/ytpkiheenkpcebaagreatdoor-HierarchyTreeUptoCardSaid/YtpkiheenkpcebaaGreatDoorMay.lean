/- telref1's Hierarchy in memory; NewHierarchy, Decls, Lookup. No condition but bounded sizes. telref1's Knows. No condition but bounded sizes. -/
import Derived.Test.YtpkiheenkpcebaaGreatDoorMax
set_option linter.unusedVariables false
set_option linter.unusedSimpArgs false
namespace Go.Proofs.YtpkiheenkpcebaaGreatDoor
open Go.RowKit Sx

/-- block p is a hierarchy of telref1, its declarations in blocks of S -/
def RHier (w : World) (S : Nat → Prop) (p : Nat) (ds : List De) : Prop := ∃ A c, w.heap[p]? = some (.cells #[.slice A ds.length c] 82 (0, 0)) ∧ DcS w S ds A c ∧ ¬ S p
theorem RHier.keep {w w' : World} {S S' : Nat → Prop} {p : Nat} {ds : List De} (h : RHier w S p ds) (hs : w.heap.size ≤ w'.heap.size) (hk : ∀ x, S x → x < w.heap.size → w'.heap[x]? = w.heap[x]? ∧ S' x) (hp : w'.heap[p]? = w.heap[p]?) (hnp : ¬ S' p) : RHier w' S' p ds := by
  obtain ⟨A, c, h1, h2, _⟩ := h
  exact ⟨A, c, hp.trans h1, h2.keep hs hk, hnp⟩
theorem RHier.bh {w w' : World} {S : Nat → Prop} {p : Nat} {ds : List De} (h : RHier w S p ds) (hb : BH w w') : RHier w' S p ds := by
  obtain ⟨A, c, h1, h2, h3⟩ := h
  exact ⟨A, c, (Below.block hb _ (heap_lt h1)).trans h1, h2.bh hb, h3⟩

set_option maxHeartbeats 4000000 in
set_option maxRecDepth 100000 in
theorem rDecls_any (S : Nat → Prop) (p : Nat) (ds : List De) (w : World) (H : RHier w S p ds) (hL : ds.length ≤ 1048576) :
    Calls Tryz.prog 15 #[.pointer (some ⟨p, 0, none⟩)] w fun e w' => ∃ A c xs, e = .returned (.slice A ds.length c) ∧ w'.ownsRow w.heap.size 37 8 (.slice A ds.length c) ds.length xs ∧ DX w' (fun x => S x ∧ x < w.heap.size) ds xs ∧ BH w w' := by
  obtain ⟨i0, hi, hz0, hz1, hz2⟩ := info_parts infoDecl
  obtain ⟨A, c, h1, h2, _⟩ := H
  have b0 : w.cell? ⟨p, 0, none⟩ = some (.slice A ds.length c) := cell_of_row _ _ 0 _ _ _ h1
  have hlt := heap_lt h1
  obtain ⟨xs, hr, hx⟩ := h2.rea
  have hx' : DX w (fun x => S x ∧ x < w.heap.size) ds xs := DX.keep (Nat.le_refl _) (fun x hx hl => ⟨rfl, hx, hl⟩) _ _ hx
  obtain ⟨L, hl⟩ : ∃ L, ds.length = L := ⟨_, rfl⟩
  have HL := Lib.hid hl
  rw [hl] at b0 hL hr ⊢
  have HR := Lib.hid hr
  have HX := Lib.hid hx'
  clear h1 h2 hl hr hx hx'
  go_enter Tryz.func15, Tryz.ntmps15
  go_wp2_with (at_builtin; go_loud (refine wpList_rea (by rfl) _ _ _ (by rfl) w.heap.size 37 i0 _ 8 112 Tryz.underlying25 hi hz0 hz1 hz2 rfl (by decide) (.slice (some ⟨w.heap.size, 0, none⟩) 0 0) 0 [] (by rfl) (own0 (heap_alloc_new w _) (Nat.le_refl _)) A L c xs (by rfl) (HR.out.bh (bh_alloc (BH.refl w) _)) (by unfold maxLen; omega) (by omega) (by simp) ?_))
  intro v1 w3 ho1 hg1 ha1
  obtain ⟨A3, c3, rfl, hc3⟩ := own_shape ho1
  have HO := Lib.hid ho1
  have HB := Lib.hid (bh_own (bh_alloc (BH.refl w) _) hg1 (fun q hq => by cases hq; exact Nat.le_refl _))
  clear ho1 hg1 ha1 hc3
  go_wp2_with (fail)
  go_ret
  exact ⟨A3, c3, xs, rfl, by simpa using HO.out, HX.out.bh HB.out, HB.out⟩

def LkP (S : Nat → Prop) (ds : List De) (s : List UInt8) (w : World) (e : Ending) (w' : World) : Prop :=
  BH w w' ∧ ((∃ d A c F x, findD ds s = some d ∧ e = .returned (.tuple #[.agg #[.string ⟨d.name.toArray⟩, .int .i64 d.arity, .int .i64 d.super.k, .string ⟨d.super.t.toArray⟩, .int .i64 d.super.o, .slice A d.super.kids.len c, .bool d.conc, .slice F d.fields.length x], .bool true]) ∧ KS w' S d.super.kids A c ∧ FlS w' S d.fields F x) ∨
    (findD ds s = none ∧ e = .returned (.tuple #[.agg #[.string ⟨#[]⟩, .int .i64 0, .int .i64 0, .string ⟨#[]⟩, .int .i64 0, .slice none 0 0, .bool false, .slice none 0 0], .bool false])))
theorem find_at {ds : List De} {s : List UInt8} {i : Nat} {d : De} (h : ∀ j : Nat, j < i → ∀ e : De, ds[j]? = some e → e.name ≠ s) (hd : ds[i]? = some d) (hn : d.name = s) : findD ds s = some d := by
  induction ds generalizing i with
  | nil => cases hd
  | cons a r ih =>
    cases i with
    | zero =>
      simp at hd
      subst hd
      rw [findD, List.find?_cons, decide_eq_true hn]
    | succ i =>
      have h0 := h 0 (by omega) a rfl
      rw [findD, List.find?_cons, decide_eq_false h0]
      exact ih (i := i) (fun j hj e he => h (j + 1) (by omega) e (by simpa using he)) (by simpa using hd)
theorem find_no {ds : List De} {s : List UInt8} (h : ∀ (j : Nat) (e : De), ds[j]? = some e → e.name ≠ s) : findD ds s = none := by
  refine List.find?_eq_none.2 fun d hd => ?_
  obtain ⟨j, hj, rfl⟩ := List.getElem_of_mem hd
  simpa using h j _ (List.getElem?_eq_getElem hj)

set_option maxHeartbeats 8000000 in
set_option maxRecDepth 100000 in
theorem rLookup_any (S : Nat → Prop) (p : Nat) (ds : List De) (s : List UInt8) (w : World) (H : RHier w S p ds) (hL : ds.length ≤ 1048576) :
    Calls Tryz.prog 27 #[.pointer (some ⟨p, 0, none⟩), .string ⟨s.toArray⟩] w (LkP S ds s w) := by
  have f1 := bh_alloc (BH.refl w) (.cells #[.string ⟨#[]⟩, .int .i64 0, .int .i64 0, .string ⟨#[]⟩, .int .i64 0, .slice none 0 0, .bool false, .slice none 0 0] 37)
  have e1 := heap_alloc_new w (.cells #[.string ⟨#[]⟩, .int .i64 0, .int .i64 0, .string ⟨#[]⟩, .int .i64 0, .slice none 0 0, .bool false, .slice none 0 0] 37)
  have hH1 := H.bh f1
  obtain ⟨A, c, h1, _, _⟩ := hH1
  obtain ⟨A', c', h1', h2', _⟩ := H
  have h2 : DcS (w.alloc (.cells #[.string ⟨#[]⟩, .int .i64 0, .int .i64 0, .string ⟨#[]⟩, .int .i64 0, .slice none 0 0, .bool false, .slice none 0 0] 37)) (fun x => S x ∧ x < w.heap.size) ds A c := by
    have e := (Below.block f1 _ (heap_lt h1')).trans h1'
    rw [h1] at e
    cases e
    exact (h2'.keep (S' := fun x => S x ∧ x < w.heap.size) (Nat.le_refl _) fun x hx hl => ⟨rfl, hx, hl⟩).bh f1
  have b0 := cell_of_row _ p 0 _ _ _ h1
  have hlt := heap_lt h1
  obtain ⟨L, hl⟩ : ∃ L, ds.length = L := ⟨_, rfl⟩
  have HL := Lib.hid hl
  rw [hl] at h1 hL b0
  have HH := Lib.hid (And.intro h1 h2)
  have HE := Lib.hid (And.intro e1 f1)
  clear h1 h2 hl h1' h2' e1 f1
  go_enter Tryz.func27, Tryz.ntmps27
  go_wp2_with (fail)
  go_loopw [6] (fun iv wr => ∃ i : Nat, iv = .int .i64 (i : Int) ∧ i ≤ L ∧ Hid (wr.heap[w.heap.size]? = some (.cells #[.string ⟨#[]⟩, .int .i64 0, .int .i64 0, .string ⟨#[]⟩, .int .i64 0, .slice none 0 0, .bool false, .slice none 0 0] 37 (0, 0)) ∧ BH w wr ∧ (wr.heap[p]? = some (.cells #[.slice A L c] 82 (0, 0)) ∧ DcS wr (fun x => S x ∧ x < w.heap.size) ds A c) ∧ ∀ j : Nat, j < i → ∀ e : De, ds[j]? = some e → e.name ≠ s)) (fun iv _ => L - (match iv with | .int _ n => n.toNat | _ => 0))
  case atStart => exact ⟨0, rfl, Nat.zero_le _, Lib.hid ⟨HE.out.1, HE.out.2, HH.out, fun j hj => absurd hj (Nat.not_lt_zero _)⟩⟩
  case round =>
    obtain ⟨i, rfl, hiL0, hR⟩ := hrel
    obtain ⟨x1, x2, ⟨x3, x4⟩, x5⟩ := hR.out
    have c0 := cell_of_row _ p 0 _ _ _ x3
    clear b0
    by_cases hlt2 : i < L
    · have hge : decide ((i : Int) < (L : Int)) = true := by rw [decide_eq_true_eq]; omega
      have hiL : (i : Int) < (L : Int) := by omega
      have hi0 : (0 : Int) ≤ (i : Int) := by omega
      have hi1 : wrap64 ((i : Int) + 1) = (i : Int) + 1 := wrap64_in (by omega) (by omega)
      obtain ⟨d, hd⟩ : ∃ d, ds[i]? = some d := ⟨_, List.getElem?_eq_getElem (by rw [HL.out]; exact hlt2)⟩
      obtain ⟨g, off, A1, c1, F1, xk, rfl, _, hg, p0, p1, p2, p3, p4, p5, p6, p7, k1, f1⟩ := x4.at hd
      by_cases hn : d.name = s
      · have hfd := find_at x5 hd hn
        have HF := Lib.hid (And.intro hfd (And.intro k1 f1))
        subst hn
        obtain ⟨⟨r0, r1, r2, r3, r4, r5, r6, r7⟩, z0, z1, z2, z3, z4, z5, z6, z7⟩ := row8 x1
        have HX := Lib.hid (And.intro x1 x2)
        clear x1 x2 x3 x4 x5 hd hg k1 f1 hfd hR
        go_wp2_with (fail)
        obtain ⟨x1, x2⟩ := HX.out
        obtain ⟨⟨m0, m1, m2, m3, m4, m5, m6, m7⟩, _⟩ := row8 (s8 x1 (.string ⟨d.name.toArray⟩) (.int .i64 d.arity) (.int .i64 d.super.k) (.string ⟨d.super.t.toArray⟩) (.int .i64 d.super.o) (.slice A1 d.super.kids.len c1) (.bool d.conc) (.slice F1 d.fields.length xk))
        obtain ⟨f1, f2, f3⟩ := HF.out
        refine bodyPost_ret (v := .tuple #[.agg #[.string ⟨d.name.toArray⟩, .int .i64 d.arity, .int .i64 d.super.k, .string ⟨d.super.t.toArray⟩, .int .i64 d.super.o, .slice A1 d.super.kids.len c1, .bool d.conc, .slice F1 d.fields.length xk], .bool true]) (by simp [results, Tryz.results27, go_sem, m0, m1, m2, m3, m4, m5, m6, m7]) rfl ⟨?_, .inl ⟨d, A1, c1, F1, xk, f1, rfl, ?_, ?_⟩⟩
        · exact below_gb_of (BH.refl w) (s8_gb (gb_below x2 (some w.heap.size)) (by omega) _ _ _ _ _ _ _ _) (by omega)
        · exact f2.keep (by simp [size_set]) fun y hy _ => ⟨s8_far (by omega) _ _ _ _ _ _ _ _, hy.1⟩
        · exact f3.keep (by simp [size_set]) fun y hy _ => ⟨s8_far (by omega) _ _ _ _ _ _ _ _, hy.1⟩
      · have t1 := tba_ne hn
        have t2 : (d.name == s) = false := by simpa using hn
        have HX := Lib.hid (show wr.heap[w.heap.size]? = some (.cells #[.string ⟨#[]⟩, .int .i64 0, .int .i64 0, .string ⟨#[]⟩, .int .i64 0, .slice none 0 0, .bool false, .slice none 0 0] 37 (0, 0)) ∧ BH w wr ∧ (wr.heap[p]? = some (.cells #[.slice (some ⟨g, off, none⟩) L c] 82 (0, 0)) ∧ DcS wr (fun x => S x ∧ x < w.heap.size) ds (some ⟨g, off, none⟩) c) ∧ ∀ j : Nat, j < i + 1 → ∀ e : De, ds[j]? = some e → e.name ≠ s from ⟨x1, x2, ⟨x3, x4⟩, fun j hj e he => by
          rcases Nat.lt_succ_iff_lt_or_eq.1 hj with h | h
          · exact x5 j h e he
          · subst h; rw [hd] at he; cases he; exact hn⟩)
        clear x1 x2 x3 x4 x5 hd hg k1 f1 hR hn p1 p2 p3 p4 p5 p6 p7
        go_wp2_with (fail)
        exact ⟨⟨i + 1, rfl, by omega, HX⟩, by simp; omega⟩
    · have hge : decide ((i : Int) < (L : Int)) = false := by rw [decide_eq_false_iff_not]; omega
      have hge2 : decide (i < L) = false := by rw [decide_eq_false_iff_not]; omega
      have hfd : findD ds s = none := find_no fun j e he => x5 j (by have := (List.getElem?_eq_some_iff.1 he).1; have := HL.out; omega) e he
      have HF := Lib.hid hfd
      obtain ⟨⟨r0, r1, r2, r3, r4, r5, r6, r7⟩, z0, z1, z2, z3, z4, z5, z6, z7⟩ := row8 x1
      have HX := Lib.hid (And.intro x1 x2)
      clear x1 x2 x3 x4 x5 hfd hR
      go_wp2_with (fail)
      obtain ⟨x1, x2⟩ := HX.out
      obtain ⟨⟨m0, m1, m2, m3, m4, m5, m6, m7⟩, _⟩ := row8 (s8 x1 (.string ⟨#[]⟩) (.int .i64 0) (.int .i64 0) (.string ⟨#[]⟩) (.int .i64 0) (.slice none 0 0) (.bool false) (.slice none 0 0))
      refine bodyPost_ret (v := .tuple #[.agg #[.string ⟨#[]⟩, .int .i64 0, .int .i64 0, .string ⟨#[]⟩, .int .i64 0, .slice none 0 0, .bool false, .slice none 0 0], .bool false]) (by simp [results, Tryz.results27, go_sem, m0, m1, m2, m3, m4, m5, m6, m7]) rfl ⟨?_, .inr ⟨HF.out, rfl⟩⟩
      exact below_gb_of (BH.refl w) (s8_gb (gb_below x2 (some w.heap.size)) (by omega) _ _ _ _ _ _ _ _) (by omega)

set_option maxHeartbeats 8000000 in
set_option maxRecDepth 100000 in
theorem rNew_any (w : World) : Calls Tryz.prog 14 #[] w fun e w' => ∃ p, e = .returned (.pointer (some ⟨p, 0, none⟩)) ∧ w.heap.size ≤ p ∧ RHier w' (fun x => w.heap.size ≤ x ∧ x ≠ p) p ds0 ∧ BH w w' := by
  obtain ⟨i0, hi, hz0, hz1, hz2⟩ := info_parts infoDecl
  have f1 := bh_alloc (BH.refl w) (.cells #[.slice none 0 0] 82)
  have e1 := heap_alloc_new w (.cells #[.slice none 0 0] 82)
  have f2 := bh_alloc f1 (.cells #[.string ⟨#[73, 110, 116]⟩, .string ⟨#[66, 111, 111, 108]⟩, .string ⟨#[83, 116, 114, 105, 110, 103]⟩, .string ⟨#[78, 105, 108]⟩] 9)
  have e2 := heap_alloc_new (w.alloc (.cells #[.slice none 0 0] 82)) (.cells #[.string ⟨#[73, 110, 116]⟩, .string ⟨#[66, 111, 111, 108]⟩, .string ⟨#[83, 116, 114, 105, 110, 103]⟩, .string ⟨#[78, 105, 108]⟩] 9)
  have e1' := (Below.heap_alloc (w.alloc (.cells #[.slice none 0 0] 82)) (.cells #[.string ⟨#[73, 110, 116]⟩, .string ⟨#[66, 111, 111, 108]⟩, .string ⟨#[83, 116, 114, 105, 110, 103]⟩, .string ⟨#[78, 105, 108]⟩] 9) w.heap.size (by simp)).trans e1
  rw [World.size_alloc] at e2
  have HE := Lib.hid (And.intro e1' (And.intro e2 f2))
  clear f1 e1 f2 e2 e1'
  go_enter Tryz.func14, Tryz.ntmps14
  go_wp2_with (fail)
  go_loopw [8] (fun iv wr => ∃ i : Nat, iv = .int .i64 (i : Int) ∧ i ≤ 4 ∧ Hid (∃ A c xs, wr.heap[w.heap.size]? = some (.cells #[.slice A i c] 82 (0, 0)) ∧ wr.heap[w.heap.size + 1]? = some (.cells #[.string ⟨#[73, 110, 116]⟩, .string ⟨#[66, 111, 111, 108]⟩, .string ⟨#[83, 116, 114, 105, 110, 103]⟩, .string ⟨#[78, 105, 108]⟩] 9 (0, 0)) ∧ wr.ownsRow (w.heap.size + 2) 37 8 (.slice A i c) i xs ∧ DX wr (fun _ => False) (ds0.take i) xs ∧ BH w wr)) (fun iv _ => 4 - (match iv with | .int _ n => n.toNat | _ => 0))
  case atStart => exact ⟨0, rfl, by omega, Lib.hid ⟨none, 0, [], HE.out.1, HE.out.2.1, World.ownsRow_nil _ _ _ _, rfl, HE.out.2.2⟩⟩
  case round =>
    obtain ⟨i, rfl, hi4, hR⟩ := hrel
    obtain ⟨A, c, xs, x1, x2, x3, x4, x5⟩ := hR.out
    have c0 := cell_of_row _ w.heap.size 0 _ _ _ x1
    by_cases hlt : i < 4
    · obtain ⟨s, hs, hcell⟩ : ∃ s, nm0[i]? = some s ∧ wr.cell? ⟨w.heap.size + 1, i, none⟩ = some (.string ⟨s.toArray⟩) := by
        have h4 : i = 0 ∨ i = 1 ∨ i = 2 ∨ i = 3 := by omega
        rcases h4 with rfl | rfl | rfl | rfl
        · exact ⟨_, rfl, cell_of_row _ _ 0 _ _ _ x2⟩
        · exact ⟨_, rfl, cell_of_row _ _ 1 _ _ _ x2⟩
        · exact ⟨_, rfl, cell_of_row _ _ 2 _ _ _ x2⟩
        · exact ⟨_, rfl, cell_of_row _ _ 3 _ _ _ x2⟩
      have e1 : ds0.take (i + 1) = ds0.take i ++ [dNew s] := by
        rw [List.take_add_one, ds0, List.getElem?_map, hs]
        rfl
      have hge : decide ((i : Int) < 4) = true := by rw [decide_eq_true_eq]; omega
      have hiL : (i : Int) < 4 := by omega
      have hi0 : (0 : Int) ≤ (i : Int) := by omega
      have y0 : wr.frozen? ⟨w.heap.size, 0, none⟩ = false := by simp [World.frozen?, x1]
      have HX := Lib.hid (And.intro x1 (And.intro x2 (And.intro x4 x5)))
      have HO := Lib.hid x3
      have He := Lib.hid e1
      clear x1 x2 x3 x4 x5 hs e1 hR
      go_wp2_with (at_builtin; go_loud (refine wpList_rea (by rfl) _ _ _ (by rfl) (w.heap.size + 2) 37 i0 _ 8 112 Tryz.underlying25 hi hz0 hz1 hz2 rfl (by decide) (.slice A i c) i xs (by rfl) (HO.out.alloc _) (some ⟨wr.heap.size, 0, none⟩) 1 1 (eight (dNew s) none 0 none 0) (by rfl) (rea8 (d := dNew s) (heap_alloc_new wr _)) (by unfold maxLen; omega) (by omega) (by have := heap_lt HX.out.2.1; simp; omega) ?_))
      intro v1 w3 ho1 hg1 ha1
      obtain ⟨A3, c3, rfl, hc3⟩ := own_shape ho1
      have hx1 := (hg1.block _ (by have := heap_lt HX.out.1; simp; omega) (fun e => by have := (HO.out.lt _ e.symm).1; omega)).trans ((Below.heap_alloc wr _ _ (heap_lt HX.out.1)).trans HX.out.1)
      have y1 : w3.frozen? ⟨w.heap.size, 0, none⟩ = false := by simp [World.frozen?, hx1]
      have c1 := cell_of_row _ w.heap.size 0 _ _ _ hx1
      have HB3 := Lib.hid (bh_own (bh_alloc HX.out.2.2.2 _) hg1 (fun q hq => by have := (HO.out.lt q hq).1; omega))
      have HO3 := Lib.hid (And.intro hx1 (And.intro ho1 (And.intro hg1 ha1)))
      clear ho1 hg1 ha1 hc3 hx1 c0 y0
      go_wp2_with (fail)
      refine ⟨⟨i + 1, rfl, by omega, Lib.hid ⟨A3, c3, xs ++ eight (dNew s) none 0 none 0, ?_, ?_, ?_, ?_, ?_⟩⟩, by simp; omega⟩
      · exact heap_set (i := 0) HO3.out.1 _
      · exact (heap_far (p := ⟨w.heap.size, 0, none⟩) (show w.heap.size + 1 ≠ w.heap.size by omega) _).trans ((HO3.out.2.2.1.block _ (by have := heap_lt HX.out.2.1; simp; omega) (fun e => by have := (HO.out.lt _ e.symm).1; omega)).trans ((Below.heap_alloc wr _ _ (heap_lt HX.out.2.1)).trans HX.out.2.1))
      · refine HO3.out.2.1.kept (row := some w.heap.size) (gb_setCell (World.grownBy.refl _ _) (.inl rfl) _) ?_
        cases hv : (Value.slice A3 (i + 1) c3).ownBlock with
        | none => exact .inl rfl
        | some y => exact .inr (by have := (HO3.out.2.1.lt y hv).1; simp; omega)
      · rw [He.out]
        refine DX.app (DX.single (d := dNew s) ⟨Nat.le_refl _, [], reads_nil _ _, rfl⟩ (FlS.nil _ _)) _ _ ?_
        exact DX.keep (by have := HO3.out.2.2.1.size; simp [size_set]; simp at this; omega) (fun y hy _ => hy.elim) _ _ HX.out.2.2.1
      · exact below_gb_of HB3.out (gb_setCell (g := w.heap.size) (World.grownBy.refl _ _) (.inl rfl) _) (Nat.le_refl _)
    · have h4 : i = 4 := by omega
      subst h4
      have HX := Lib.hid (And.intro x1 (And.intro x3 (And.intro x4 x5)))
      clear x1 x2 x3 x4 x5 hR
      go_wp2_with (fail)
      go_ret
      obtain ⟨x1, x3, x4, x5⟩ := HX.out
      refine ⟨w.heap.size, rfl, Nat.le_refl _, ⟨A, c, x1, ?_, fun h => h.2 rfl⟩, x5⟩
      exact (DcS.own (by rfl) x3 x4).keep (Nat.le_refl _) fun y hy _ => ⟨rfl, hy.elim (fun h => h.elim) fun h => ⟨by omega, by omega⟩⟩
end Go.Proofs.YtpkiheenkpcebaaGreatDoor
namespace Go.Proofs.YtpkiheenkpcebaaGreatDoor
open Go.RowKit Sx

set_option maxHeartbeats 8000000 in
set_option maxRecDepth 100000 in
theorem rKnows_all (S : Nat → Prop) (p : Nat) (ds : List De) (hL : ds.length ≤ 1048576)
    (M : Nat) : ∀ (k o : Int) (t : List UInt8) (kids : Fo) (A : Option Addr) (c : Nat) (w : World), fsize kids < M → fsize kids ≤ 1073741824 → KT w kids A c → t.length ≤ 1048576 → lenT kids → RHier w S p ds →
    Calls Tryz.prog 33 #[.pointer (some ⟨p, 0, none⟩), .agg #[.int .i64 k, .string ⟨t.toArray⟩, .int .i64 o, .slice A kids.len c]] w fun e w' => e = .returned (.bool (ev1 (dcB ds) k t kids)) ∧ BH w w' := by
  induction M with
  | zero => intro k o t kids A c w h; exact absurd h (Nat.not_lt_zero _)
  | succ M ih =>
  intro k o t kids A c w hM hN hK ht hl hj
  obtain ⟨Z, hZ⟩ : ∃ Z, ev1 (dcB ds) k t kids = Z := ⟨_, rfl⟩
  rw [hZ]
  have HZ := Lib.hid hZ
  have IH := Lib.hid ih
  have HK := Lib.hid hK
  have Hj := Lib.hid hj
  have Hl := Lib.hid hl
  have hlen := len_le_fsize kids
  obtain ⟨L, hLL⟩ : ∃ L, kids.len = L := ⟨_, rfl⟩
  rw [hLL] at hlen ⊢
  have HL := Lib.hid hLL
  have e1 := heap_alloc_new w (.cells #[.int .i64 k, .string ⟨t.toArray⟩, .int .i64 o, .slice A L c] 34)
  have f1 := bh_alloc (BH.refl w) (.cells #[.int .i64 k, .string ⟨t.toArray⟩, .int .i64 o, .slice A L c] 34)
  have HE := Lib.hid (And.intro e1 f1)
  obtain ⟨b0, b1, b2, b3, _⟩ := row4 e1
  have HLk := Lib.hid (fun X (hX : BH w X) => rLookup_any S p ds t X (hj.bh hX) hL)
  have hcases : (k ≠ 2 ∧ Z = evL (dcB ds) kids) ∨ (k = 2 ∧ Z = (dcB ds t L && evL (dcB ds) kids)) := by
    by_cases h2 : k = 2
    · exact .inr ⟨h2, by rw [← hZ, ev1, if_pos h2, hLL]⟩
    · exact .inl ⟨h2, by rw [← hZ, ev1, if_neg h2]; rfl⟩
  clear hZ ih hK hj hl hLL e1 f1
  rcases hcases with ⟨h2, hz⟩ | ⟨h2, hz⟩
  · have t1 : (k == 2) = false := by simpa using h2
    have t2 : decide (k = 2) = false := by simpa using h2
    have Hz := Lib.hid hz
    clear hz
    go_enter Tryz.func33, Tryz.ntmps33
    go_wp2_with (fail)
    refine gen_wp _ (fun X => BH w X ∧ X.heap[w.heap.size]? = some (.cells #[.int .i64 k, .string ⟨t.toArray⟩, .int .i64 o, .slice A L c] 34 (0, 0))) ⟨HE.out.2, HE.out.1⟩ ?_
    rintro X ⟨hbw, hblk⟩
    clear b0 b1 b2 b3
    obtain ⟨b0, b1, b2, b3, _⟩ := row4 hblk
    have HB0 := Lib.hid (And.intro hbw hblk)
    clear hbw hblk
    go_wp2_with (fail)
    go_loopw [7] (fun iv wr => ∃ (i : Nat) (r : Fo), iv = .int .i64 (i : Int) ∧ Suf i r kids ∧ Hid ((BH w wr ∧ wr.heap[w.heap.size]? = some (.cells #[.int .i64 k, .string ⟨t.toArray⟩, .int .i64 o, .slice A L c] 34 (0, 0))) ∧ Z = evL (dcB ds) r)) (fun iv _ => L - (match iv with | .int _ n => n.toNat | _ => 0))
    case atStart => exact ⟨0, kids, rfl, Suf.zero _, Lib.hid ⟨HB0.out, Hz.out⟩⟩
    case round =>
      obtain ⟨i, r, rfl, hsuf, hR⟩ := hrel
      obtain ⟨⟨hbr, hbk⟩, hev⟩ := hR.out
      have hlen' := hsuf.len
      rw [HL.out] at hlen'
      have HSuf := Lib.hid hsuf
      clear b0 b1 b2 b3
      obtain ⟨b0, b1, b2, b3, _⟩ := row4 hbk
      cases r with
      | nil =>
        simp only [Fo.len] at hlen'
        have hge : decide ((i : Int) < (L : Int)) = false := by rw [decide_eq_false_iff_not]; omega
        have hge2 : decide (i < L) = false := by rw [decide_eq_false_iff_not]; omega
        have HV := Lib.hid (And.intro hev hbr)
        clear hlen' hsuf hbr hev hbk hR
        go_wp2_with (fail)
        go_ret
        exact ⟨by rw [HV.out.1]; rfl, HV.out.2⟩
      | cons k1 t1s kids1 o1 r1 =>
        simp only [Fo.len] at hlen'
        obtain ⟨g, off, A1, c1, rfl, hgl, q0, q1, q2, q3, hk1⟩ := HK.out.get hsuf hbr
        have hkid := hsuf.kid.1
        have hl1 : t1s.length ≤ 1048576 ∧ lenT kids1 := by
          obtain ⟨pre, he, hpl⟩ := hsuf
          have h := Hl.out
          rw [he] at h
          clear he hpl
          induction pre with
          | nil => exact ⟨h.1, h.2.1⟩
          | cons _ _ _ _ _ _ ihp => exact ihp h.2.2
        have hge : decide ((i : Int) < (L : Int)) = true := by rw [decide_eq_true_eq]; omega
        have hiL : (i : Int) < (L : Int) := by omega
        have hi0 : (0 : Int) ≤ (i : Int) := by omega
        have hi1 : wrap64 ((i : Int) + 1) = (i : Int) + 1 := wrap64_in (by omega) (by omega)
        obtain ⟨z, hz⟩ : ∃ z, ev1 (dcB ds) k1 t1s kids1 = z := ⟨_, rfl⟩
        have hI := IH.out k1 o1 t1s kids1 A1 c1 wr (by omega) (by omega) (hk1.below hbr) hl1.1 hl1.2 (Hj.out.bh hbr)
        rw [hz] at hI
        have HI := Lib.hid hI
        have Hzz := Lib.hid hz
        have HX := Lib.hid (And.intro hbr (And.intro hbk hev))
        clear hsuf hbr hk1 hgl hI hz hl1 hbk hev hR
        go_wp2_with (fail)
        refine HI.out.mono ?_
        rintro e u9 ⟨rfl, hb⟩
        have HB2 := Lib.hid (And.intro (BH.trans HX.out.1 hb) ((Below.block hb _ (heap_lt HX.out.2.1)).trans HX.out.2.1))
        clear hb q0 q1 q2 q3
        have hee := HX.out.2.2
        rw [evL_cons, Hzz.out] at hee
        have Hee := Lib.hid hee
        clear hee
        cases z with
        | true =>
          go_wp2_with (fail)
          exact ⟨⟨i + 1, r1, rfl, HSuf.out.next, Lib.hid ⟨HB2.out, by rw [Hee.out]; rfl⟩⟩, by simp; omega⟩
        | false =>
          go_wp2_with (fail)
          go_ret
          exact ⟨by rw [Hee.out]; rfl, HB2.out.1⟩
  · subst h2
    have Hz := Lib.hid hz
    clear hz
    go_enter Tryz.func33, Tryz.ntmps33
    go_wp2_with (fail)
    refine (HLk.out _ HE.out.2).mono ?_
    rintro e u ⟨hb, hor⟩
    have HB := Lib.hid (And.intro (BH.trans HE.out.2 hb) ((Below.block hb _ (heap_lt HE.out.1)).trans HE.out.1))
    clear b0 b1 b2 b3 hb
    rcases hor with ⟨d, A1, c1, F1, x1, hfd, rfl, _, _⟩ | ⟨hfd, rfl⟩
    · obtain ⟨n1, r1, ⟨k1, t1, f1s, o1⟩, q1, fs1⟩ := d
      have hdc : dcB ds t L = ((L : Int) == r1) := by rw [dcB, hfd]
      have e2 := heap_alloc_new u (.cells #[.string ⟨n1.toArray⟩, .int .i64 r1, .int .i64 k1, .string ⟨t1.toArray⟩, .int .i64 o1, .slice A1 f1s.len c1, .bool q1, .slice F1 fs1.length x1] 37)
      have f2 := bh_alloc (BH.refl u) (.cells #[.string ⟨n1.toArray⟩, .int .i64 r1, .int .i64 k1, .string ⟨t1.toArray⟩, .int .i64 o1, .slice A1 f1s.len c1, .bool q1, .slice F1 fs1.length x1] 37)
      obtain ⟨⟨r0, r1', r2, r3, r4, r5, r6, r7⟩, _⟩ := row8 e2
      have hx := (Below.block f2 _ (heap_lt HB.out.2)).trans HB.out.2
      obtain ⟨s0, s1, s2, s3, _⟩ := row4 hx
      have HB2 := Lib.hid (And.intro (BH.trans HB.out.1 f2) hx)
      by_cases hNr : (L : Int) = r1
      · have t1 : (r1 == (L : Int)) = true := by simp [hNr]
        have t2 : decide (r1 = (L : Int)) = true := by simp [hNr]
        have t3 : (r1 != (L : Int)) = false := by simp [hNr]
        have hzz : Z = evL (dcB ds) kids := by rw [Hz.out, hdc]; simp [hNr]
        have Hzz := Lib.hid hzz
        clear hzz hdc e2 f2 hx hNr hfd
        go_wp2_with (fail)
        refine gen_wp _ (fun X => BH w X ∧ X.heap[w.heap.size]? = some (.cells #[.int .i64 2, .string ⟨t.toArray⟩, .int .i64 o, .slice A L c] 34 (0, 0))) HB2.out ?_
        rintro X ⟨hbw, hblk⟩
        clear r0 r1' r2 r3 r4 r5 r6 r7 s0 s1 s2 s3 t1 t2 t3
        obtain ⟨b0, b1, b2, b3, _⟩ := row4 hblk
        have HB0 := Lib.hid (And.intro hbw hblk)
        clear hbw hblk
        go_wp2_with (fail)
        go_loopw [7] (fun iv wr => ∃ (i : Nat) (r : Fo), iv = .int .i64 (i : Int) ∧ Suf i r kids ∧ Hid ((BH w wr ∧ wr.heap[w.heap.size]? = some (.cells #[.int .i64 2, .string ⟨t.toArray⟩, .int .i64 o, .slice A L c] 34 (0, 0))) ∧ Z = evL (dcB ds) r)) (fun iv _ => L - (match iv with | .int _ n => n.toNat | _ => 0))
        case atStart => exact ⟨0, kids, rfl, Suf.zero _, Lib.hid ⟨HB0.out, Hzz.out⟩⟩
        case round =>
          obtain ⟨i, r, rfl, hsuf, hR⟩ := hrel
          obtain ⟨⟨hbr, hbk⟩, hev⟩ := hR.out
          have hlen' := hsuf.len
          rw [HL.out] at hlen'
          have HSuf := Lib.hid hsuf
          clear b0 b1 b2 b3
          obtain ⟨b0, b1, b2, b3, _⟩ := row4 hbk
          cases r with
          | nil =>
            simp only [Fo.len] at hlen'
            have hge : decide ((i : Int) < (L : Int)) = false := by rw [decide_eq_false_iff_not]; omega
            have hge2 : decide (i < L) = false := by rw [decide_eq_false_iff_not]; omega
            have HV := Lib.hid (And.intro hev hbr)
            clear hlen' hsuf hbr hev hbk hR
            go_wp2_with (fail)
            go_ret
            exact ⟨by rw [HV.out.1]; rfl, HV.out.2⟩
          | cons k1 t1s kids1 o1 r1 =>
            simp only [Fo.len] at hlen'
            obtain ⟨g, off, A1, c1, rfl, hgl, q0, q1, q2, q3, hk1⟩ := HK.out.get hsuf hbr
            have hkid := hsuf.kid.1
            have hl1 : t1s.length ≤ 1048576 ∧ lenT kids1 := by
              obtain ⟨pre, he, hpl⟩ := hsuf
              have h := Hl.out
              rw [he] at h
              clear he hpl
              induction pre with
              | nil => exact ⟨h.1, h.2.1⟩
              | cons _ _ _ _ _ _ ihp => exact ihp h.2.2
            have hge : decide ((i : Int) < (L : Int)) = true := by rw [decide_eq_true_eq]; omega
            have hiL : (i : Int) < (L : Int) := by omega
            have hi0 : (0 : Int) ≤ (i : Int) := by omega
            have hi1 : wrap64 ((i : Int) + 1) = (i : Int) + 1 := wrap64_in (by omega) (by omega)
            obtain ⟨z, hz⟩ : ∃ z, ev1 (dcB ds) k1 t1s kids1 = z := ⟨_, rfl⟩
            have hI := IH.out k1 o1 t1s kids1 A1 c1 wr (by omega) (by omega) (hk1.below hbr) hl1.1 hl1.2 (Hj.out.bh hbr)
            rw [hz] at hI
            have HI := Lib.hid hI
            have Hz2 := Lib.hid hz
            have HX := Lib.hid (And.intro hbr (And.intro hbk hev))
            clear hsuf hbr hk1 hgl hI hz hl1 hbk hev hR
            go_wp2_with (fail)
            refine HI.out.mono ?_
            rintro e u9 ⟨rfl, hb⟩
            have HB2 := Lib.hid (And.intro (BH.trans HX.out.1 hb) ((Below.block hb _ (heap_lt HX.out.2.1)).trans HX.out.2.1))
            clear hb q0 q1 q2 q3
            have hee := HX.out.2.2
            rw [evL_cons, Hz2.out] at hee
            have Hee := Lib.hid hee
            clear hee
            cases z with
            | true =>
              go_wp2_with (fail)
              exact ⟨⟨i + 1, r1, rfl, HSuf.out.next, Lib.hid ⟨HB2.out, by rw [Hee.out]; rfl⟩⟩, by simp; omega⟩
            | false =>
              go_wp2_with (fail)
              go_ret
              exact ⟨by rw [Hee.out]; rfl, HB2.out.1⟩
      · have t1 : (r1 == (L : Int)) = false := by rw [beq_eq_false_iff_ne]; exact fun e => hNr e.symm
        have t2 : decide (r1 = (L : Int)) = false := by rw [decide_eq_false_iff_not]; exact fun e => hNr e.symm
        have t3 : (r1 != (L : Int)) = true := by simp [bne, t1]
        have hzz : Z = false := by rw [Hz.out, hdc]; simp [hNr]
        have Hzz := Lib.hid hzz
        clear hzz hdc e2 f2 hx hNr hfd
        go_wp2_with (fail)
        go_ret
        exact ⟨by rw [Hzz.out]; rfl, HB2.out.1⟩
    · have hzz : Z = false := by rw [Hz.out, dcB, hfd]; rfl
      have Hzz := Lib.hid hzz
      clear hzz hfd
      go_wp2_with (fail)
      go_ret
      exact ⟨by rw [Hzz.out]; rfl, bh_alloc HB.out.1 _⟩
end Go.Proofs.YtpkiheenkpcebaaGreatDoor
