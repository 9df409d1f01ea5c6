/- tellaw2.TermLimits: the walk. No condition. -/
import Derived.Test.YtnidngpenhblcaaTlm
import Derived.Test.YtnidngpenhblcaaApp
import Derived.Deep.CutBlock
set_option linter.unusedVariables false
set_option linter.unusedSimpArgs false
namespace Go.Proofs.Ytnidngpenhblcaa
open Go.RowKit Sx

theorem KT.of_cel {w : World} {A : Option Addr} {c : Nat} {f : Fo} {xs : List Value} (h : Cel w 4 A f.len c xs) (hr : rowT w (fun _ => True) f xs) : KT w f A c := by
  obtain ⟨h1, h2, h3, h4, h5⟩ := h
  refine ⟨h2, xs, fun hn => ?_, hr⟩
  obtain ⟨g, off, e, hg, hc⟩ := h5 hn
  exact ⟨g, off, e, trivial, hg, hc⟩
theorem KT.one_block {X : World} {g : Nat} {k o : Int} {t : List UInt8} {kids : Fo} {A : Option Addr} {c : Nat} {T : TypeId} (h : X.heap[g]? = some (.cells #[.int .i64 k, .string ⟨t.toArray⟩, .int .i64 o, .slice A kids.len c] T (0, 0))) (hk : KT X kids A c) : KT X (.one k t kids o) (some ⟨g, 0, none⟩) 1 := by
  obtain ⟨hc, ys, q1, q2⟩ := hk
  refine ⟨Nat.le_refl _, [.int .i64 k, .string ⟨t.toArray⟩, .int .i64 o, .slice A kids.len c], fun _ => ⟨g, 0, rfl, trivial, heap_lt h, fun j u hu => ?_⟩, A, c, ys, [], rfl, hc, q1, q2, rfl⟩
  rw [Nat.zero_add, cell_of_row _ _ j _ _ _ h]
  simpa using hu
theorem celB {X : World} {g n size : Nat} {e : TypeId} {cs : Array Value} (h : X.heap[g]? = some (.cells cs e (0, 0))) (hl : cs.size = n * size) (hm : n ≤ maxLen) : Cel X size (some ⟨g, 0, none⟩) n n cs.toList := by
  refine ⟨by simpa using hl, Nat.le_refl _, hm, (fun e => by cases e), fun _ => ⟨g, 0, rfl, heap_lt h, fun j u hu => ?_⟩⟩
  rw [Nat.zero_add, cell_of_row _ _ j _ _ _ h]
  simpa using hu
theorem infoTy : (Try.prog.info? 24).map (fun i => (i.zero, i.size, i.bytes)) = some (some (.agg #[.int .i64 0, .string ⟨#[]⟩, .int .i64 0, .slice none 0 0]), 4, 56) := by kernel_rfl
def wideX : Nat → List Value
  | 0 => []
  | n + 1 => .int .i64 2 :: .string ⟨intN.toArray⟩ :: .int .i64 0 :: .slice none 0 0 :: wideX n
theorem wideX_snoc (n : Nat) : wideX n ++ [.int .i64 2, .string ⟨intN.toArray⟩, .int .i64 0, .slice none 0 0] = wideX (n + 1) := by
  induction n with
  | zero => rfl
  | succ n ih => show _ :: _ :: _ :: _ :: (wideX n ++ _) = _; rw [ih]; rfl
theorem wideX_row (w : World) (n : Nat) : rowT w (fun _ => True) (wideF n) (wideX n) := by
  induction n with
  | zero => rfl
  | succ n ih => exact ⟨none, 0, [], wideX n, rfl, Nat.le_refl _, fun h => absurd h (by simp [Fo.len]), rfl, ih⟩

/-- the state of the first loop -/
structure LW (w wr : World) (i : Nat) (v : Value) : Prop where
  box : wr.heap[w.heap.size]? = some (.cells #[.int .i64 4, .string ⟨#[]⟩, .int .i64 0, v] 24 (0, 0))
  own : wr.ownsRow (w.heap.size + 1) 24 4 v i (wideX i)
  bel : Below w.heap.size w wr
theorem LW.bh {w wr X : World} {i : Nat} {v : Value} (h : LW w wr i v) (hb : BH wr X) : LW w X i v := by
  refine ⟨(Below.block hb _ (heap_lt h.box)).trans h.box, h.own.kept (gb_below hb none) ?_, BH.trans h.bel hb⟩
  cases hv : v.ownBlock with
  | none => exact .inl rfl
  | some x => exact .inr (by simp)
theorem LW.next {w X Y : World} {i : Nat} {v v1 : Value} {ob : Obj} (h : LW w X i v) (hown : Y.ownsRow (w.heap.size + 1) 24 4 v1 (i + 1) (wideX i ++ [.int .i64 2, .string ⟨intN.toArray⟩, .int .i64 0, .slice none 0 0])) (hg : (X.alloc ob).grownBy Y v.ownBlock) :
    LW w (Y.setCell ⟨w.heap.size, 3, none⟩ v1) (i + 1) v1 := by
  have hne : ∀ q, v.ownBlock = some q → w.heap.size + 1 ≤ q := fun q hq => (h.own.lt q hq).1
  have hXY : BH w Y := bh_own (bh_alloc h.bel ob) hg (fun q hq => by have := hne q hq; omega)
  have hb : Y.heap[w.heap.size]? = some (.cells #[.int .i64 4, .string ⟨#[]⟩, .int .i64 0, v] 24 (0, 0)) :=
    (hg.block _ (by have := heap_lt h.box; simp; omega) (fun e => by have := hne _ e.symm; omega)).trans ((Below.heap_alloc X ob _ (heap_lt h.box)).trans h.box)
  rw [wideX_snoc] at hown
  refine ⟨heap_set (i := 3) hb v1, ?_, Below.setCell hXY (Nat.le_refl _) _⟩
  refine hown.kept (row := some w.heap.size) (gb_setCell (p := ⟨w.heap.size, 3, none⟩) (World.grownBy.refl _ _) (.inl rfl) v1) ?_
  cases hv : v1.ownBlock with
  | none => exact .inl rfl
  | some x => exact .inr (fun e => by have := (hown.lt x hv).1; cases e; omega)
theorem LW.cell {w X : World} {i : Nat} {v : Value} (h : LW w X i v) : X.cell? ⟨w.heap.size, 3, none⟩ = some v ∧ X.frozen? ⟨w.heap.size, 3, none⟩ = false := by
  obtain ⟨_, _, _, b3, _, _, _, y3⟩ := row4 h.box
  exact ⟨b3, y3⟩

/-- reads as f, in blocks other than g -/
def KN (w : World) (g : Nat) (f : Fo) (A : Option Addr) (c : Nat) : Prop := f.len ≤ c ∧ ∃ ys, readsAt w (fun x => x ≠ g) A f.len ys ∧ rowT w (fun x => x ≠ g) f ys
theorem KN.kt {w : World} {g : Nat} {f : Fo} {A : Option Addr} {c : Nat} (h : KN w g f A c) : KT w f A c := by
  obtain ⟨hc, ys, h1, h2⟩ := h
  exact KT.of hc h1 h2
theorem KN.keep {w w' : World} {g : Nat} {f : Fo} {A : Option Addr} {c : Nat} (h : KN w g f A c) (hs : w.heap.size ≤ w'.heap.size) (hk : ∀ x, x ≠ g → x < w.heap.size → w'.heap[x]? = w.heap[x]?) : KN w' g f A c := by
  obtain ⟨hc, ys, h1, h2⟩ := h
  exact ⟨hc, ys, h1.keep hs fun x hx hl => ⟨hk x hx hl, hx⟩, h2.keep hs (fun x hx hl => ⟨hk x hx hl, hx⟩) _⟩
theorem KN.bh {w w' : World} {g : Nat} {f : Fo} {A : Option Addr} {c : Nat} (h : KN w g f A c) (hb : BH w w') : KN w' g f A c := h.keep (Below.size hb) fun x _ hl => Below.block hb x hl
theorem KN.nil (w : World) (g : Nat) (A : Option Addr) (c : Nat) : KN w g .nil A c := ⟨Nat.zero_le _, [], fun h => absurd h (by simp [Fo.len]), rfl⟩
theorem KN.of_kt {w : World} {g : Nat} {f : Fo} {A : Option Addr} {c : Nat} (h : KT w f A c) (hg : w.heap.size ≤ g) : KN w g f A c := by
  obtain ⟨hc, ys, h1, h2⟩ := h.kb
  exact ⟨hc, ys, h1.keep (Nat.le_refl _) fun x hx hl => ⟨rfl, by show x ≠ g; omega⟩, h2.keep (Nat.le_refl _) (fun x hx hl => ⟨rfl, by show x ≠ g; omega⟩) _⟩
theorem KN.one_block {X : World} {g g8 : Nat} {k o : Int} {t : List UInt8} {kids : Fo} {A : Option Addr} {c : Nat} {T : TypeId} (h : X.heap[g]? = some (.cells #[.int .i64 k, .string ⟨t.toArray⟩, .int .i64 o, .slice A kids.len c] T (0, 0))) (hk : KN X g8 kids A c) (hne : g ≠ g8) : KN X g8 (.one k t kids o) (some ⟨g, 0, none⟩) 1 := by
  obtain ⟨hc, ys, q1, q2⟩ := hk
  refine ⟨Nat.le_refl _, [.int .i64 k, .string ⟨t.toArray⟩, .int .i64 o, .slice A kids.len c], fun _ => ⟨g, 0, rfl, hne, heap_lt h, fun j u hu => ?_⟩, A, c, ys, [], rfl, hc, q1, q2, rfl⟩
  rw [Nat.zero_add, cell_of_row _ _ j _ _ _ h]
  simpa using hu

theorem LW_after {w X Y : World} {i : Nat} {v : Value} {ob : Obj} (h : LW w X i v) (hg : (X.alloc ob).grownBy Y v.ownBlock) : Y.cell? ⟨w.heap.size, 3, none⟩ = some v ∧ Y.frozen? ⟨w.heap.size, 3, none⟩ = false := by
  have hb : Y.heap[w.heap.size]? = some (.cells #[.int .i64 4, .string ⟨#[]⟩, .int .i64 0, v] 24 (0, 0)) :=
    (hg.block _ (by have := heap_lt h.box; simp; omega) (fun e => by have := (h.own.lt _ e.symm).1; omega)).trans ((Below.heap_alloc X ob _ (heap_lt h.box)).trans h.box)
  obtain ⟨_, _, _, b3, _, _, _, y3⟩ := row4 hb
  exact ⟨b3, y3⟩

/-- the two terms -/
structure PL (w X : World) (g5 g8 : Nat) (C : Nat) (A5 : Option Addr) (c5 : Nat) (k o : Int) (t : List UInt8) (kids : Fo) (A : Option Addr) (c : Nat) : Prop where
  r5 : X.heap[g5]? = some (.cells #[.int .i64 4, .string ⟨#[]⟩, .int .i64 0, .slice A5 C c5] 24 (0, 0))
  k5 : KN X g8 (wideF C) A5 c5
  r8 : X.heap[g8]? = some (.cells #[.int .i64 k, .string ⟨t.toArray⟩, .int .i64 o, .slice A kids.len c] 24 (0, 0))
  k8 : KN X g8 kids A c
  bel : Below w.heap.size w X
theorem PL.below {w X X' : World} {g5 g8 C : Nat} {A5 : Option Addr} {c5 : Nat} {k o : Int} {t : List UInt8} {kids : Fo} {A : Option Addr} {c : Nat} (h : PL w X g5 g8 C A5 c5 k o t kids A c) (hb : Below X.heap.size X X') : PL w X' g5 g8 C A5 c5 k o t kids A c :=
  ⟨(hb.block _ (heap_lt h.r5)).trans h.r5, h.k5.bh hb, (hb.block _ (heap_lt h.r8)).trans h.r8, h.k8.bh hb, h.bel.trans (hb.mono h.bel.size)⟩
theorem PL.cells {w X : World} {g5 g8 C : Nat} {A5 : Option Addr} {c5 : Nat} {k o : Int} {t : List UInt8} {kids : Fo} {A : Option Addr} {c : Nat} (h : PL w X g5 g8 C A5 c5 k o t kids A c) :
    X.cell? ⟨g5, 0, none⟩ = some (.int .i64 4) ∧ X.cell? ⟨g5, 1, none⟩ = some (.string ⟨#[]⟩) ∧ X.cell? ⟨g5, 2, none⟩ = some (.int .i64 0) ∧ X.cell? ⟨g5, 3, none⟩ = some (.slice A5 C c5) ∧
    X.cell? ⟨g8, 0, none⟩ = some (.int .i64 k) ∧ X.cell? ⟨g8, 1, none⟩ = some (.string ⟨t.toArray⟩) ∧ X.cell? ⟨g8, 2, none⟩ = some (.int .i64 o) ∧ X.cell? ⟨g8, 3, none⟩ = some (.slice A kids.len c) := by
  obtain ⟨a0, a1, a2, a3, _⟩ := row4 h.r5
  obtain ⟨b0, b1, b2, b3, _⟩ := row4 h.r8
  exact ⟨a0, a1, a2, a3, b0, b1, b2, b3⟩
theorem PL.fro {w X : World} {g5 g8 C : Nat} {A5 : Option Addr} {c5 : Nat} {k o : Int} {t : List UInt8} {kids : Fo} {A : Option Addr} {c : Nat} (h : PL w X g5 g8 C A5 c5 k o t kids A c) :
    X.frozen? ⟨g8, 0, none⟩ = false ∧ X.frozen? ⟨g8, 1, none⟩ = false ∧ X.frozen? ⟨g8, 2, none⟩ = false ∧ X.frozen? ⟨g8, 3, none⟩ = false := by
  obtain ⟨_, _, _, _, y⟩ := row4 h.r8
  exact y
theorem set4 {w : World} {N : Nat} {t : TypeId} {x y z u : Value} (h : w.heap[N]? = some (.cells #[x, y, z, u] t (0, 0))) (a b c d : Value) :
    ((((w.setCell ⟨N, 0, none⟩ a).setCell ⟨N, 1, none⟩ b).setCell ⟨N, 2, none⟩ c).setCell ⟨N, 3, none⟩ d).heap[N]? = some (.cells #[a, b, c, d] t (0, 0)) := by
  have h0 := heap_set (i := 0) h a
  have h1 := heap_set (i := 1) h0 b
  have h2 := heap_set (i := 2) h1 c
  exact heap_set (i := 3) h2 d
theorem set4_far {w : World} {N x : Nat} (hx : x ≠ N) (a b c d : Value) :
    ((((w.setCell ⟨N, 0, none⟩ a).setCell ⟨N, 1, none⟩ b).setCell ⟨N, 2, none⟩ c).setCell ⟨N, 3, none⟩ d).heap[x]? = w.heap[x]? :=
  (heap_far (p := ⟨N, 3, none⟩) hx d).trans ((heap_far (p := ⟨N, 2, none⟩) hx c).trans ((heap_far (p := ⟨N, 1, none⟩) hx b).trans (heap_far (p := ⟨N, 0, none⟩) hx a)))
/-- the second loop's round: the term goes into a new block, the box holds a term over it -/
theorem PL.deeper {w X Y : World} {g5 g8 C : Nat} {A5 : Option Addr} {c5 : Nat} {k o : Int} {t : List UInt8} {kids : Fo} {A : Option Addr} {c : Nat} (h : PL w X g5 g8 C A5 c5 k o t kids A c) (hne : g5 ≠ g8) (h8 : w.heap.size ≤ g8)
    (hY : BH (X.alloc (.cells #[.int .i64 k, .string ⟨t.toArray⟩, .int .i64 o, .slice A kids.len c] 24)) Y) :
    PL w ((((Y.setCell ⟨g8, 0, none⟩ (.int .i64 2)).setCell ⟨g8, 1, none⟩ (.string ⟨boxN.toArray⟩)).setCell ⟨g8, 2, none⟩ (.int .i64 0)).setCell ⟨g8, 3, none⟩ (.slice (some ⟨X.heap.size, 0, none⟩) 1 1)) g5 g8 C A5 c5 2 0 boxN (.one k t kids o) (some ⟨X.heap.size, 0, none⟩) 1 := by
  have hX := bh_alloc (BH.refl X) (.cells #[.int .i64 k, .string ⟨t.toArray⟩, .int .i64 o, .slice A kids.len c] 24)
  have hn := (Below.block hY _ (by simp)).trans (heap_alloc_new X (.cells #[.int .i64 k, .string ⟨t.toArray⟩, .int .i64 o, .slice A kids.len c] 24))
  have h2 := h.below (BH.trans hX hY)
  have hlt := heap_lt h.r8
  have hsz : ∀ a b c d : Value, Y.heap.size ≤ ((((Y.setCell ⟨g8, 0, none⟩ a).setCell ⟨g8, 1, none⟩ b).setCell ⟨g8, 2, none⟩ c).setCell ⟨g8, 3, none⟩ d).heap.size := fun a b c d => by simp [size_set]
  exact ⟨(set4_far hne _ _ _ _).trans h2.r5, h2.k5.keep (hsz _ _ _ _) (fun x hx _ => set4_far hx _ _ _ _), set4 h2.r8 _ _ _ _,
    (KN.one_block hn h2.k8 (by omega)).keep (hsz _ _ _ _) (fun x hx _ => set4_far hx _ _ _ _), ((((h2.bel.setCell h8 _).setCell h8 _).setCell h8 _).setCell h8 _)⟩

set_option maxHeartbeats 8000000 in
set_option maxRecDepth 100000 in
theorem limits_walk (a0 a1 : Int) (w : World) :
    Calls Try.prog 4 #[.int .i64 a0, .int .i64 a1] w fun e w' => e = .returned (.bool true) ∧ Below w.heap.size w w' := by
  obtain ⟨i0, hi, hz0, hz1, hz2⟩ := info_parts infoTy
  obtain ⟨hm0, hm1⟩ := modI_bounds a0 5 (by decide)
  obtain ⟨hn0, hn1⟩ := modI_bounds a1 5 (by decide)
  obtain ⟨m, hm⟩ : ∃ m : Nat, modI a0 5 = (m : Int) := ⟨(modI a0 5).toNat, by omega⟩
  obtain ⟨n, hn⟩ : ∃ n : Nat, modI a1 5 = (n : Int) := ⟨(modI a1 5).toNat, by omega⟩
  have HM := Lib.hid (fun W => show Calls Try.prog 18 #[.int .i64 a0, .int .i64 5] W fun e w' => e = .returned (.int .i64 (m : Int)) ∧ W = w' from by rw [← hm]; exact mod_any a0 5 W (by decide) (by decide))
  have HN := Lib.hid (fun W => show Calls Try.prog 18 #[.int .i64 a1, .int .i64 5] W fun e w' => e = .returned (.int .i64 (n : Int)) ∧ W = w' from by rw [← hn]; exact mod_any a1 5 W (by decide) (by decide))
  have hm5 : m < 5 := by omega
  have hn5 : n < 5 := by omega
  clear hm0 hm1 hn0 hn1 hm hn
  obtain ⟨C, hC⟩ : ∃ C : Nat, 197 + m = C := ⟨_, rfl⟩
  obtain ⟨D, hD⟩ : ∃ D : Nat, 10 + n = D := ⟨_, rfl⟩
  have hCi : (197 : Int) + (m : Int) = (C : Int) := by omega
  have hDi : (10 : Int) + (n : Int) = (D : Int) := by omega
  have HC := Lib.hid hC
  have HD := Lib.hid hD
  clear hC hD
  have HL0 := Lib.hid (show LW w (w.alloc (.cells #[.int .i64 4, .string ⟨#[]⟩, .int .i64 0, .slice none 0 0] 24 (0, 0))) 0 (.slice none 0 0) from ⟨heap_alloc_new w _, World.ownsRow_nil _ _ _ _, bh_alloc (BH.refl w) _⟩)
  go_enter Try.func4, Try.ntmps4
  go_wp2_with (fail)
  refine (HM.out _).mono ?_
  rintro e1 u0 ⟨rfl, rfl⟩
  go_wp2_with (fail)
  go_loopw [7] (fun iv wr => ∃ (i : Nat) (v : Value), iv = .int .i64 (i : Int) ∧ i ≤ C ∧ LW w wr i v) (fun iv _ => C - (match iv with | .int _ n => n.toNat | _ => 0))
  case atStart => exact ⟨0, _, rfl, Nat.zero_le _, HL0.out⟩
  case round =>
    obtain ⟨i, v, rfl, hiC, hLW⟩ := hrel
    have HLW := Lib.hid hLW
    clear hLW
    by_cases hlt : i < C
    · have hge : decide ((i : Int) < (C : Int)) = true := by rw [decide_eq_true_eq]; omega
      obtain ⟨A4, c4, rfl, _⟩ := own_shape HLW.out.own
      obtain ⟨q3, y3⟩ := HLW.out.cell
      have hC2 : C ≤ 201 := by have := HC.out; omega
      go_wp2_with (fail)
      have HLd := Lib.hid (HLW.out.bh (BH.drew wr))
      have HNm : Hid (∀ X, LW w X i (.slice A4 i c4) → Calls Try.prog 5 #[.string ⟨#[73, 110, 116]⟩, .slice none 0 0] X fun e u => e = .returned (.agg #[.int .i64 2, .string ⟨#[73, 110, 116]⟩, .int .i64 0, .slice none 0 0]) ∧ LW w u i (.slice A4 i c4)) := Lib.hid (by
        intro X h
        refine (namedC _ _ _ _ _).mono ?_
        rintro e u ⟨rfl, hb⟩
        exact ⟨rfl, h.bh hb⟩)
      go_region_law (first
          | (go_simp; go_at_call 5; (with_reducible refine (HNm.out _ HLd.out).mono ?_); rintro e u ⟨rfl, hp⟩; have HLu := Lib.hid hp; obtain ⟨q3, y3⟩ := hp.cell; obtain ⟨r3, z3⟩ := (hp.bh (bh_alloc (BH.refl u) (.cells #[.int .i64 2, .string ⟨#[73, 110, 116]⟩, .int .i64 0, .slice none 0 0] 24))).cell; have hnu : ¬ w.heap.size = u.heap.size := (by have := heap_lt hp.box; omega); clear hp)
          | (refine step_app _ (by rfl) _ _ _ (by rfl) (w.heap.size + 1) 24 i0 _ 4 56 Try.underlying22 hi hz0 hz1 hz2 rfl (by decide) (.slice A4 i c4) i (wideX i) (by rfl) (HLu.out.own.alloc _) (some ⟨u.heap.size, 0, none⟩) 1 1 [.int .i64 2, .string ⟨#[73, 110, 116]⟩, .int .i64 0, .slice none 0 0] (by rfl) (celB (cs := #[.int .i64 2, .string ⟨#[73, 110, 116]⟩, .int .i64 0, .slice none 0 0]) (heap_alloc_new u _) rfl (by decide)) (by intro x hx; simp at hx; rcases hx with rfl | rfl | rfl | rfl <;> rfl) (by unfold maxLen; omega) (by omega) (by have := HLu.out.bel.size; have := heap_lt HLu.out.box; simp; omega) ?_; intro v1 w1 ho1 hg1 ha1; obtain ⟨A6, c6, rfl, hc6⟩ := own_shape ho1; have HLn := Lib.hid (And.intro ho1 hg1); have hne : ∀ q, (Value.slice A4 i c4).ownBlock = some q → w.heap.size + 1 ≤ q := (fun q hq => (HLu.out.own.lt q hq).1); obtain ⟨q3, y3⟩ := LW_after HLu.out hg1; clear ho1 hg1 ha1))
      all_goals
        go_wp2_with (fail)
        exact ⟨⟨i + 1, _, rfl, hlt, HLu.out.next HLn.out.1 HLn.out.2⟩, by simp; omega⟩
    · have hge : decide ((i : Int) < (C : Int)) = false := by rw [decide_eq_false_iff_not]; omega
      have hge2 : decide (i < C) = false := by rw [decide_eq_false_iff_not]; omega
      obtain rfl : i = C := by omega
      obtain ⟨A5, c5, rfl, hc5⟩ := own_shape HLW.out.own
      clear hge hge2 hlt hiC hc5
      go_wp2_with (fail)
      refine (anyC _).mono ?_
      rintro e2 w2 ⟨rfl, hb2⟩
      have HL2 := Lib.hid (HLW.out.bh hb2)
      clear hb2
      have HP0 : Hid (PL w (w2.alloc (.cells #[.int .i64 0, .string ⟨#[]⟩, .int .i64 0, .slice none 0 0] 24 (0, 0))) w.heap.size w2.heap.size i A5 c5 0 0 [] .nil none 0) := Lib.hid (by
        have hX := bh_alloc (BH.refl w2) (.cells #[.int .i64 0, .string ⟨#[]⟩, .int .i64 0, .slice none 0 0] 24)
        have hk : KT w2 (wideF i) A5 c5 := KT.of_cel (xs := wideX i) (by rw [wideF_len]; exact Cel.of_own HL2.out.own) (wideX_row _ _)
        exact ⟨(Below.block hX _ (heap_lt HL2.out.box)).trans HL2.out.box, (KN.of_kt hk (Nat.le_refl _)).bh hX, heap_alloc_new w2 _, KN.nil _ _ _ _, BH.trans HL2.out.bel hX⟩)
      have hne8 : w.heap.size ≠ w2.heap.size := by have := heap_lt HL2.out.box; omega
      have hle8 : w.heap.size ≤ w2.heap.size := by have := heap_lt HL2.out.box; omega
      have HNE := Lib.hid (And.intro hne8 hle8)
      clear hne8 hle8
      go_wp2_with (fail)
      go_loopw [9] (fun iv wr => ∃ (j : Nat) (k o : Int) (t : List UInt8) (kids : Fo) (A : Option Addr) (c : Nat), iv = .int .i64 ((j + 1 : Nat) : Int) ∧ j + 1 ≤ D ∧ PL w wr w.heap.size w2.heap.size i A5 c5 k o t kids A c ∧ deepF j = .one k t kids o) (fun iv _ => D - (match iv with | .int _ n => n.toNat | _ => 0))
      case atStart => exact ⟨0, 0, 0, [], .nil, none, 0, rfl, by have := HD.out; omega, HP0.out, rfl⟩
      case round =>
        obtain ⟨j, k, o, t, kids, A, c, rfl, hjD, hP, hdf⟩ := hrel
        have HPn := Lib.hid hP
        have HDf := Lib.hid hdf
        obtain ⟨j1, hj1⟩ : ∃ j1 : Nat, j + 1 = j1 := ⟨_, rfl⟩
        have HJ := Lib.hid hj1
        rw [hj1] at hjD ⊢
        have hD2 : D ≤ 14 := by have := HD.out; omega
        clear hP hdf hj1
        obtain ⟨a0', a1', a2', a3', b0, b1, b2, b3⟩ := HPn.out.cells
        by_cases hlt : j1 < D
        · have hge : decide ((j1 : Int) < (D : Int)) = true := by rw [decide_eq_true_eq]; omega
          go_wp2_with (fail)
          refine (HN.out _).mono ?_
          rintro e3 u3 ⟨rfl, rfl⟩
          go_wp2_with (fail)
          refine (namedC _ _ _ _ _).mono ?_
          rintro e4 u4 ⟨rfl, hb4⟩
          have HP4 := Lib.hid (HPn.out.deeper HNE.out.1 HNE.out.2 hb4)
          have hX := HPn.out.below (BH.trans (bh_alloc (BH.refl _) _) hb4)
          obtain ⟨_, _, _, _, d0, d1, d2, d3⟩ := hX.cells
          obtain ⟨y0, y1, y2, y3⟩ := hX.fro
          clear hb4 hX a0' a1' a2' a3' b0 b1 b2 b3
          go_wp2_with (fail)
          exact ⟨⟨j + 1, 2, 0, boxN, .one k t kids o, _, 1, by rw [← HJ.out]; go_num, by have := HJ.out; omega, HP4.out, by rw [deepF, HDf.out]⟩, by simp; omega⟩
        · have hge : decide ((j1 : Int) < (D : Int)) = false := by rw [decide_eq_false_iff_not]; omega
          have hge2 : decide (j1 < D) = false := by rw [decide_eq_false_iff_not]; omega
          go_wp2_with (fail)
          refine (HN.out _).mono ?_
          rintro e3 u3 ⟨rfl, rfl⟩
          go_wp2_with (fail)
          have hD10 := HD.out
          have hjj := HJ.out
          obtain ⟨j', rfl⟩ : ∃ j', j = j' + 1 := ⟨j - 1, by omega⟩
          have hdf := HDf.out
          simp only [deepF, Fo.one, Fo.cons.injEq] at hdf
          obtain ⟨rfl, rfl, rfl, rfl, _⟩ := hdf
          have hjD2 : j' + 2 = D := by omega
          have hiv : 2 ≤ i := by have := HC.out; omega
          have hC2 : i ≤ 201 := by have := HC.out; omega
          obtain ⟨x5, hx5⟩ : ∃ x5 : Int, validV 4 [] 0 (wideF i) = x5 := ⟨_, rfl⟩
          obtain ⟨x8, hx8⟩ : ∃ x8 : Int, validV 2 boxN 0 (deepF j') = x8 := ⟨_, rfl⟩
          have e5 : x5 = if i + 1 ≤ 200 then 0 else 4 := by rw [← hx5, wide_V i hiv]
          have e8 : x8 = if D ≤ 12 then 0 else 4 := by rw [← hx8, deep_V, hjD2]
          have hs5 : fsize (wideF i) ≤ 1073741824 := by rw [wideF_size]; omega
          have hs8 : fsize (deepF j') ≤ 1073741824 := by rw [deepF_size]; omega
          have hk5 : ∀ X, KT X (wideF i) A5 c5 → (wideF i).len = i := fun _ _ => wideF_len i
          have CV5 : Hid (∀ X, PL w X w.heap.size w2.heap.size i A5 c5 2 0 boxN (deepF j') A c → Calls Try.prog 12 #[.agg #[.int .i64 4, .string ⟨#[]⟩, .int .i64 0, .slice A5 i c5]] X fun e u => e = .returned (.int .i64 x5) ∧ PL w u w.heap.size w2.heap.size i A5 c5 2 0 boxN (deepF j') A c) := Lib.hid (by
            intro X h
            have hv := validate_any 4 0 [] (wideF i) A5 c5 X hs5 h.k5.kt (by decide) (wideF_lenT i)
            rw [wideF_len] at hv
            refine hv.mono ?_
            rintro e u ⟨rfl, hb⟩
            exact ⟨congrArg (fun z : Int => Ending.returned (.int .i64 z)) hx5, h.below hb⟩)
          have CR5 : Hid (∀ X, PL w X w.heap.size w2.heap.size i A5 c5 2 0 boxN (deepF j') A c → Calls Try.prog 20 #[.agg #[.int .i64 4, .string ⟨#[]⟩, .int .i64 0, .slice A5 i c5]] X fun e u => e = .returned (.int .i64 x5) ∧ PL w u w.heap.size w2.heap.size i A5 c5 2 0 boxN (deepF j') A c) := Lib.hid (by
            intro X h
            have hv := rValidate_any 4 0 [] (wideF i) A5 c5 X hs5 h.k5.kt (by decide) (wideF_lenT i)
            rw [wideF_len] at hv
            refine hv.mono ?_
            rintro e u ⟨rfl, hb⟩
            exact ⟨congrArg (fun z : Int => Ending.returned (.int .i64 z)) hx5, h.below hb⟩)
          have CV8 : Hid (∀ X, PL w X w.heap.size w2.heap.size i A5 c5 2 0 boxN (deepF j') A c → Calls Try.prog 12 #[.agg #[.int .i64 2, .string ⟨boxN.toArray⟩, .int .i64 0, .slice A (deepF j').len c]] X fun e u => e = .returned (.int .i64 x8) ∧ PL w u w.heap.size w2.heap.size i A5 c5 2 0 boxN (deepF j') A c) := Lib.hid (by
            intro X h
            refine (validate_any 2 0 boxN (deepF j') A c X hs8 h.k8.kt (by decide) (deepF_lenT j')).mono ?_
            rintro e u ⟨rfl, hb⟩
            exact ⟨congrArg (fun z : Int => Ending.returned (.int .i64 z)) hx8, h.below hb⟩)
          have CR8 : Hid (∀ X, PL w X w.heap.size w2.heap.size i A5 c5 2 0 boxN (deepF j') A c → Calls Try.prog 20 #[.agg #[.int .i64 2, .string ⟨boxN.toArray⟩, .int .i64 0, .slice A (deepF j').len c]] X fun e u => e = .returned (.int .i64 x8) ∧ PL w u w.heap.size w2.heap.size i A5 c5 2 0 boxN (deepF j') A c) := Lib.hid (by
            intro X h
            refine (rValidate_any 2 0 boxN (deepF j') A c X hs8 h.k8.kt (by decide) (deepF_lenT j')).mono ?_
            rintro e u ⟨rfl, hb⟩
            exact ⟨congrArg (fun z : Int => Ending.returned (.int .i64 z)) hx8, h.below hb⟩)
          have CD8 : Hid (∀ X, PL w X w.heap.size w2.heap.size i A5 c5 2 0 boxN (deepF j') A c → Calls Try.prog 19 #[.agg #[.int .i64 2, .string ⟨boxN.toArray⟩, .int .i64 0, .slice A (deepF j').len c]] X fun e u => e = .returned (.int .i64 (D : Int)) ∧ PL w u w.heap.size w2.heap.size i A5 c5 2 0 boxN (deepF j') A c) := Lib.hid (by
            intro X h
            refine (rdepth_any _ 2 0 boxN (deepF j') A c X (Nat.le_refl _) hs8 h.k8.kt).mono ?_
            rintro e u ⟨rfl, hb⟩
            exact ⟨congrArg (fun z : Int => Ending.returned (.int .i64 z)) (by rw [deepF_dep]; omega), h.below hb⟩)
          have HPn2 := HPn
          clear HPn
          have HPn := Lib.hid (HPn2.out.below (below_drew _))
          have hwi : IntKind.i64.wrap ((i : Int) + 1) = (i : Int) + 1 := (IntKind.wrap_i64 _).trans (by omega)
          have HWI := Lib.hid hwi
          have fin : ∀ (b5 b8 : Bool), (decide ((i : Int) + 1 ≤ 200) = b5) → ((x5 == 0) = b5) → (decide ((D : Int) ≤ 12) = b8) → ((x8 == 0) = b8) → True := fun _ _ _ _ _ _ => trivial
          clear fin hwi
          have h5 : ((i : Int) + 1 ≤ 200 ∧ x5 = 0) ∨ (¬ ((i : Int) + 1 ≤ 200) ∧ x5 = 4) := by
            by_cases h : i + 1 ≤ 200
            · exact .inl ⟨by omega, by rw [e5, if_pos h]⟩
            · exact .inr ⟨by omega, by rw [e5, if_neg h]⟩
          have h8 : ((D : Int) ≤ 12 ∧ x8 = 0) ∨ (¬ ((D : Int) ≤ 12) ∧ x8 = 4) := by
            by_cases h : D ≤ 12
            · exact .inl ⟨by omega, by rw [e8, if_pos h]⟩
            · exact .inr ⟨by omega, by rw [e8, if_neg h]⟩
          clear hx5 hx8 e5 e8 hs5 hs8 hk5 hD10 hjj hjD2 hiv
          obtain ⟨p0, p1, p2, p3, b0, b1, b2, b3⟩ := HPn2.out.cells
          clear a0' a1' a2' a3'
          rcases h5 with ⟨h5, rfl⟩ | ⟨h5, rfl⟩ <;> rcases h8 with ⟨h8, rfl⟩ | ⟨h8, rfl⟩
          all_goals
            first
              | have d5 : decide ((i : Int) + 1 ≤ 200) = true := decide_eq_true h5
              | have d5 : decide ((i : Int) + 1 ≤ 200) = false := decide_eq_false h5
            first
              | have d8 : decide ((D : Int) ≤ 12) = true := decide_eq_true h8
              | have d8 : decide ((D : Int) ≤ 12) = false := decide_eq_false h8
            clear h5 h8
            have hwi := HWI.out
            go_region_held3 (fun X => X.cell? ⟨w.heap.size, 0, none⟩ = some (.int .i64 4) ∧ X.cell? ⟨w.heap.size, 1, none⟩ = some (.string ⟨#[]⟩) ∧ X.cell? ⟨w.heap.size, 2, none⟩ = some (.int .i64 0) ∧ X.cell? ⟨w.heap.size, 3, none⟩ = some (.slice A5 i c5) ∧
                X.cell? ⟨w2.heap.size, 0, none⟩ = some (.int .i64 2) ∧ X.cell? ⟨w2.heap.size, 1, none⟩ = some (.string ⟨boxN.toArray⟩) ∧ X.cell? ⟨w2.heap.size, 2, none⟩ = some (.int .i64 0) ∧ X.cell? ⟨w2.heap.size, 3, none⟩ = some (.slice A (deepF j').len c)) (go_keep)
              (first
                | (go_at_call 11; refine (check2_any _).mono ?_; rintro e u ⟨rfl, hb⟩; have HPn := Lib.hid (HPn.out.below hb); clear hb; obtain ⟨p0, p1, p2, p3, b0, b1, b2, b3⟩ := HPn.out.cells)
                | (go_at_call 12; (with_reducible refine (CV5.out _ HPn.out).mono ?_); rintro e u ⟨rfl, hp⟩; have HPn := Lib.hid hp; clear hp; obtain ⟨p0, p1, p2, p3, b0, b1, b2, b3⟩ := HPn.out.cells)
                | (go_at_call 12; (with_reducible refine (CV8.out _ HPn.out).mono ?_); rintro e u ⟨rfl, hp⟩; have HPn := Lib.hid hp; clear hp; obtain ⟨p0, p1, p2, p3, b0, b1, b2, b3⟩ := HPn.out.cells)
                | (go_at_call 20; (with_reducible refine (CR5.out _ HPn.out).mono ?_); rintro e u ⟨rfl, hp⟩; have HPn := Lib.hid hp; clear hp; obtain ⟨p0, p1, p2, p3, b0, b1, b2, b3⟩ := HPn.out.cells)
                | (go_at_call 20; (with_reducible refine (CR8.out _ HPn.out).mono ?_); rintro e u ⟨rfl, hp⟩; have HPn := Lib.hid hp; clear hp; obtain ⟨p0, p1, p2, p3, b0, b1, b2, b3⟩ := HPn.out.cells)
                | (go_at_call 19; (with_reducible refine (CD8.out _ HPn.out).mono ?_); rintro e u ⟨rfl, hp⟩; have HPn := Lib.hid hp; clear hp; obtain ⟨p0, p1, p2, p3, b0, b1, b2, b3⟩ := HPn.out.cells))
            all_goals
              go_wp2_with (fail)
              go_ret
              exact ⟨rfl, HPn.out.bel⟩
end Go.Proofs.Ytnidngpenhblcaa
