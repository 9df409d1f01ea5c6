/- telmake.AnyNode without malformed nodes. -/
import Derived.Test.YtpflfbfbjmoggaaDoorGen
import Derived.Deep.RegionLaw
import Derived.Deep.AppendLies
set_option linter.unusedVariables false
set_option linter.unusedSimpArgs false
namespace Go.Proofs.YtpflfbfbjmoggaaDoor
open Go.RowKit Sx

/-- what AnyNode may answer -/
def okF (W T : List (List UInt8)) (bad : Bool) : Nat → Fo → Prop
  | _, .nil => True
  | d, .cons k t kids o rest => ((o = 0 ∧ kids = .nil ∧ ((k = 1 ∧ t ∈ W) ∨ (k = 2 ∧ t ∈ T))) ∨ (o = 0 ∧ k = 3 ∧ t = [] ∧ 0 < d ∧ kids.len ≤ 4 ∧ okF W T bad (d - 1) kids) ∨
      (bad = true ∧ o = 0 ∧ t ∈ T ∧ 0 ≤ k ∧ k < 5 ∧ ∃ u, u ∈ W ∧ kids = .one 1 u .nil 0) ∨ (bad = true ∧ k = 1 ∧ t ∈ T ∧ kids = .nil)) ∧ okF W T bad d rest

theorem okF_app {W T : List (List UInt8)} {bad : Bool} {d : Nat} (f g : Fo) (hf : okF W T bad d f) (hg : okF W T bad d g) : okF W T bad d (f.app g) := by
  induction f with
  | nil => exact hg
  | cons k t kids o rest _ ih => exact ⟨hf.1, ih hf.2⟩

def AnyPost (b : Nat) (a : Option Addr) (len cap : Nat) (zs : List Int) (W T : List (List UInt8)) (gw ow cw gs ot cs : Nat) (bad : Bool) (d : Nat) (w : World) (e : Ending) (w' : World) : Prop :=
  ∃ (k o : Int) (t : List UInt8) (kids : Fo) (A : Option Addr) (c : Nat) (ys : List Value), e = .returned (.agg #[.int .i64 k, .string ⟨t.toArray⟩, .slice A kids.len c, .int .i64 o]) ∧ kids.len ≤ c ∧ readsAt w' (fun x => w.heap.size ≤ x) A kids.len ys ∧ rowOf w' (fun x => w.heap.size ≤ x) kids ys ∧
    okF W T bad d (.one k t kids o) ∧ Gen w' b a len cap zs W T gw ow cw gs ot cs ∧ w.grownBy w' (some b)

theorem infoRNode : (Tryd.prog.info? 39).map (fun i => (i.zero, i.size, i.bytes)) = some (some (.agg #[.int .i64 0, .string ⟨#[]⟩, .slice none 0 0, .int .i64 0]), 4, 56) := by kernel_rfl

/-- the stream k read, in a world that has grown from w1 by its block alone -/
structure HoldK (w1 W : World) (b : Nat) (a : Option Addr) (len cap : Nat) (zs : List Int) (k : Nat) : Prop where
  st : Strm W b a len cap zs k
  gb : w1.grownBy W (some b)
  size : W.heap.size = w1.heap.size

theorem next_hold {w1 W0 : World} {b : Nat} {a : Option Addr} {len cap : Nat} {zs : List Int} {k : Nat} (m : Int) (h : HoldK w1 W0 b a len cap zs k) (hm : 0 < m) (hm2 : m ≤ 65536) :
    Calls Tryd.prog 56 #[.pointer (some ⟨b, 0, none⟩), .int .i64 m] W0 fun e w' => e = .returned (.int .i64 (nxt len zs k m)) ∧ HoldK w1 w' b a len cap zs (nk len k) := by
  refine (next_det b a len cap zs k m W0 h.st hm hm2).mono ?_
  rintro e w' ⟨he, hs, hg, hz⟩
  exact ⟨he, hs, gb_trans h.gb hg, hz.trans h.size⟩
theorem raw_hold {w1 W0 : World} {b : Nat} {a : Option Addr} {len cap : Nat} {zs : List Int} {k : Nat} (h : HoldK w1 W0 b a len cap zs k) :
    Calls Tryd.prog 57 #[.pointer (some ⟨b, 0, none⟩)] W0 fun e w' => ∃ r k', e = .returned (.int .i64 r) ∧ HoldK w1 w' b a len cap zs k' := by
  refine (raw_any b a len cap zs k W0 h.st).mono ?_
  rintro e w' ⟨r, k', he, hs, hg, hz⟩
  exact ⟨r, k', he, hs, gb_trans h.gb hg, hz.trans h.size⟩
theorem HoldK.cell {w1 W : World} {b : Nat} {a : Option Addr} {len cap : Nat} {zs : List Int} {k : Nat} (h : HoldK w1 W b a len cap zs k) {p : Addr} {v : Value} (hp : w1.cell? p = some v) (hlt : p.block < w1.heap.size) (hne : p.block ≠ b) : W.cell? p = some v :=
  (World.cell?_of_block (h.gb.block _ hlt (by simp; exact hne))).trans hp

/-- between two rounds of the loop: node's block M, result's block N -/
structure Rnd (w w3 wr : World) (M N i : Nat) (v : Value) (acc : Fo) (xs : List Value) (b : Nat) (a : Option Addr) (len cap : Nat) (zs : List Int) (W T : List (List UInt8)) (gw ow cw gs ot cs : Nat) : Prop where
  gen0 : Gen w b a len cap zs W T gw ow cw gs ot cs
  gen : Gen wr b a len cap zs W T gw ow cw gs ot cs
  gb : w.grownBy wr (some b)
  blkM : wr.heap[M]? = some (.cells #[.int .i64 3, .string ⟨#[]⟩, v, .int .i64 0] 39 (0, 0))
  blkN : wr.heap[N]? = some (.cells #[.int .i64 0, .string ⟨#[]⟩, .slice none 0 0, .int .i64 0] 39 (0, 0))
  own : wr.ownsRow w3.heap.size 39 4 v acc.len xs
  row : rowOf wr (fun x => w3.heap.size ≤ x ∧ v.ownBlock ≠ some x) acc xs
  size : w3.heap.size ≤ wr.heap.size
  len : acc.len = i

/-- behind the inner call -/
structure After (w w3 wr w4 : World) (M N i : Nat) (v : Value) (acc : Fo) (xs : List Value) (k o : Int) (t : List UInt8) (kids : Fo) (A : Option Addr) (c : Nat) (ys : List Value) (d : Nat) (b : Nat) (a : Option Addr) (len cap : Nat) (zs : List Int) (W T : List (List UInt8)) (gw ow cw gs ot cs : Nat) (bad : Bool) : Prop where
  rnd : Rnd w w3 w4 M N i v acc xs b a len cap zs W T gw ow cw gs ot cs
  rnd0 : Rnd w w3 wr M N i v acc xs b a len cap zs W T gw ow cw gs ot cs
  gb : wr.grownBy w4 (some b)
  cap_ : kids.len ≤ c
  rd : readsAt w4 (fun x => wr.heap.size ≤ x) A kids.len ys
  rw_ : rowOf w4 (fun x => wr.heap.size ≤ x) kids ys
  ok : okF W T bad d (.one k t kids o)

section
variable {w w3 wr w4 : World} {M N i : Nat} {v : Value} {acc : Fo} {xs : List Value} {k o : Int} {t : List UInt8} {kids : Fo} {A : Option Addr} {c : Nat} {ys : List Value} {d : Nat} {b : Nat} {a : Option Addr} {len cap : Nat} {zs : List Int} {W T : List (List UInt8)} {gw ow cw gs ot cs : Nat} {bad : Bool}

theorem Rnd.after (h : Rnd w w3 wr M N i v acc xs b a len cap zs W T gw ow cw gs ot cs) (hg : wr.grownBy w4 (some b)) (hG : Gen w4 b a len cap zs W T gw ow cw gs ot cs) (hM : M ≠ b) (hN : N ≠ b) (hb : b < w3.heap.size) : Rnd w w3 w4 M N i v acc xs b a len cap zs W T gw ow cw gs ot cs := by
  refine ⟨h.gen0, hG, gb_trans h.gb hg, row4_after hg h.blkM hM, row4_after hg h.blkN hN, h.own.kept hg ?_, ?_, Nat.le_trans h.size hg.size, h.len⟩
  · cases hv : v.ownBlock with
    | none => exact .inl rfl
    | some x => exact .inr (by have := (h.own.lt x hv).1; simp; omega)
  · exact h.row.keep hg.size (fun x hx hl => ⟨hg.block x hl (by simp; have := hx.1; omega), hx⟩) _

theorem Rnd.to_after {dd : Nat} (h : Rnd w w3 wr (w.heap.size + 1) w.heap.size i v acc xs b a len cap zs W T gw ow cw gs ot cs) (hg : wr.grownBy w4 (some b)) (hG : Gen w4 b a len cap zs W T gw ow cw gs ot cs) (hb : b < w.heap.size) (h3 : w3.heap.size = w.heap.size + 2)
    (hc : kids.len ≤ c) (hr : readsAt w4 (fun x => wr.heap.size ≤ x) A kids.len ys) (hk : rowOf w4 (fun x => wr.heap.size ≤ x) kids ys) (hok : okF W T bad dd (.one k t kids o)) :
    After w w3 wr w4 (w.heap.size + 1) w.heap.size i v acc xs k o t kids A c ys dd b a len cap zs W T gw ow cw gs ot cs bad :=
  ⟨h.after hg hG (by omega) (by omega) (by omega), h, hg, hc, hr, hk, hok⟩

theorem After.cell (h : After w w3 wr w4 M N i v acc xs k o t kids A c ys d b a len cap zs W T gw ow cw gs ot cs bad) (hM : M < w3.heap.size) {ob : Obj} {w5 : World} (hg : (w4.alloc ob).grownBy w5 v.ownBlock) :
    w5.heap[M]? = some (.cells #[.int .i64 3, .string ⟨#[]⟩, v, .int .i64 0] 39 (0, 0)) := by
  refine (hg.block M (by have := h.rnd.size; simp; omega) ?_).trans ((Below.heap_alloc w4 ob M (by have := h.rnd.size; omega)).trans h.rnd.blkM)
  intro e
  have := (h.rnd.own.lt M e.symm).1
  omega

theorem After.done (h : After w w3 wr w4 M N i v acc xs k o t kids A c ys d b a len cap zs W T gw ow cw gs ot cs bad) (hM : M < w3.heap.size) (hMw : w.heap.size ≤ M) (hN : N < w3.heap.size) (hNM : N ≠ M) (hb : b < w.heap.size) (hw3 : w.heap.size ≤ w3.heap.size)
    {ob : Obj} {w5 : World} {gg cap' : Nat} (hg : (w4.alloc ob).grownBy w5 v.ownBlock) (hat : v.ownBlock = some gg ∨ gg = w4.heap.size + 1)
    (hown : w5.ownsRow w3.heap.size 39 4 (.slice (some ⟨gg, 0, none⟩) (acc.len + 1) cap') (acc.len + 1) (xs ++ [.int .i64 k, .string ⟨t.toArray⟩, .slice A kids.len c, .int .i64 o])) :
    Rnd w w3 (w5.setCell ⟨M, 2, none⟩ (.slice (some ⟨gg, 0, none⟩) (acc.len + 1) cap')) M N (i + 1) (.slice (some ⟨gg, 0, none⟩) (acc.len + 1) cap') (acc.app (.one k t kids o)) (xs ++ [.int .i64 k, .string ⟨t.toArray⟩, .slice A kids.len c, .int .i64 o]) b a len cap zs W T gw ow cw gs ot cs := by
  have hs4 := h.rnd.size
  have hs5 := hg.size
  have hs5' : (w4.alloc ob).heap.size = w4.heap.size + 1 := by simp
  have hM5 := h.cell hM hg
  have hne : ∀ x, x < w3.heap.size → some x ≠ v.ownBlock := fun x hx e => by have := (h.rnd.own.lt x e.symm).1; omega
  have hgg := (hown.lt gg rfl).1
  have hnew : w4.grownBy (w5.setCell ⟨M, 2, none⟩ (.slice (some ⟨gg, 0, none⟩) (acc.len + 1) cap')) none → True := fun _ => trivial
  have hG5 : w.grownBy w5 (some b) := gb_new (gb_alloc h.rnd.gb ob) hg (fun g e => by have := (h.rnd.own.lt g e).1; omega)
  have hset := heap_set (i := 2) hM5 (.slice (some ⟨gg, 0, none⟩) (acc.len + 1) cap')
  have hkeep : ∀ x, x < w3.heap.size → x ≠ M → (w5.setCell ⟨M, 2, none⟩ (.slice (some ⟨gg, 0, none⟩) (acc.len + 1) cap')).heap[x]? = w4.heap[x]? := fun x hx hxM =>
    (heap_far hxM _).trans ((hg.block x (by omega) (hne x hx)).trans (Below.heap_alloc w4 ob x (by omega)))
  have hrow5 := push_row (w := w3) (b := b) h.rnd0.own h.rnd0.row (by omega) h.rnd0.size h.gb h.cap_ h.rd h.rw_ (o := o) (k := k) (t := t) hg (v' := .slice (some ⟨gg, 0, none⟩) (acc.len + 1) cap') (by
    rcases hat with e | e
    · exact .inl e.symm
    · exact .inr (by simp [Value.ownBlock, e]))
  refine ⟨h.rnd.gen0, ?_, ?_, hset, ?_, ?_, ?_, ?_, ?_⟩
  · exact h.rnd.gen0.old h.rnd.gen (by simp [size_set]; omega) fun x hx => hkeep x (by omega) (by omega)
  · refine gb_new hG5 (row' := some M) ?_ (fun g e => by simp at e; omega)
    exact gb_setCell (World.grownBy.refl _ _) (.inl rfl) _
  · exact (hkeep N hN hNM).trans h.rnd.blkN
  · rw [Fo.len_app]
    exact hown.kept (row := some M) (gb_setCell (World.grownBy.refl _ _) (.inl rfl) _) (.inr (by simp [Value.ownBlock]; omega))
  · exact hrow5.keep (by simp [size_set]) (fun x hx hl => ⟨heap_far (show x ≠ M from by have : w3.heap.size ≤ x := hx.1; omega) _, hx⟩) _
  · simp [size_set]; omega
  · rw [Fo.len_app, h.rnd.len]; rfl
theorem set4 {w : World} {N : Nat} {t : TypeId} {x y z u : Value} (h : w.heap[N]? = some (.cells #[x, y, z, u] t (0, 0))) (a b c d : Value) :
    ((((w.setCell ⟨N, 0, none⟩ a).setCell ⟨N, 1, none⟩ b).setCell ⟨N, 2, none⟩ c).setCell ⟨N, 3, none⟩ d).heap[N]? = some (.cells #[a, b, c, d] t (0, 0)) := by
  have h0 := heap_set (i := 0) h a
  have h1 := heap_set (i := 1) h0 b
  have h2 := heap_set (i := 2) h1 c
  exact heap_set (i := 3) h2 d
theorem far4 {w : World} {N x : Nat} (hx : x ≠ N) (a b c d : Value) :
    ((((w.setCell ⟨N, 0, none⟩ a).setCell ⟨N, 1, none⟩ b).setCell ⟨N, 2, none⟩ c).setCell ⟨N, 3, none⟩ d).heap[x]? = w.heap[x]? :=
  (heap_far hx _).trans ((heap_far hx _).trans ((heap_far hx _).trans (heap_far hx _)))
theorem gb4 {w0 w : World} {b N : Nat} (h : w0.grownBy w (some b)) (hN : w0.heap.size ≤ N) (x y z u : Value) :
    w0.grownBy ((((w.setCell ⟨N, 0, none⟩ x).setCell ⟨N, 1, none⟩ y).setCell ⟨N, 2, none⟩ z).setCell ⟨N, 3, none⟩ u) (some b) := by
  refine gb_new h (row' := some N) ?_ (fun g e => by simp at e; omega)
  refine gb_setCell ?_ (.inl rfl) _
  refine gb_setCell ?_ (.inl rfl) _
  refine gb_setCell ?_ (.inl rfl) _
  exact gb_setCell (World.grownBy.refl _ _) (.inl rfl) _

theorem Rnd.out {A5 : Option Addr} {c5 : Nat} (h : Rnd w w3 wr (w.heap.size + 1) w.heap.size acc.len (.slice A5 acc.len c5) acc xs b a len cap zs W T gw ow cw gs ot cs) (h3 : w3.heap.size = w.heap.size + 2) (hok : okF W T bad d acc) (hl : acc.len ≤ 4) :
    AnyPost b a len cap zs W T gw ow cw gs ot cs bad (d + 1) w (.returned (.agg #[.int .i64 3, .string ⟨#[]⟩, .slice A5 acc.len c5, .int .i64 0]))
      ((((wr.setCell ⟨w.heap.size, 0, none⟩ (.int .i64 3)).setCell ⟨w.heap.size, 1, none⟩ (.string ⟨#[]⟩)).setCell ⟨w.heap.size, 2, none⟩ (.slice A5 acc.len c5)).setCell ⟨w.heap.size, 3, none⟩ (.int .i64 0)) := by
  have hsl := own_slice h.own h.row (fun x hx => hx.1)
  obtain ⟨A, c, ys, hv, hc, hr, ho⟩ := hsl
  simp only [Value.slice.injEq, true_and] at hv
  obtain ⟨rfl, rfl⟩ := hv
  have hs := h.size
  have hS : wr.heap.size ≤ ((((wr.setCell ⟨w.heap.size, 0, none⟩ (.int .i64 3)).setCell ⟨w.heap.size, 1, none⟩ (.string ⟨#[]⟩)).setCell ⟨w.heap.size, 2, none⟩ (.slice A5 acc.len c5)).setCell ⟨w.heap.size, 3, none⟩ (.int .i64 0)).heap.size := by simp [size_set]
  have hk : ∀ x, w3.heap.size ≤ x → x < wr.heap.size → ((((wr.setCell ⟨w.heap.size, 0, none⟩ (.int .i64 3)).setCell ⟨w.heap.size, 1, none⟩ (.string ⟨#[]⟩)).setCell ⟨w.heap.size, 2, none⟩ (.slice A5 acc.len c5)).setCell ⟨w.heap.size, 3, none⟩ (.int .i64 0)).heap[x]? = wr.heap[x]? ∧ w.heap.size ≤ x :=
    fun x hx _ => ⟨far4 (by omega) _ _ _ _, by omega⟩
  refine ⟨3, 0, [], acc, A5, c5, ys, rfl, hc, hr.keep hS hk, ho.keep hS hk _, ⟨.inr (.inl ⟨rfl, rfl, rfl, by omega, hl, hok⟩), trivial⟩, ?_, gb4 h.gb (Nat.le_refl _) _ _ _ _⟩
  exact h.gen0.old h.gen hS fun x hx => far4 (by omega) _ _ _ _

/-- a malformed node with one child -/
theorem bad_out {w1 w2 : World} {k : Int} {t u : List UInt8} (h0 : Gen w b a len cap zs W T gw ow cw gs ot cs) (hg : w.grownBy w1 (some b)) (hB : Gen w2 b a len cap zs W T gw ow cw gs ot cs) (hB2 : w1.grownBy w2 (some b)) (hok : okF W T bad d (.one k t (.one 1 u .nil 0) 0)) (h2 : w2.heap.size = w.heap.size + 1) :
    AnyPost b a len cap zs W T gw ow cw gs ot cs bad d w (.returned (.agg #[.int .i64 k, .string ⟨t.toArray⟩, .slice (some ⟨w2.heap.size, 0, none⟩) 1 1, .int .i64 0]))
      (((((w2.alloc (.cells #[.int .i64 1, .string ⟨u.toArray⟩, .slice none 0 0, .int .i64 0] 39)).setCell ⟨w.heap.size, 0, none⟩ (.int .i64 k)).setCell ⟨w.heap.size, 1, none⟩ (.string ⟨t.toArray⟩)).setCell ⟨w.heap.size, 2, none⟩ (.slice (some ⟨w2.heap.size, 0, none⟩) 1 1)).setCell ⟨w.heap.size, 3, none⟩ (.int .i64 0)) := by
  obtain ⟨w3, hw3⟩ : ∃ w3, w2.alloc (.cells #[.int .i64 1, .string ⟨u.toArray⟩, .slice none 0 0, .int .i64 0] 39) = w3 := ⟨_, rfl⟩
  have hn := heap_alloc_new w2 (.cells #[.int .i64 1, .string ⟨u.toArray⟩, .slice none 0 0, .int .i64 0] 39)
  have hs3 : w3.heap.size = w2.heap.size + 1 := by rw [← hw3]; simp
  have hold : ∀ x, x < w2.heap.size → w3.heap[x]? = w2.heap[x]? := fun x hx => by rw [← hw3]; exact Below.heap_alloc w2 _ x hx
  have hgb : w.grownBy w3 (some b) := by rw [← hw3]; exact gb_alloc (gb_trans hg hB2) _
  rw [hw3] at hn ⊢
  have hlt := h0.lt
  refine ⟨k, 0, t, .one 1 u .nil 0, some ⟨w2.heap.size, 0, none⟩, 1, [.int .i64 1, .string ⟨u.toArray⟩, .slice none 0 0, .int .i64 0], rfl, Nat.le_refl _, ?_, rowOf.one (kids := .nil) (A := none) (c := 0) (ys := []) (Nat.le_refl _) (readsAt.none_ _ _) rfl, hok, ?_, gb4 hgb (Nat.le_refl _) _ _ _ _⟩
  · intro _
    refine ⟨w2.heap.size, 0, rfl, by omega, by simp [size_set]; omega, ?_⟩
    intro j v hv
    have hb : ((((w3.setCell ⟨w.heap.size, 0, none⟩ (.int .i64 k)).setCell ⟨w.heap.size, 1, none⟩ (.string ⟨t.toArray⟩)).setCell ⟨w.heap.size, 2, none⟩ (.slice (some ⟨w2.heap.size, 0, none⟩) 1 1)).setCell ⟨w.heap.size, 3, none⟩ (.int .i64 0)).heap[w2.heap.size]? = some (.cells #[.int .i64 1, .string ⟨u.toArray⟩, .slice none 0 0, .int .i64 0] 39 (0, 0)) := (far4 (by omega) _ _ _ _).trans hn
    rw [Nat.zero_add, cell_of_row _ _ j _ _ _ hb]
    simpa using hv
  · exact h0.old hB (by simp [size_set]; omega) fun x hx => (far4 (by omega) _ _ _ _).trans (hold x (by omega))

/-- a leaf -/
theorem leaf_out {w1 w2 : World} {k o : Int} {t : List UInt8} (h0 : Gen w b a len cap zs W T gw ow cw gs ot cs) (hg : w.grownBy w1 (some b)) (hB : Behind w1 w2 b a len cap zs W T gw ow cw gs ot cs) (hok : okF W T bad d (.one k t .nil o)) :
    AnyPost b a len cap zs W T gw ow cw gs ot cs bad d w (.returned (.agg #[.int .i64 k, .string ⟨t.toArray⟩, .slice none 0 0, .int .i64 o]))
      ((((w2.setCell ⟨w.heap.size, 0, none⟩ (.int .i64 k)).setCell ⟨w.heap.size, 1, none⟩ (.string ⟨t.toArray⟩)).setCell ⟨w.heap.size, 2, none⟩ (.slice none 0 0)).setCell ⟨w.heap.size, 3, none⟩ (.int .i64 o)) := by
  refine ⟨k, o, t, .nil, none, 0, [], rfl, Nat.le_refl _, readsAt.none_ _ _, rfl, hok, ?_, gb4 (gb_trans hg hB.gb) (Nat.le_refl _) _ _ _ _⟩
  exact h0.old hB.gen (by simp [size_set]) fun x hx => far4 (by omega) _ _ _ _
end

end Go.Proofs.YtpflfbfbjmoggaaDoor
