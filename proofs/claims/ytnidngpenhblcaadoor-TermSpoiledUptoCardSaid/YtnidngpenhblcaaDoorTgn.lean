/- telmake.AnyTerm: what it reads (the stream and the package variable anyNames), what it may answer, the states between its statements. -/
import Derived.Test.YtnidngpenhblcaaDoorGen
import Derived.Test.YtnidngpenhblcaaDoorTK
import Derived.Deep.RegionLaw
import Derived.Deep.AppendLies
import Derived.Deep.DeepCutAuto
set_option linter.unusedVariables false
set_option linter.unusedSimpArgs false
namespace Go.Proofs.YtnidngpenhblcaaDoor
open Go.RowKit Sx

/-- the stream's block and integers; the names' row -/
structure ET where
  b : Nat
  a : Option Addr
  len : Nat
  cap : Nat
  zs : List Int
  W : List (List UInt8)
  g : Nat
  o : Nat
  c : Nat

structure GenT (w : World) (E : ET) : Prop where
  st : ∃ k, Strm w E.b E.a E.len E.cap E.zs k
  names : Tab w E.b 0 11 E.W E.g E.o E.c

section
variable {w w' : World} {E : ET}
theorem GenT.below (h : GenT w E) (hg : Below w.heap.size w w') : GenT w' E := ⟨h.st.imp fun _ hk => hk.keep hg, h.names.below hg⟩
theorem GenT.drew (h : GenT w E) : GenT w.drew E := ⟨h.st.imp fun _ hk => hk.drew, h.names.drew⟩
theorem GenT.lt (h : GenT w E) : E.b < w.heap.size := h.st.elim fun _ hk => hk.lt

/-- what came in keeps it all: only blocks that came in are read -/
theorem GenT.old {w0 : World} (h0 : GenT w0 E) (h : GenT w E) (hs : w.heap.size ≤ w'.heap.size) (hk : ∀ x, x < w0.heap.size → w'.heap[x]? = w.heap[x]?) : GenT w' E := by
  refine ⟨?_, ⟨(World.cell?_of_block (hk _ h0.names.vlt)).trans h.names.head, fun i hi => by
      obtain ⟨s, hs, hc⟩ := h.names.row i hi
      exact ⟨s, hs, (World.cell?_of_block (hk _ h0.names.glt)).trans hc⟩, h.names.vb, h.names.gb, Nat.lt_of_lt_of_le h.names.vlt hs, Nat.lt_of_lt_of_le h.names.glt hs, h.names.pos⟩⟩
  obtain ⟨k, hblk, hints, hr⟩ := h.st
  obtain ⟨k0, hblk0, hints0, hr0⟩ := h0.st
  refine ⟨k, (hk _ (heap_lt hblk0)).trans hblk, ?_, hr⟩
  intro hp
  obtain ⟨g, off, e, hl, hc⟩ := hints hp
  obtain ⟨g', off', e', hl', _⟩ := hints0 hp
  rw [e] at e'
  cases e'
  exact ⟨g, off, e, by omega, fun i hi => (World.cell?_of_block (hk g hl')).trans (hc i hi)⟩

theorem next_genT (m : Int) (h : GenT w E) (hm : 0 < m) (hm2 : m ≤ 65536) :
    Calls Tryd.prog 39 #[.pointer (some ⟨E.b, 0, none⟩), .int .i64 m] w fun e w' => ∃ r, e = .returned (.int .i64 r) ∧ 0 ≤ r ∧ r < m ∧ GenT w' E ∧ w.grownBy w' (some E.b) ∧ w'.heap.size = w.heap.size := by
  obtain ⟨⟨k, hk⟩, h1⟩ := h
  refine (next_det E.b E.a E.len E.cap E.zs k m w hk hm hm2).mono ?_
  rintro e w' ⟨he, hs, hg, hz⟩
  obtain ⟨hr0, hr1⟩ := nxt_bounds E.len E.zs k m hm
  exact ⟨_, he, hr0, hr1, ⟨⟨_, hs⟩, h1.keep hg⟩, hg, hz⟩
theorem raw_genT (h : GenT w E) :
    Calls Tryd.prog 40 #[.pointer (some ⟨E.b, 0, none⟩)] w fun e w' => ∃ r, e = .returned (.int .i64 r) ∧ GenT w' E ∧ w.grownBy w' (some E.b) ∧ w'.heap.size = w.heap.size := by
  obtain ⟨⟨k, hk⟩, h1⟩ := h
  refine (raw_any E.b E.a E.len E.cap E.zs k w hk).mono ?_
  rintro e w' ⟨r, k', he, hs, hg, hz⟩
  exact ⟨r, he, ⟨⟨_, hs⟩, h1.keep hg⟩, hg, hz⟩
end

theorem t4_after {w w' : World} {b : Nat} {N : Nat} {t : TypeId} {x y z u : Value} (hg : w.grownBy w' (some b)) (hN : w.heap[N]? = some (.cells #[x, y, z, u] t (0, 0))) (hne : N ≠ b) : w'.heap[N]? = some (.cells #[x, y, z, u] t (0, 0)) :=
  (hg.block N (heap_lt hN) (by simp; exact hne)).trans hN
theorem t4_set {w : World} {N : Nat} {t : TypeId} {x y z u : Value} (h : w.heap[N]? = some (.cells #[x, y, z, u] t (0, 0))) (a b c d : Value) :
    ((((w.setCell ⟨N, 0, none⟩ a).setCell ⟨N, 1, none⟩ b).setCell ⟨N, 2, none⟩ c).setCell ⟨N, 3, none⟩ d).heap[N]? = some (.cells #[a, b, c, d] t (0, 0)) := by
  have h0 := heap_set (i := 0) h a
  have h1 := heap_set (i := 1) h0 b
  have h2 := heap_set (i := 2) h1 c
  exact heap_set (i := 3) h2 d
theorem t4_far {w : World} {N x : Nat} (hx : x ≠ N) (a b c d : Value) :
    ((((w.setCell ⟨N, 0, none⟩ a).setCell ⟨N, 1, none⟩ b).setCell ⟨N, 2, none⟩ c).setCell ⟨N, 3, none⟩ d).heap[x]? = w.heap[x]? :=
  (heap_far hx _).trans ((heap_far hx _).trans ((heap_far hx _).trans (heap_far hx _)))
theorem t4_gb {w0 w : World} {b N : Nat} (h : w0.grownBy w (some b)) (hN : w0.heap.size ≤ N) (x y z u : Value) :
    w0.grownBy ((((w.setCell ⟨N, 0, none⟩ x).setCell ⟨N, 1, none⟩ y).setCell ⟨N, 2, none⟩ z).setCell ⟨N, 3, none⟩ u) (some b) := by
  refine gb_new h (row' := some N) ?_ (fun g e => by simp at e; omega)
  refine gb_setCell ?_ (.inl rfl) _
  refine gb_setCell ?_ (.inl rfl) _
  refine gb_setCell ?_ (.inl rfl) _
  exact gb_setCell (World.grownBy.refl _ _) (.inl rfl) _

abbrev T0 : Value := .slice none 0 0
/-- between two statements ahead of the loop: the term's block is the second new one -/
structure TS (w wr : World) (E : ET) (k o : Int) (t : List UInt8) : Prop where
  gen0 : GenT w E
  gen : GenT wr E
  gb : w.grownBy wr (some E.b)
  size : wr.heap.size = w.heap.size + 2
  blkM : wr.heap[w.heap.size + 1]? = some (.cells #[.int .i64 k, .string ⟨t.toArray⟩, .int .i64 o, .slice none 0 0] 25 (0, 0))
  blkN : wr.heap[w.heap.size]? = some (.cells #[.int .i64 0, .string ⟨#[]⟩, .int .i64 0, .slice none 0 0] 25 (0, 0))

section
variable {w wr w' : World} {E : ET} {k o : Int} {t : List UInt8}
theorem TS.grow (h : TS w wr E k o t) (hG : GenT w' E) (hg : wr.grownBy w' (some E.b)) (hz : w'.heap.size = wr.heap.size) : TS w w' E k o t := by
  have hb := h.gen0.lt
  exact ⟨h.gen0, hG, gb_trans h.gb hg, hz.trans h.size, t4_after hg h.blkM (by omega), t4_after hg h.blkN (by omega)⟩
theorem TS.next (m : Int) (h : TS w wr E k o t) (hm : 0 < m) (hm2 : m ≤ 65536) :
    Calls Tryd.prog 39 #[.pointer (some ⟨E.b, 0, none⟩), .int .i64 m] wr fun e w' => ∃ r, e = .returned (.int .i64 r) ∧ 0 ≤ r ∧ r < m ∧ TS w w' E k o t := by
  refine (next_genT m h.gen hm hm2).mono ?_
  rintro e w' ⟨r, he, h0, h1, hG, hg, hz⟩
  exact ⟨r, he, h0, h1, h.grow hG hg hz⟩
theorem TS.raw (h : TS w wr E k o t) :
    Calls Tryd.prog 40 #[.pointer (some ⟨E.b, 0, none⟩)] wr fun e w' => ∃ r, e = .returned (.int .i64 r) ∧ TS w w' E k o t := by
  refine (raw_genT h.gen).mono ?_
  rintro e w' ⟨r, he, hG, hg, hz⟩
  exact ⟨r, he, h.grow hG hg hz⟩
theorem TS.drew (h : TS w wr E k o t) : TS w wr.drew E k o t := ⟨h.gen0, h.gen.drew, gb_drew h.gb, h.size, h.blkM, h.blkN⟩
theorem TS.set' (h : TS w wr E k o t) (i : Nat) (v : Value) {k' o' : Int} {t' : List UInt8}
    (hb : (wr.setCell ⟨w.heap.size + 1, i, none⟩ v).heap[w.heap.size + 1]? = some (.cells #[.int .i64 k', .string ⟨t'.toArray⟩, .int .i64 o', .slice none 0 0] 25 (0, 0))) : TS w (wr.setCell ⟨w.heap.size + 1, i, none⟩ v) E k' o' t' := by
  have hbl := h.gen0.lt
  refine ⟨h.gen0, h.gen0.old h.gen (by simp [size_set]) fun x hx => heap_far (show x ≠ w.heap.size + 1 by omega) _, ?_, by simp [size_set]; exact h.size, hb, (heap_far (show w.heap.size ≠ w.heap.size + 1 by omega) _).trans h.blkN⟩
  refine gb_new h.gb (row' := some (w.heap.size + 1)) ?_ (fun g e => by simp at e; omega)
  exact gb_setCell (World.grownBy.refl _ _) (.inl rfl) _
theorem TS.set0 (h : TS w wr E k o t) (x : Int) : TS w (wr.setCell ⟨w.heap.size + 1, 0, none⟩ (.int .i64 x)) E x o t := h.set' 0 _ (heap_set (i := 0) h.blkM _)
theorem TS.set1 (h : TS w wr E k o t) (s : List UInt8) : TS w (wr.setCell ⟨w.heap.size + 1, 1, none⟩ (.string ⟨s.toArray⟩)) E k o s := h.set' 1 _ (heap_set (i := 1) h.blkM _)
theorem TS.set2 (h : TS w wr E k o t) (x : Int) : TS w (wr.setCell ⟨w.heap.size + 1, 2, none⟩ (.int .i64 x)) E k x t := h.set' 2 _ (heap_set (i := 2) h.blkM _)

/-- the next draw of a name: known ahead of it -/
theorem TS.ahead (h : TS w wr E k o t) :
    ∃ (r : Nat) (s : List UInt8), (0 : Int) ≤ (r : Int) ∧ (r : Int) < 11 ∧ s ∈ E.W ∧ wr.cell? ⟨E.g, E.o + r, none⟩ = some (.string ⟨s.toArray⟩) ∧
      Calls Tryd.prog 39 #[.pointer (some ⟨E.b, 0, none⟩), .int .i64 11] wr.drew fun e w' => e = .returned (.int .i64 (r : Int)) ∧
      w'.cell? ⟨E.g, E.o + r, none⟩ = some (.string ⟨s.toArray⟩) ∧ w'.cell? ⟨0, 0, none⟩ = some (.slice (some ⟨E.g, E.o, none⟩) 11 E.c) ∧
      w'.cell? ⟨w.heap.size + 1, 1, none⟩ = some (.string ⟨t.toArray⟩) ∧ w'.frozen? ⟨w.heap.size + 1, 1, none⟩ = false ∧ TS w w' E k o t := by
  obtain ⟨ks, hk⟩ := h.gen.st
  obtain ⟨hr0, hr1⟩ := nxt_bounds E.len E.zs ks 11 (by omega)
  obtain ⟨r, hr⟩ := Int.eq_ofNat_of_zero_le hr0
  obtain ⟨s, hs, hc⟩ := h.gen.names.row r (by omega)
  refine ⟨r, s, by omega, by omega, hs, hc, ?_⟩
  refine (next_det E.b E.a E.len E.cap E.zs ks 11 wr.drew hk.drew (by omega) (by omega)).mono ?_
  rintro e w' ⟨he, hs', hg, hz⟩
  have hg' : wr.grownBy w' (some E.b) := gb_trans (gb_drew (World.grownBy.refl _ _) ) hg
  have hT' := h.gen.names.keep hg'
  have hTS : TS w w' E k o t := h.grow ⟨⟨_, hs'⟩, hT'⟩ hg' hz
  obtain ⟨d0, d1, d2, d3, y0, y1, y2, y3⟩ := row4 hTS.blkM
  refine ⟨by rw [he, hr], ?_, hT'.head, d1, y1, hTS⟩
  exact (World.cell?_of_block (hg'.block E.g h.gen.names.glt (by simp; exact h.gen.names.gb))).trans hc
end

theorem info_api : (Tryd.prog.info? 25).map (fun i => (i.zero, i.size, i.bytes)) = some (some (.agg #[.int .i64 0, .string ⟨#[]⟩, .int .i64 0, .slice none 0 0]), 4, 56) := by kernel_rfl

/-- what AnyTerm may answer -/
def okA (W : List (List UInt8)) : Nat → Fo → Prop
  | _, .nil => True
  | d, .cons k t kids o rest => ((t = [] ∨ t ∈ W) ∧ kids.len ≤ 8 ∧ (d = 0 → kids = .nil) ∧ okA W (d - 1) kids) ∧ okA W d rest
theorem okA_app {W : List (List UInt8)} {d : Nat} (f g : Fo) (hf : okA W d f) (hg : okA W d g) : okA W d (f.app g) := by
  induction f with
  | nil => exact hg
  | cons k t kids o rest _ ih => exact ⟨hf.1, ih hf.2⟩

def AnyT (E : ET) (d : Nat) (w : World) (e : Ending) (w' : World) : Prop :=
  ∃ (k o : Int) (t : List UInt8) (kids : Fo) (A : Option Addr) (c : Nat) (ys : List Value), e = .returned (.agg #[.int .i64 k, .string ⟨t.toArray⟩, .int .i64 o, .slice A kids.len c]) ∧ kids.len ≤ c ∧ readsAt w' (fun x => w.heap.size ≤ x) A kids.len ys ∧ rowT w' (fun x => w.heap.size ≤ x) kids ys ∧
    okA E.W d (.one k t kids o) ∧ GenT w' E ∧ w.grownBy w' (some E.b)

/-- between two rounds of the loop -/
structure RT (w w3 wr : World) (E : ET) (k o : Int) (t : List UInt8) (i : Nat) (v : Value) (acc : Fo) (xs : List Value) : Prop where
  gen0 : GenT w E
  gen : GenT wr E
  gb : w.grownBy wr (some E.b)
  blkM : wr.heap[w.heap.size + 1]? = some (.cells #[.int .i64 k, .string ⟨t.toArray⟩, .int .i64 o, v] 25 (0, 0))
  blkN : wr.heap[w.heap.size]? = some (.cells #[.int .i64 0, .string ⟨#[]⟩, .int .i64 0, .slice none 0 0] 25 (0, 0))
  own : wr.ownsRow w3.heap.size 25 4 v acc.len xs
  row : rowT wr (fun x => w3.heap.size ≤ x ∧ v.ownBlock ≠ some x) acc xs
  s3 : w3.heap.size = w.heap.size + 2
  size : w3.heap.size ≤ wr.heap.size
  len : acc.len = i

theorem TS.rt {w wr : World} {E : ET} {k o : Int} {t : List UInt8} (h : TS w wr E k o t) : RT w wr wr E k o t 0 (.slice none 0 0) .nil [] :=
  ⟨h.gen0, h.gen, h.gb, h.blkM, h.blkN, World.ownsRow_nil _ _ _ _, rfl, h.size, Nat.le_refl _, rfl⟩

/-- behind the inner call -/
structure AT (w w3 wr w4 : World) (E : ET) (k o : Int) (t : List UInt8) (i : Nat) (v : Value) (acc : Fo) (xs : List Value) (k1 o1 : Int) (t1 : List UInt8) (kids : Fo) (A : Option Addr) (c : Nat) (ys : List Value) (d : Nat) : Prop where
  rnd : RT w w3 w4 E k o t i v acc xs
  rnd0 : RT w w3 wr E k o t i v acc xs
  gb : wr.grownBy w4 (some E.b)
  cap_ : kids.len ≤ c
  rd : readsAt w4 (fun x => wr.heap.size ≤ x) A kids.len ys
  rw_ : rowT w4 (fun x => wr.heap.size ≤ x) kids ys
  ok : okA E.W d (.one k1 t1 kids o1)

section
variable {w w3 wr w4 : World} {E : ET} {k o : Int} {t : List UInt8} {i : Nat} {v : Value} {acc : Fo} {xs : List Value} {k1 o1 : Int} {t1 : List UInt8} {kids : Fo} {A : Option Addr} {c : Nat} {ys : List Value} {d : Nat}

theorem RT.to_at (h : RT w w3 wr E k o t i v acc xs) (hg : wr.grownBy w4 (some E.b)) (hG : GenT w4 E)
    (hc : kids.len ≤ c) (hr : readsAt w4 (fun x => wr.heap.size ≤ x) A kids.len ys) (hk : rowT w4 (fun x => wr.heap.size ≤ x) kids ys) (hok : okA E.W d (.one k1 t1 kids o1)) :
    AT w w3 wr w4 E k o t i v acc xs k1 o1 t1 kids A c ys d := by
  have hb := h.gen0.lt
  have h3 := h.s3
  refine ⟨⟨h.gen0, hG, gb_trans h.gb hg, t4_after hg h.blkM (by omega), t4_after hg h.blkN (by omega), h.own.kept hg ?_, ?_, h.s3, Nat.le_trans h.size hg.size, h.len⟩, h, hg, hc, hr, hk, hok⟩
  · cases hv : v.ownBlock with
    | none => exact .inl rfl
    | some x => exact .inr (by have := (h.own.lt x hv).1; simp; omega)
  · exact h.row.keep hg.size (fun x hx hl => ⟨hg.block x hl (by simp; have := hx.1; omega), hx⟩) _

theorem AT.cell (h : AT w w3 wr w4 E k o t i v acc xs k1 o1 t1 kids A c ys d) {ob : Obj} {w5 : World} (hg : (w4.alloc ob).grownBy w5 v.ownBlock) :
    w5.heap[w.heap.size + 1]? = some (.cells #[.int .i64 k, .string ⟨t.toArray⟩, .int .i64 o, v] 25 (0, 0)) := by
  have h3 := h.rnd.s3
  refine (hg.block _ (by have := h.rnd.size; simp; omega) ?_).trans ((Below.heap_alloc w4 ob _ (by have := h.rnd.size; omega)).trans h.rnd.blkM)
  intro e
  have := (h.rnd.own.lt _ e.symm).1
  omega

theorem AT.done (h : AT w w3 wr w4 E k o t i v acc xs k1 o1 t1 kids A c ys d)
    {ob : Obj} {w5 : World} {gg cap' : Nat} (hg : (w4.alloc ob).grownBy w5 v.ownBlock) (hat : v.ownBlock = some gg ∨ gg = w4.heap.size + 1)
    (hown : w5.ownsRow w3.heap.size 25 4 (.slice (some ⟨gg, 0, none⟩) (acc.len + 1) cap') (acc.len + 1) (xs ++ [.int .i64 k1, .string ⟨t1.toArray⟩, .int .i64 o1, .slice A kids.len c])) :
    RT w w3 (w5.setCell ⟨w.heap.size + 1, 3, none⟩ (.slice (some ⟨gg, 0, none⟩) (acc.len + 1) cap')) E k o t (i + 1) (.slice (some ⟨gg, 0, none⟩) (acc.len + 1) cap') (acc.app (.one k1 t1 kids o1)) (xs ++ [.int .i64 k1, .string ⟨t1.toArray⟩, .int .i64 o1, .slice A kids.len c]) := by
  have hb := h.rnd.gen0.lt
  have h3 := h.rnd.s3
  have hs4 := h.rnd.size
  have hs5 := hg.size
  have hs5' : (w4.alloc ob).heap.size = w4.heap.size + 1 := by simp
  have hM5 := h.cell hg
  have hne : ∀ x, x < w3.heap.size → some x ≠ v.ownBlock := fun x hx e => by have := (h.rnd.own.lt x e.symm).1; omega
  have hgg := (hown.lt gg rfl).1
  have hG5 : w.grownBy w5 (some E.b) := gb_new (gb_alloc h.rnd.gb ob) hg (fun g e => by have := (h.rnd.own.lt g e).1; omega)
  have hset := heap_set (i := 3) hM5 (.slice (some ⟨gg, 0, none⟩) (acc.len + 1) cap')
  have hkeep : ∀ x, x < w3.heap.size → x ≠ w.heap.size + 1 → (w5.setCell ⟨w.heap.size + 1, 3, none⟩ (.slice (some ⟨gg, 0, none⟩) (acc.len + 1) cap')).heap[x]? = w4.heap[x]? := fun x hx hxM =>
    (heap_far hxM _).trans ((hg.block x (by omega) (hne x hx)).trans (Below.heap_alloc w4 ob x (by omega)))
  have hrow5 := push_rowT (w := w3) (b := E.b) h.rnd0.own h.rnd0.row (by omega) h.rnd0.size h.gb h.cap_ h.rd h.rw_ (o := o1) (k := k1) (t := t1) hg (v' := .slice (some ⟨gg, 0, none⟩) (acc.len + 1) cap') (by
    rcases hat with e | e
    · exact .inl e.symm
    · exact .inr (by simp [Value.ownBlock, e]))
  refine ⟨h.rnd.gen0, ?_, ?_, hset, ?_, ?_, ?_, h3, ?_, ?_⟩
  · exact h.rnd.gen0.old h.rnd.gen (by simp [size_set]; omega) fun x hx => hkeep x (by omega) (by omega)
  · refine gb_new hG5 (row' := some (w.heap.size + 1)) ?_ (fun g e => by simp at e; omega)
    exact gb_setCell (World.grownBy.refl _ _) (.inl rfl) _
  · exact (hkeep _ (by omega) (by omega)).trans h.rnd.blkN
  · rw [Fo.len_app]
    exact hown.kept (row := some (w.heap.size + 1)) (gb_setCell (World.grownBy.refl _ _) (.inl rfl) _) (.inr (by simp [Value.ownBlock]; omega))
  · exact hrow5.keep (by simp [size_set]) (fun x hx hl => ⟨heap_far (show x ≠ w.heap.size + 1 from by have : w3.heap.size ≤ x := hx.1; omega) _, hx⟩) _
  · simp [size_set]; omega
  · rw [Fo.len_app, h.rnd.len]; rfl

theorem RT.out {A5 : Option Addr} {c5 : Nat} (h : RT w w3 wr E k o t acc.len (.slice A5 acc.len c5) acc xs) (ht : t = [] ∨ t ∈ E.W) (hl : acc.len ≤ 8) (hd : d = 0 → acc = .nil) (hok : okA E.W (d - 1) acc) :
    AnyT E d w (.returned (.agg #[.int .i64 k, .string ⟨t.toArray⟩, .int .i64 o, .slice A5 acc.len c5]))
      ((((wr.setCell ⟨w.heap.size, 0, none⟩ (.int .i64 k)).setCell ⟨w.heap.size, 1, none⟩ (.string ⟨t.toArray⟩)).setCell ⟨w.heap.size, 2, none⟩ (.int .i64 o)).setCell ⟨w.heap.size, 3, none⟩ (.slice A5 acc.len c5)) := by
  have hb := h.gen0.lt
  have h3 := h.s3
  have hsl := own_sliceT h.own h.row (fun x hx => hx.1)
  obtain ⟨A, c, ys, hv, hc, hr, ho⟩ := hsl
  simp only [Value.slice.injEq, true_and] at hv
  obtain ⟨rfl, rfl⟩ := hv
  have hs := h.size
  have hS : wr.heap.size ≤ ((((wr.setCell ⟨w.heap.size, 0, none⟩ (.int .i64 k)).setCell ⟨w.heap.size, 1, none⟩ (.string ⟨t.toArray⟩)).setCell ⟨w.heap.size, 2, none⟩ (.int .i64 o)).setCell ⟨w.heap.size, 3, none⟩ (.slice A5 acc.len c5)).heap.size := by simp [size_set]
  have hk : ∀ x, w3.heap.size ≤ x → x < wr.heap.size → ((((wr.setCell ⟨w.heap.size, 0, none⟩ (.int .i64 k)).setCell ⟨w.heap.size, 1, none⟩ (.string ⟨t.toArray⟩)).setCell ⟨w.heap.size, 2, none⟩ (.int .i64 o)).setCell ⟨w.heap.size, 3, none⟩ (.slice A5 acc.len c5)).heap[x]? = wr.heap[x]? ∧ w.heap.size ≤ x :=
    fun x hx _ => ⟨t4_far (by omega) _ _ _ _, by omega⟩
  refine ⟨k, o, t, acc, A5, c5, ys, rfl, hc, hr.keep hS hk, ho.keep hS hk _, ⟨⟨ht, hl, hd, hok⟩, trivial⟩, ?_, t4_gb h.gb (Nat.le_refl _) _ _ _ _⟩
  exact h.gen0.old h.gen hS fun x hx => t4_far (by omega) _ _ _ _
end
end Go.Proofs.YtnidngpenhblcaaDoor
