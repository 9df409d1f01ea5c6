/- telmake.term, named, arg: what they read (the stream, the package variable leafNames, the declarations), what they answer, the state between two appends. -/
import Derived.Test.YtddfpbcdopcdhaaDoorDe
import Derived.Test.YtddfpbcdopcdhaaDoorClo
import Derived.Test.YtddfpbcdopcdhaaDoorGen
import Derived.Test.YtddfpbcdopcdhaaDoorTr0
import Derived.Test.YtddfpbcdopcdhaaDoorTrq
import Derived.Deep.RegionLaw
import Derived.Deep.DeepCutAuto
set_option linter.unusedVariables false
set_option linter.unusedSimpArgs false
namespace Go.Proofs.YtddfpbcdopcdhaaDoor
open Go.RowKit Sx

/-- the stream's block and integers; the leaves' names; the declarations -/
structure EG where
  b : Nat
  a : Option Addr
  len : Nat
  cap : Nat
  zs : List Int
  W : List (List UInt8)
  g : Nat
  o : Nat
  c : Nat
  gd : Nat
  od : Nat
  nd : Nat
  cd : Nat
  ds : List (List UInt8 × Nat)

/-- the cells of a declaration, only its name and arity told -/
def DeN (w : World) (g off : Nat) (n : List UInt8) (ar : Nat) : Prop :=
  ∃ (k : Int) (t : List UInt8) (o : Int) (A : Option Addr) (m c : Nat) (cc : Bool) (A' : Option Addr) (m' c' : Nat), w.cell? ⟨g, off, none⟩ = some (.string ⟨n.toArray⟩) ∧ w.cell? ⟨g, off + 1, none⟩ = some (.int .i64 (ar : Int)) ∧
    w.cell? ⟨g, off + 2, none⟩ = some (.int .i64 k) ∧ w.cell? ⟨g, off + 3, none⟩ = some (.string ⟨t.toArray⟩) ∧ w.cell? ⟨g, off + 4, none⟩ = some (.int .i64 o) ∧ w.cell? ⟨g, off + 5, none⟩ = some (.slice A m c) ∧
    w.cell? ⟨g, off + 6, none⟩ = some (.bool cc) ∧ w.cell? ⟨g, off + 7, none⟩ = some (.slice A' m' c')
structure DN (w : World) (E : EG) : Prop where
  ne : E.gd ≠ E.b
  lt : E.gd < w.heap.size
  len : E.ds.length = E.nd
  nd : E.nd ≤ 1000
  row : ∀ j n ar, E.ds[j]? = some (n, ar) → DeN w E.gd (E.od + j * 8) n ar ∧ ar ≤ 3 ∧ n.length ≤ 1000
theorem DN.keep {w w' : World} {E : EG} (h : DN w E) (hs : w.heap.size ≤ w'.heap.size) (hk : w'.heap[E.gd]? = w.heap[E.gd]?) : DN w' E := by
  refine ⟨h.ne, Nat.lt_of_lt_of_le h.lt hs, h.len, h.nd, fun j n ar hj => ?_⟩
  obtain ⟨⟨k, t, o, A, m, c, cc, A', m', c', h1, h2, h3, h4, h5, h6, h7, h8⟩, h9, h10⟩ := h.row j n ar hj
  have e : ∀ {x : Nat} {v : Value}, w.cell? ⟨E.gd, x, none⟩ = some v → w'.cell? ⟨E.gd, x, none⟩ = some v := fun {x v} hx => (World.cell?_of_block (a := ⟨E.gd, x, none⟩) hk).trans hx
  exact ⟨⟨k, t, o, A, m, c, cc, A', m', c', e h1, e h2, e h3, e h4, e h5, e h6, e h7, e h8⟩, h9, h10⟩

structure GenD (w : World) (E : EG) (k : Nat) : Prop where
  st : Strm w E.b E.a E.len E.cap E.zs k
  leaf : Tab w E.b 0 4 E.W E.g E.o E.c
  dec : DN w E
  short : ∀ s ∈ E.W, s.length ≤ 1000

section
variable {w w' : World} {E : EG} {k : Nat}
theorem GenD.below (h : GenD w E k) (hg : Below w.heap.size w w') : GenD w' E k := ⟨h.st.keep hg, h.leaf.below hg, h.dec.keep hg.size (hg.block _ h.dec.lt), h.short⟩
theorem GenD.drew (h : GenD w E k) : GenD w.drew E k := ⟨h.st.drew, h.leaf.drew, h.dec.keep (Nat.le_refl _) rfl, h.short⟩
theorem GenD.lt (h : GenD w E k) : E.b < w.heap.size := h.st.lt
/-- only blocks that came in are read -/
theorem GenD.old {w0 : World} {k0 : Nat} (h0 : GenD w0 E k0) (h : GenD w E k) (hs : w.heap.size ≤ w'.heap.size) (hk : ∀ x, x < w0.heap.size → w'.heap[x]? = w.heap[x]?) : GenD w' E k := by
  refine ⟨?_, ⟨(World.cell?_of_block (hk _ h0.leaf.vlt)).trans h.leaf.head, fun i hi => by
      obtain ⟨s, hs, hc⟩ := h.leaf.row i hi
      exact ⟨s, hs, (World.cell?_of_block (hk _ h0.leaf.glt)).trans hc⟩, h.leaf.vb, h.leaf.gb, Nat.lt_of_lt_of_le h.leaf.vlt hs, Nat.lt_of_lt_of_le h.leaf.glt hs, h.leaf.pos⟩, h.dec.keep hs (hk _ h0.dec.lt), h.short⟩
  obtain ⟨hblk, hints, hr⟩ := h.st
  obtain ⟨hblk0, hints0, hr0⟩ := h0.st
  refine ⟨(hk _ (heap_lt hblk0)).trans hblk, ?_, hr⟩
  intro hp
  obtain ⟨g, off, e, hl, hc⟩ := hints hp
  obtain ⟨g', off', e', hl', _⟩ := hints0 hp
  rw [e] at e'
  cases e'
  exact ⟨g, off, e, by omega, fun i hi => (World.cell?_of_block (hk g hl')).trans (hc i hi)⟩

theorem next_genD (m : Int) (h : GenD w E k) (hm : 0 < m) (hm2 : m ≤ 65536) :
    Calls Tryd.prog 36 #[.pointer (some ⟨E.b, 0, none⟩), .int .i64 m] w fun e w' => ∃ (r : Nat) (k' : Nat), e = .returned (.int .i64 (r : Int)) ∧ (r : Int) < m ∧ GenD w' E k' ∧ w.grownBy w' (some E.b) ∧ w'.heap.size = w.heap.size ∧ ((k < E.len ∧ k' = k + 1) ∨ (E.len ≤ k ∧ k' = k ∧ r = 0)) := by
  refine (next_det E.b E.a E.len E.cap E.zs k m w h.st hm hm2).mono ?_
  rintro e w' ⟨he, hs, hg, hz⟩
  obtain ⟨hr0, hr1⟩ := nxt_bounds E.len E.zs k m hm
  refine ⟨(nxt E.len E.zs k m).toNat, nk E.len k, by rw [he]; congr 2; omega, by omega, ⟨hs, h.leaf.keep hg, h.dec.keep (by omega) (hg.block _ h.dec.lt (by simp; exact h.dec.ne)), h.short⟩, hg, hz, ?_⟩
  by_cases hlt : k < E.len
  · exact .inl ⟨hlt, if_pos hlt⟩
  · refine .inr ⟨by omega, if_neg hlt, ?_⟩
    rw [nxt, if_neg hlt]
    rfl
end

/-- what the three answer: a term that lies in new blocks, as large as what was read allows, closed within V bodies -/
def GP (E : EG) (V : Int) (k : Nat) (w : World) (e : Ending) (w' : World) : Prop :=
  ∃ (k' : Nat) (q o : Int) (t : List UInt8) (kids : Fo) (A : Option Addr) (c : Nat) (ys : List Value), e = .returned (.agg #[.int .i64 q, .string ⟨t.toArray⟩, .int .i64 o, .slice A kids.len c]) ∧ kids.len ≤ c ∧ readsAt w' (fun x => w.heap.size ≤ x) A kids.len ys ∧ rowT w' (fun x => w.heap.size ≤ x) kids ys ∧
    k ≤ k' ∧ fsize kids ≤ 4 * (k' - k) ∧ lenG (.one q t kids o) ∧ closed1 q o kids V = true ∧ GenD w' E k' ∧ w.grownBy w' (some E.b)

/-- between two appends to the arguments of the term in block gM -/
structure RD (w w3 wr : World) (E : EG) (kq : Nat) (gM : Nat) (q o : Int) (t : List UInt8) (v : Value) (acc : Fo) (xs : List Value) : Prop where
  gen0 : ∃ k0, GenD w E k0
  gen : GenD wr E kq
  gb : w.grownBy wr (some E.b)
  blkM : wr.heap[gM]? = some (.cells #[.int .i64 q, .string ⟨t.toArray⟩, .int .i64 o, v] 25 (0, 0))
  old : ∀ x, w.heap.size ≤ x → x < w3.heap.size → x ≠ gM → wr.heap[x]? = w3.heap[x]?
  own : wr.ownsRow w3.heap.size 25 4 v acc.len xs
  row : rowT wr (fun x => w3.heap.size ≤ x ∧ v.ownBlock ≠ some x) acc xs
  hM : w.heap.size ≤ gM ∧ gM < w3.heap.size
  size : w3.heap.size ≤ wr.heap.size

section
variable {w w3 wr w4 : World} {E : EG} {kq gM : Nat} {q o : Int} {t : List UInt8} {v : Value} {acc : Fo} {xs : List Value}
theorem RD.drew (h : RD w w3 wr E kq gM q o t v acc xs) : RD w w3 wr.drew E kq gM q o t v acc xs :=
  ⟨h.gen0, h.gen.drew, gb_drew h.gb, h.blkM, h.old, h.own, h.row.keep (w := wr) (w' := wr.drew) (Nat.le_refl _) (fun x hx _ => ⟨rfl, hx⟩) _, h.hM, h.size⟩
theorem RD.cell (h : RD w w3 wr E kq gM q o t v acc xs) : wr.cell? ⟨gM, 3, none⟩ = some v ∧ wr.frozen? ⟨gM, 3, none⟩ = false := by
  obtain ⟨_, _, _, b3, _, _, _, y3⟩ := row4 h.blkM
  exact ⟨b3, y3⟩
/-- behind a call that touches the stream alone -/
theorem RD.after (h : RD w w3 wr E kq gM q o t v acc xs) {k4 : Nat} (hg : wr.grownBy w4 (some E.b)) (hG : GenD w4 E k4) : RD w w3 w4 E k4 gM q o t v acc xs := by
  obtain ⟨k0, h0⟩ := h.gen0
  have hb := h0.lt
  have hM := h.hM
  have hs := h.size
  refine ⟨h.gen0, hG, gb_trans h.gb hg, (hg.block _ (heap_lt h.blkM) (by simp; omega)).trans h.blkM, fun x hx hl hne => (hg.block _ (by omega) (by simp; omega)).trans (h.old x hx hl hne), h.own.kept hg ?_, ?_, hM, Nat.le_trans hs hg.size⟩
  · cases hv : v.ownBlock with
    | none => exact .inl rfl
    | some x => exact .inr (by have := (h.own.lt x hv).1; simp; omega)
  · exact h.row.keep hg.size (fun x hx hl => ⟨hg.block x hl (by simp; have := hx.1; omega), hx⟩) _
/-- behind the append: the term's box is as it was -/
theorem RD.boxed (h : RD w w3 w4 E kq gM q o t v acc xs) {ob : Obj} {w5 : World} (hg : (w4.alloc ob).grownBy w5 v.ownBlock) : w5.heap[gM]? = some (.cells #[.int .i64 q, .string ⟨t.toArray⟩, .int .i64 o, v] 25 (0, 0)) := by
  have hM := h.hM
  have hs := h.size
  refine (hg.block _ (by simp; omega) ?_).trans ((Below.heap_alloc w4 ob _ (by omega)).trans h.blkM)
  intro e
  have := (h.own.lt _ e.symm).1
  omega
theorem RD.push (h0 : RD w w3 wr E kq gM q o t v acc xs) {k4 : Nat} {q1 o1 : Int} {t1 : List UInt8} {kids : Fo} {A : Option Addr} {c : Nat} {ys : List Value} (hg4 : wr.grownBy w4 (some E.b)) (hG : GenD w4 E k4)
    (hc : kids.len ≤ c) (hr : readsAt w4 (fun x => wr.heap.size ≤ x) A kids.len ys) (hk : rowT w4 (fun x => wr.heap.size ≤ x) kids ys)
    {ob : Obj} {w5 : World} {v' : Value} (hg : (w4.alloc ob).grownBy w5 v.ownBlock) (hat : v'.ownBlock = v.ownBlock ∨ v'.ownBlock = some (w4.heap.size + 1))
    (hown : w5.ownsRow w3.heap.size 25 4 v' (acc.len + 1) (xs ++ [.int .i64 q1, .string ⟨t1.toArray⟩, .int .i64 o1, .slice A kids.len c])) :
    RD w w3 (w5.setCell ⟨gM, 3, none⟩ v') E k4 gM q o t v' (acc.app (.one q1 t1 kids o1)) (xs ++ [.int .i64 q1, .string ⟨t1.toArray⟩, .int .i64 o1, .slice A kids.len c]) := by
  have h := h0.after hg4 hG
  obtain ⟨k0, hg0⟩ := h.gen0
  have hb := hg0.lt
  have hM := h.hM
  have hs4 := h.size
  have hs5 := hg.size
  have hs5' : (w4.alloc ob).heap.size = w4.heap.size + 1 := by simp
  have hM5 := h.boxed hg
  have hne : ∀ x, x < w3.heap.size → some x ≠ v.ownBlock := fun x hx e => by have := (h.own.lt x e.symm).1; omega
  have hgg : ∀ x, v'.ownBlock = some x → w3.heap.size ≤ x := fun x hx => (hown.lt x hx).1
  have hG5 : w.grownBy w5 (some E.b) := gb_new (gb_alloc h.gb ob) hg (fun g e => by have := (h.own.lt g e).1; omega)
  have hkeep : ∀ x, x < w3.heap.size → x ≠ gM → (w5.setCell ⟨gM, 3, none⟩ v').heap[x]? = w4.heap[x]? := fun x hx hxM =>
    (heap_far hxM _).trans ((hg.block x (by omega) (hne x hx)).trans (Below.heap_alloc w4 ob x (by omega)))
  have hrow5 := push_rowT (w := w3) (b := E.b) h0.own h0.row (by omega) h0.size hg4 hc hr hk (o := o1) (k := q1) (t := t1) hg hat
  refine ⟨h.gen0, ?_, ?_, heap_set (i := 3) hM5 v', fun x hx hl hne' => (hkeep x hl hne').trans (h.old x hx hl hne'), ?_, ?_, hM, ?_⟩
  · exact hg0.old h.gen (by simp [size_set]; omega) fun x hx => hkeep x (by omega) (by omega)
  · refine gb_new hG5 (row' := some gM) ?_ (fun g e => by simp at e; omega)
    exact gb_setCell (World.grownBy.refl _ _) (.inl rfl) _
  · rw [Fo.len_app]
    refine hown.kept (row := some gM) (gb_setCell (World.grownBy.refl _ _) (.inl rfl) _) ?_
    cases hv : v'.ownBlock with
    | none => exact .inl rfl
    | some x => exact .inr (by have := hgg x hv; simp; omega)
  · exact hrow5.keep (by simp [size_set]) (fun x hx hl => ⟨heap_far (show x ≠ gM from by have : w3.heap.size ≤ x := hx.1; omega) _, hx⟩) _
  · simp [size_set]; omega
end
end Go.Proofs.YtddfpbcdopcdhaaDoor
