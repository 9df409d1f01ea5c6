/- telmake.term, named, arg: what they read (the stream, the package variable leafNames, the declarations), what they answer, the state between two appends. telmake.named: the walk. No condition but what it reads. telmake.arg: the walk. No condition but what it reads. -/
import Derived.Test.YtpkiheenkpcebaaGreatDoorMae
import Derived.Test.YtpkiheenkpcebaaGreatDoorMbd
import Derived.Test.YtpkiheenkpcebaaGreatDoorMaj
import Derived.Test.YtpkiheenkpcebaaGreatDoorMbj
import Derived.Test.YtpkiheenkpcebaaGreatDoorMaf
import Derived.Deep.RegionLaw
import Derived.Deep.DeepCutAuto
import Derived.Deep.CutBlock
set_option linter.unusedVariables false
set_option linter.unusedSimpArgs false
namespace Go.Proofs.YtpkiheenkpcebaaGreatDoor
open Go.RowKit Sx

/-- the stream's block and integers; the leaves' names; the declarations -/
structure EG where
  b : Nat
  a : Option Addr
  len : Nat
  cap : Nat
  zs : List Int
  W : List (List UInt8)
  g : Nat
  o : Nat
  c : Nat
  gd : Nat
  od : Nat
  nd : Nat
  cd : Nat
  ds : List (List UInt8 × Nat)

/-- the cells of a declaration, only its name and arity told -/
def DeN (w : World) (g off : Nat) (n : List UInt8) (ar : Nat) : Prop :=
  ∃ (k : Int) (t : List UInt8) (o : Int) (A : Option Addr) (m c : Nat) (cc : Bool) (A' : Option Addr) (m' c' : Nat), w.cell? ⟨g, off, none⟩ = some (.string ⟨n.toArray⟩) ∧ w.cell? ⟨g, off + 1, none⟩ = some (.int .i64 (ar : Int)) ∧
    w.cell? ⟨g, off + 2, none⟩ = some (.int .i64 k) ∧ w.cell? ⟨g, off + 3, none⟩ = some (.string ⟨t.toArray⟩) ∧ w.cell? ⟨g, off + 4, none⟩ = some (.int .i64 o) ∧ w.cell? ⟨g, off + 5, none⟩ = some (.slice A m c) ∧
    w.cell? ⟨g, off + 6, none⟩ = some (.bool cc) ∧ w.cell? ⟨g, off + 7, none⟩ = some (.slice A' m' c')
structure DN (w : World) (E : EG) : Prop where
  ne : E.gd ≠ E.b
  lt : E.gd < w.heap.size
  len : E.ds.length = E.nd
  nd : E.nd ≤ 1000
  row : ∀ j n ar, E.ds[j]? = some (n, ar) → DeN w E.gd (E.od + j * 8) n ar ∧ ar ≤ 3 ∧ n.length ≤ 1000
theorem DN.keep {w w' : World} {E : EG} (h : DN w E) (hs : w.heap.size ≤ w'.heap.size) (hk : w'.heap[E.gd]? = w.heap[E.gd]?) : DN w' E := by
  refine ⟨h.ne, Nat.lt_of_lt_of_le h.lt hs, h.len, h.nd, fun j n ar hj => ?_⟩
  obtain ⟨⟨k, t, o, A, m, c, cc, A', m', c', h1, h2, h3, h4, h5, h6, h7, h8⟩, h9, h10⟩ := h.row j n ar hj
  have e : ∀ {x : Nat} {v : Value}, w.cell? ⟨E.gd, x, none⟩ = some v → w'.cell? ⟨E.gd, x, none⟩ = some v := fun {x v} hx => (World.cell?_of_block (a := ⟨E.gd, x, none⟩) hk).trans hx
  exact ⟨⟨k, t, o, A, m, c, cc, A', m', c', e h1, e h2, e h3, e h4, e h5, e h6, e h7, e h8⟩, h9, h10⟩

structure GenD (w : World) (E : EG) (k : Nat) : Prop where
  st : Strm w E.b E.a E.len E.cap E.zs k
  leaf : Tab w E.b 1 4 E.W E.g E.o E.c
  dec : DN w E
  short : ∀ s ∈ E.W, s.length ≤ 1000

section
variable {w w' : World} {E : EG} {k : Nat}
theorem GenD.below (h : GenD w E k) (hg : Below w.heap.size w w') : GenD w' E k := ⟨h.st.keep hg, h.leaf.below hg, h.dec.keep hg.size (hg.block _ h.dec.lt), h.short⟩
theorem GenD.drew (h : GenD w E k) : GenD w.drew E k := ⟨h.st.drew, h.leaf.drew, h.dec.keep (Nat.le_refl _) rfl, h.short⟩
theorem GenD.lt (h : GenD w E k) : E.b < w.heap.size := h.st.lt
/-- only blocks that came in are read -/
theorem GenD.old {w0 : World} {k0 : Nat} (h0 : GenD w0 E k0) (h : GenD w E k) (hs : w.heap.size ≤ w'.heap.size) (hk : ∀ x, x < w0.heap.size → w'.heap[x]? = w.heap[x]?) : GenD w' E k := by
  refine ⟨?_, ⟨(World.cell?_of_block (hk _ h0.leaf.vlt)).trans h.leaf.head, fun i hi => by
      obtain ⟨s, hs, hc⟩ := h.leaf.row i hi
      exact ⟨s, hs, (World.cell?_of_block (hk _ h0.leaf.glt)).trans hc⟩, h.leaf.vb, h.leaf.gb, Nat.lt_of_lt_of_le h.leaf.vlt hs, Nat.lt_of_lt_of_le h.leaf.glt hs, h.leaf.pos⟩, h.dec.keep hs (hk _ h0.dec.lt), h.short⟩
  obtain ⟨hblk, hints, hr⟩ := h.st
  obtain ⟨hblk0, hints0, hr0⟩ := h0.st
  refine ⟨(hk _ (heap_lt hblk0)).trans hblk, ?_, hr⟩
  intro hp
  obtain ⟨g, off, e, hl, hc⟩ := hints hp
  obtain ⟨g', off', e', hl', _⟩ := hints0 hp
  rw [e] at e'
  cases e'
  exact ⟨g, off, e, by omega, fun i hi => (World.cell?_of_block (hk g hl')).trans (hc i hi)⟩

theorem next_genD (m : Int) (h : GenD w E k) (hm : 0 < m) (hm2 : m ≤ 65536) :
    Calls Tryz.prog 61 #[.pointer (some ⟨E.b, 0, none⟩), .int .i64 m] w fun e w' => ∃ (r : Nat) (k' : Nat), e = .returned (.int .i64 (r : Int)) ∧ (r : Int) < m ∧ GenD w' E k' ∧ w.grownBy w' (some E.b) ∧ w'.heap.size = w.heap.size ∧ ((k < E.len ∧ k' = k + 1) ∨ (E.len ≤ k ∧ k' = k ∧ r = 0)) := by
  refine (next_det E.b E.a E.len E.cap E.zs k m w h.st hm hm2).mono ?_
  rintro e w' ⟨he, hs, hg, hz⟩
  obtain ⟨hr0, hr1⟩ := nxt_bounds E.len E.zs k m hm
  refine ⟨(nxt E.len E.zs k m).toNat, nk E.len k, by rw [he]; congr 2; omega, by omega, ⟨hs, h.leaf.keep hg, h.dec.keep (by omega) (hg.block _ h.dec.lt (by simp; exact h.dec.ne)), h.short⟩, hg, hz, ?_⟩
  by_cases hlt : k < E.len
  · exact .inl ⟨hlt, if_pos hlt⟩
  · refine .inr ⟨by omega, if_neg hlt, ?_⟩
    rw [nxt, if_neg hlt]
    rfl
end

/-- bounds by the depth that is left -/
def zA (d : Int) (n : Nat) : Prop := (d ≤ 0 → n = 0) ∧ (d ≤ 1 → n ≤ 3)
def zN (d : Int) (n : Nat) : Prop := d ≤ 1 → n ≤ 3
def zT (d : Int) (n : Nat) : Prop := d ≤ 0 → n ≤ 3
/-- what the three answer: a term that lies in new blocks, as large as what was read allows, closed within V bodies -/
def GP (E : EG) (Z : Nat → Prop) (V : Int) (k : Nat) (w : World) (e : Ending) (w' : World) : Prop :=
  ∃ (k' : Nat) (q o : Int) (t : List UInt8) (kids : Fo) (A : Option Addr) (c : Nat) (ys : List Value), e = .returned (.agg #[.int .i64 q, .string ⟨t.toArray⟩, .int .i64 o, .slice A kids.len c]) ∧ kids.len ≤ c ∧ readsAt w' (fun x => w.heap.size ≤ x) A kids.len ys ∧ rowT w' (fun x => w.heap.size ≤ x) kids ys ∧
    k ≤ k' ∧ (fsize kids ≤ 4 * (k' - k) ∧ Z (fsize kids)) ∧ lenG (.one q t kids o) ∧ closed1 q o kids V = true ∧ GenD w' E k' ∧ w.grownBy w' (some E.b)

/-- between two appends to the arguments of the term in block gM -/
structure RD (w w3 wr : World) (E : EG) (kq : Nat) (gM : Nat) (q o : Int) (t : List UInt8) (v : Value) (acc : Fo) (xs : List Value) : Prop where
  gen0 : ∃ k0, GenD w E k0
  gen : GenD wr E kq
  gb : w.grownBy wr (some E.b)
  blkM : wr.heap[gM]? = some (.cells #[.int .i64 q, .string ⟨t.toArray⟩, .int .i64 o, v] 34 (0, 0))
  old : ∀ x, w.heap.size ≤ x → x < w3.heap.size → x ≠ gM → wr.heap[x]? = w3.heap[x]?
  own : wr.ownsRow w3.heap.size 34 4 v acc.len xs
  row : rowT wr (fun x => w3.heap.size ≤ x ∧ v.ownBlock ≠ some x) acc xs
  hM : w.heap.size ≤ gM ∧ gM < w3.heap.size
  size : w3.heap.size ≤ wr.heap.size

section
variable {w w3 wr w4 : World} {E : EG} {kq gM : Nat} {q o : Int} {t : List UInt8} {v : Value} {acc : Fo} {xs : List Value}
theorem RD.drew (h : RD w w3 wr E kq gM q o t v acc xs) : RD w w3 wr.drew E kq gM q o t v acc xs :=
  ⟨h.gen0, h.gen.drew, gb_drew h.gb, h.blkM, h.old, h.own, h.row.keep (w := wr) (w' := wr.drew) (Nat.le_refl _) (fun x hx _ => ⟨rfl, hx⟩) _, h.hM, h.size⟩
theorem RD.cell (h : RD w w3 wr E kq gM q o t v acc xs) : wr.cell? ⟨gM, 3, none⟩ = some v ∧ wr.frozen? ⟨gM, 3, none⟩ = false := by
  obtain ⟨_, _, _, b3, _, _, _, y3⟩ := row4 h.blkM
  exact ⟨b3, y3⟩
/-- behind a call that touches the stream alone -/
theorem RD.after (h : RD w w3 wr E kq gM q o t v acc xs) {k4 : Nat} (hg : wr.grownBy w4 (some E.b)) (hG : GenD w4 E k4) : RD w w3 w4 E k4 gM q o t v acc xs := by
  obtain ⟨k0, h0⟩ := h.gen0
  have hb := h0.lt
  have hM := h.hM
  have hs := h.size
  refine ⟨h.gen0, hG, gb_trans h.gb hg, (hg.block _ (heap_lt h.blkM) (by simp; omega)).trans h.blkM, fun x hx hl hne => (hg.block _ (by omega) (by simp; omega)).trans (h.old x hx hl hne), h.own.kept hg ?_, ?_, hM, Nat.le_trans hs hg.size⟩
  · cases hv : v.ownBlock with
    | none => exact .inl rfl
    | some x => exact .inr (by have := (h.own.lt x hv).1; simp; omega)
  · exact h.row.keep hg.size (fun x hx hl => ⟨hg.block x hl (by simp; have := hx.1; omega), hx⟩) _
/-- behind the append: the term's box is as it was -/
theorem RD.boxed (h : RD w w3 w4 E kq gM q o t v acc xs) {ob : Obj} {w5 : World} (hg : (w4.alloc ob).grownBy w5 v.ownBlock) : w5.heap[gM]? = some (.cells #[.int .i64 q, .string ⟨t.toArray⟩, .int .i64 o, v] 34 (0, 0)) := by
  have hM := h.hM
  have hs := h.size
  refine (hg.block _ (by simp; omega) ?_).trans ((Below.heap_alloc w4 ob _ (by omega)).trans h.blkM)
  intro e
  have := (h.own.lt _ e.symm).1
  omega
theorem RD.push (h0 : RD w w3 wr E kq gM q o t v acc xs) {k4 : Nat} {q1 o1 : Int} {t1 : List UInt8} {kids : Fo} {A : Option Addr} {c : Nat} {ys : List Value} (hg4 : wr.grownBy w4 (some E.b)) (hG : GenD w4 E k4)
    (hc : kids.len ≤ c) (hr : readsAt w4 (fun x => wr.heap.size ≤ x) A kids.len ys) (hk : rowT w4 (fun x => wr.heap.size ≤ x) kids ys)
    {ob : Obj} {w5 : World} {v' : Value} (hg : (w4.alloc ob).grownBy w5 v.ownBlock) (hat : v'.ownBlock = v.ownBlock ∨ v'.ownBlock = some (w4.heap.size + 1))
    (hown : w5.ownsRow w3.heap.size 34 4 v' (acc.len + 1) (xs ++ [.int .i64 q1, .string ⟨t1.toArray⟩, .int .i64 o1, .slice A kids.len c])) :
    RD w w3 (w5.setCell ⟨gM, 3, none⟩ v') E k4 gM q o t v' (acc.app (.one q1 t1 kids o1)) (xs ++ [.int .i64 q1, .string ⟨t1.toArray⟩, .int .i64 o1, .slice A kids.len c]) := by
  have h := h0.after hg4 hG
  obtain ⟨k0, hg0⟩ := h.gen0
  have hb := hg0.lt
  have hM := h.hM
  have hs4 := h.size
  have hs5 := hg.size
  have hs5' : (w4.alloc ob).heap.size = w4.heap.size + 1 := by simp
  have hM5 := h.boxed hg
  have hne : ∀ x, x < w3.heap.size → some x ≠ v.ownBlock := fun x hx e => by have := (h.own.lt x e.symm).1; omega
  have hgg : ∀ x, v'.ownBlock = some x → w3.heap.size ≤ x := fun x hx => (hown.lt x hx).1
  have hG5 : w.grownBy w5 (some E.b) := gb_new (gb_alloc h.gb ob) hg (fun g e => by have := (h.own.lt g e).1; omega)
  have hkeep : ∀ x, x < w3.heap.size → x ≠ gM → (w5.setCell ⟨gM, 3, none⟩ v').heap[x]? = w4.heap[x]? := fun x hx hxM =>
    (heap_far hxM _).trans ((hg.block x (by omega) (hne x hx)).trans (Below.heap_alloc w4 ob x (by omega)))
  have hrow5 := push_rowT (w := w3) (b := E.b) h0.own h0.row (by omega) h0.size hg4 hc hr hk (o := o1) (k := q1) (t := t1) hg hat
  refine ⟨h.gen0, ?_, ?_, heap_set (i := 3) hM5 v', fun x hx hl hne' => (hkeep x hl hne').trans (h.old x hx hl hne'), ?_, ?_, hM, ?_⟩
  · exact hg0.old h.gen (by simp [size_set]; omega) fun x hx => hkeep x (by omega) (by omega)
  · refine gb_new hG5 (row' := some gM) ?_ (fun g e => by simp at e; omega)
    exact gb_setCell (World.grownBy.refl _ _) (.inl rfl) _
  · rw [Fo.len_app]
    refine hown.kept (row := some gM) (gb_setCell (World.grownBy.refl _ _) (.inl rfl) _) ?_
    cases hv : v'.ownBlock with
    | none => exact .inl rfl
    | some x => exact .inr (by have := hgg x hv; simp; omega)
  · exact hrow5.keep (by simp [size_set]) (fun x hx hl => ⟨heap_far (show x ≠ gM from by have : w3.heap.size ≤ x := hx.1; omega) _, hx⟩) _
  · simp [size_set]; omega
end
end Go.Proofs.YtpkiheenkpcebaaGreatDoor
namespace Go.Proofs.YtpkiheenkpcebaaGreatDoor
open Go.RowKit Sx

/-- a term that lies elsewhere is answered through the result's box -/
theorem GP.box {E : EG} {Z : Nat → Prop} {V : Int} {k k' : Nat} {w wr : World} {q o : Int} {t : List UInt8} {kids : Fo} {A : Option Addr} {c : Nat} {ys : List Value} {k0 : Nat} (h0 : GenD w E k0) (hG : GenD wr E k') (hgb : w.grownBy wr (some E.b)) (hc : kids.len ≤ c)
    (hr : readsAt wr (fun x => w.heap.size < x) A kids.len ys) (hk : rowT wr (fun x => w.heap.size < x) kids ys) (hkk : k ≤ k') (hf : fsize kids ≤ 4 * (k' - k) ∧ Z (fsize kids)) (hl : lenG (.one q t kids o)) (hcl : closed1 q o kids V = true) :
    GP E Z V k w (.returned (.agg #[.int .i64 q, .string ⟨t.toArray⟩, .int .i64 o, .slice A kids.len c])) ((((wr.setCell ⟨w.heap.size, 0, none⟩ (.int .i64 q)).setCell ⟨w.heap.size, 1, none⟩ (.string ⟨t.toArray⟩)).setCell ⟨w.heap.size, 2, none⟩ (.int .i64 o)).setCell ⟨w.heap.size, 3, none⟩ (.slice A kids.len c)) := by
  have hb := h0.lt
  have hS : wr.heap.size ≤ ((((wr.setCell ⟨w.heap.size, 0, none⟩ (.int .i64 q)).setCell ⟨w.heap.size, 1, none⟩ (.string ⟨t.toArray⟩)).setCell ⟨w.heap.size, 2, none⟩ (.int .i64 o)).setCell ⟨w.heap.size, 3, none⟩ (.slice A kids.len c)).heap.size := by simp [size_set]
  have hkeep : ∀ x, w.heap.size < x → x < wr.heap.size → ((((wr.setCell ⟨w.heap.size, 0, none⟩ (.int .i64 q)).setCell ⟨w.heap.size, 1, none⟩ (.string ⟨t.toArray⟩)).setCell ⟨w.heap.size, 2, none⟩ (.int .i64 o)).setCell ⟨w.heap.size, 3, none⟩ (.slice A kids.len c)).heap[x]? = wr.heap[x]? ∧ w.heap.size ≤ x :=
    fun x hx _ => ⟨s4_far (by omega) _ _ _ _, by omega⟩
  exact ⟨k', q, o, t, kids, A, c, ys, rfl, hc, hr.keep hS hkeep, hk.keep hS hkeep _, hkk, hf, hl, hcl, h0.old hG hS (fun x hx => s4_far (by omega) _ _ _ _), s4_gb hgb (Nat.le_refl _) _ _ _ _⟩
theorem RD.out {w w3 wr : World} {Z : Nat → Prop} {E : EG} {kq gM k : Nat} {V q o : Int} {t : List UInt8} {acc : Fo} {xs : List Value} {A5 : Option Addr} {c5 : Nat} (h : RD w w3 wr E kq gM q o t (.slice A5 acc.len c5) acc xs) (hN : w.heap.size < w3.heap.size) (hkk : k ≤ kq) (hf : fsize acc ≤ 4 * (kq - k) ∧ Z (fsize acc)) (hl : lenG (.one q t acc o)) (hcl : closed1 q o acc V = true) :
    GP E Z V k w (.returned (.agg #[.int .i64 q, .string ⟨t.toArray⟩, .int .i64 o, .slice A5 acc.len c5])) ((((wr.setCell ⟨w.heap.size, 0, none⟩ (.int .i64 q)).setCell ⟨w.heap.size, 1, none⟩ (.string ⟨t.toArray⟩)).setCell ⟨w.heap.size, 2, none⟩ (.int .i64 o)).setCell ⟨w.heap.size, 3, none⟩ (.slice A5 acc.len c5)) := by
  obtain ⟨k0, h0⟩ := h.gen0
  have hsl := own_sliceT h.own h.row (fun x hx => hx.1)
  obtain ⟨A, c, ys, hv, hc, hr, ho⟩ := hsl
  simp only [Value.slice.injEq, true_and] at hv
  obtain ⟨rfl, rfl⟩ := hv
  exact GP.box h0 h.gen h.gb hc (hr.keep (Nat.le_refl _) fun x hx _ => ⟨rfl, by omega⟩) (ho.keep (Nat.le_refl _) (fun x hx _ => ⟨rfl, by omega⟩) _) hkk hf hl hcl

/-- what arg, named, term are to answer where fewer than M integers are left -/
abbrev AD (E : EG) (d V : Int) : Array Value := #[.pointer (some ⟨E.b, 0, none⟩), .slice (some ⟨E.gd, E.od, none⟩) E.nd E.cd, .int .i64 d, .int .i64 V]
def CA (E : EG) (M : Nat) : Prop := ∀ (k : Nat) (d V : Int) (w : World), GenD w E k → E.len - k < M → 0 ≤ V → V ≤ 2000 → V + d ≤ 2000 → -1 ≤ d → d ≤ 1000 → Calls Tryz.prog 62 (AD E d V) w (GP E (zA d) V k w)
def CNm (E : EG) (M : Nat) : Prop := ∀ (k : Nat) (d V : Int) (w : World), GenD w E k → E.len - k < M → 0 ≤ V → V ≤ 2000 → V + d ≤ 2000 → 0 ≤ d → d ≤ 1000 → Calls Tryz.prog 95 (AD E d V) w (GP E (zN d) V k w)
def CT (E : EG) (M : Nat) : Prop := ∀ (k : Nat) (d V : Int) (w : World), GenD w E k → E.len - k < M → 0 ≤ V → V ≤ 2000 → V + d ≤ 2000 → 0 ≤ d → d ≤ 1000 → Calls Tryz.prog 59 (AD E d V) w (GP E (zT d) V k w)

theorem cell_alloc {w w3 w4 : World} {E : EG} {kq gM : Nat} {q o : Int} {t : List UInt8} {v : Value} {acc : Fo} {xs : List Value} (h : RD w w3 w4 E kq gM q o t v acc xs) (ob : Obj) : (w4.alloc ob).cell? ⟨gM, 3, none⟩ = some v ∧ (w4.alloc ob).frozen? ⟨gM, 3, none⟩ = false := by
  have hM := h.hM
  have hs := h.size
  obtain ⟨_, _, _, b3, _, _, _, y3⟩ := row4 ((Below.heap_alloc w4 ob _ (by omega)).trans h.blkM)
  exact ⟨b3, y3⟩
theorem celB {X : World} {g n size : Nat} {e : TypeId} {cs : Array Value} (h : X.heap[g]? = some (.cells cs e (0, 0))) (hl : cs.size = n * size) (hm : n ≤ maxLen) : Cel X size (some ⟨g, 0, none⟩) n n cs.toList := by
  refine ⟨by simpa using hl, Nat.le_refl _, hm, (fun e => by cases e), fun _ => ⟨g, 0, rfl, heap_lt h, fun j u hu => ?_⟩⟩
  rw [Nat.zero_add, cell_of_row _ _ j _ _ _ h]
  simpa using hu
set_option maxHeartbeats 8000000 in
set_option maxRecDepth 100000 in
theorem named_step (E : EG) (M : Nat) (hA : CA E M) : CNm E (M + 1) := by
  intro k d V w hG hM hV0 hV1 hVd hd0 hd1
  have HA := Lib.hid hA
  obtain ⟨i0, hi, hz0, hz1, hz2⟩ := info_parts infoTg
  obtain ⟨hnd1, hnd2⟩ : E.nd ≤ 1000 ∧ E.ds.length = E.nd := ⟨hG.dec.nd, hG.dec.len⟩
  have hX := bh_alloc (BH.refl w) (.cells #[.int .i64 0, .string ⟨#[]⟩, .int .i64 0, .slice none 0 0] 34)
  have HG0 := Lib.hid hG
  have HG1 := Lib.hid (hG.below hX)
  have HN := Lib.hid (heap_alloc_new w (.cells #[.int .i64 0, .string ⟨#[]⟩, .int .i64 0, .slice none 0 0] 34))
  have hwnd : wrap64 ((E.nd : Int) + 4) = (E.nd : Int) + 4 := wrap64_in (by omega) (by omega)
  have HL := Lib.hid hnd2
  have HX := Lib.hid hX
  clear hA hG hX hwnd hnd2
  go_enter Tryz.func95, Tryz.ntmps95
  go_wp2_with (fail)
  refine (next_genD ((E.nd : Int) + 4) HG1.out (by omega) (by omega)).mono ?_
  rintro e1 w1 ⟨r, k1, rfl, hr, hg1, hgb, hsz, hk1⟩
  have HG1' := Lib.hid hg1
  have HGB := Lib.hid (gb_trans (gb_below HX.out (some E.b)) hgb)
  have HN1 := Lib.hid ((hgb.block w.heap.size (by simp) (by simp; have := HG0.out.lt; omega)).trans HN.out)
  have hs1 : w1.heap.size = w.heap.size + 1 := by rw [hsz]; simp
  clear hg1 hgb hsz
  by_cases hr4 : r < 4
  · have t1 : decide ((r : Int) < 4) = true := by rw [decide_eq_true_eq]; omega
    obtain ⟨sx, hsx, hcx⟩ := HG1'.out.leaf.row r hr4
    have hh := HG1'.out.leaf.head
    have hrL : (r : Int) < 4 := by omega
    have hr0 : (0 : Int) ≤ (r : Int) := by omega
    have Hsx := Lib.hid hsx
    clear hsx
    go_wp2_with (fail)
    refine (namedC _ _ _ _ _).mono ?_
    rintro e2 w2 ⟨rfl, hb2⟩
    have HG2 := Lib.hid (HG1'.out.below hb2)
    have HGB2 := Lib.hid (gb_trans HGB.out (gb_below hb2 _))
    have HN2 := Lib.hid ((Below.block hb2 _ (heap_lt HN1.out)).trans HN1.out)
    clear hb2 hcx hh
    obtain ⟨b0, b1, b2, b3, y0, y1, y2, y3⟩ := row4 HN2.out
    go_wp2_with (fail)
    obtain ⟨m0, m1, m2, m3, _⟩ := row4 (s4 HN2.out (.int .i64 2) (.string ⟨sx.toArray⟩) (.int .i64 0) (.slice none 0 0))
    refine bodyPost_ret (v := .agg #[.int .i64 2, .string ⟨sx.toArray⟩, .int .i64 0, .slice none 0 0]) (by simp [results, Tryz.results95, go_sem, m0, m1, m2, m3]) rfl ?_
    exact GP.box (kids := .nil) HG0.out HG2.out HGB2.out (Nat.le_refl _) (reads_nil _ _) rfl (by omega) (by simp [fsize, zN]) ⟨⟨by have := HG2.out.short sx Hsx.out; omega, by first | exact bar_nil _ | exact bar_ne (by decide)⟩, trivial, trivial⟩ (closed1_kids (by decide) (by decide) rfl)
  · have t1 : decide ((r : Int) < 4) = false := by rw [decide_eq_false_iff_not]; omega
    obtain ⟨j, hj⟩ : ∃ j : Nat, (r : Int) - 4 = (j : Int) := ⟨r - 4, by omega⟩
    have hjn : j < E.ds.length := by rw [HL.out]; omega
    obtain ⟨⟨n, ar⟩, hna⟩ : ∃ x, E.ds[j]? = some x := ⟨_, List.getElem?_eq_getElem hjn⟩
    obtain ⟨⟨dk, dt, dod, dA, dm, dc, dcc, dA', dm', dc', q0, q1, q2, q3, q4, q5, q6, q7⟩, har, hnl⟩ := HG1'.out.dec.row j n ar hna
    have hjL : (j : Int) < (E.nd : Int) := by rw [HL.out] at hjn; omega
    have hj0 : (0 : Int) ≤ (j : Int) := by omega
    have HNa := Lib.hid hna
    have HNl := Lib.hid hnl
    clear hna hnl hjn
    go_wp2_with (fail)
    have hkl : k < E.len ∧ k1 = k + 1 := by
      rcases hk1 with h | ⟨_, _, h⟩
      · exact h
      · omega
    have hR0 : ∀ (D : Obj), RD w ((w1.alloc D).alloc (.cells #[.int .i64 2, .string ⟨n.toArray⟩, .int .i64 0, .slice none 0 0] 34)) ((w1.alloc D).alloc (.cells #[.int .i64 2, .string ⟨n.toArray⟩, .int .i64 0, .slice none 0 0] 34)) E k1 (w.heap.size + 1 + 1) 2 0 n (.slice none 0 0) .nil [] ∧
        ((w1.alloc D).alloc (.cells #[.int .i64 2, .string ⟨n.toArray⟩, .int .i64 0, .slice none 0 0] 34)).heap[w.heap.size + 1]? = some D ∧
        ((w1.alloc D).alloc (.cells #[.int .i64 2, .string ⟨n.toArray⟩, .int .i64 0, .slice none 0 0] 34)).heap[w.heap.size]? = some (.cells #[.int .i64 0, .string ⟨#[]⟩, .int .i64 0, .slice none 0 0] 34 (0, 0)) ∧
        ((w1.alloc D).alloc (.cells #[.int .i64 2, .string ⟨n.toArray⟩, .int .i64 0, .slice none 0 0] 34)).heap.size = w.heap.size + 3 := by
      intro D
      have hD := bh_alloc (BH.refl w1) D
      have hD2 := bh_alloc hD (.cells #[.int .i64 2, .string ⟨n.toArray⟩, .int .i64 0, .slice none 0 0] 34)
      have e1 := heap_alloc_new w1 D
      have e2 := heap_alloc_new (w1.alloc D) (.cells #[.int .i64 2, .string ⟨n.toArray⟩, .int .i64 0, .slice none 0 0] 34)
      have e3 := (Below.heap_alloc (w1.alloc D) (.cells #[.int .i64 2, .string ⟨n.toArray⟩, .int .i64 0, .slice none 0 0] 34) _ (by simp)).trans e1
      simp only [World.size_alloc, hs1] at e2
      rw [hs1] at e3
      refine ⟨⟨⟨k, HG0.out⟩, HG1'.out.below hD2, gb_trans HGB.out (gb_below hD2 _), e2, fun x _ _ _ => rfl, World.ownsRow_nil _ _ _ _, rfl, ⟨by omega, by simp; omega⟩, Nat.le_refl _⟩, e3, (Below.block hD2 _ (heap_lt HN1.out)).trans HN1.out, by simp; omega⟩
    have HR0 := Lib.hid (hR0 (.cells #[.string ⟨n.toArray⟩, .int .i64 (ar : Int), .int .i64 dk, .string ⟨dt.toArray⟩, .int .i64 dod, .slice dA dm dc, .bool dcc, .slice dA' dm' dc'] 37))
    obtain ⟨w3, hw3⟩ : ∃ w3, (w1.alloc (.cells #[.string ⟨n.toArray⟩, .int .i64 (ar : Int), .int .i64 dk, .string ⟨dt.toArray⟩, .int .i64 dod, .slice dA dm dc, .bool dcc, .slice dA' dm' dc'] 37)).alloc (.cells #[.int .i64 2, .string ⟨n.toArray⟩, .int .i64 0, .slice none 0 0] 34) = w3 := ⟨_, rfl⟩
    rw [hw3] at HR0 ⊢
    have HKL := Lib.hid hkl
    have Hd1 := Lib.hid (show IntKind.i64.wrap (d - 1) = d - 1 from (IntKind.wrap_i64 _).trans (by omega))
    clear hkl hw3 hR0 hs1 q0 q1 q2 q3 q4 q5 q6 q7 hk1
    go_loopw [12] (fun iv wr => ∃ (i kq : Nat) (v : Value) (acc : Fo) (xs : List Value), iv = .int .i64 (i : Int) ∧ RD w w3 wr E kq (w.heap.size + 1 + 1) 2 0 n v acc xs ∧ acc.len = i ∧ i ≤ ar ∧ k1 ≤ kq ∧ (fsize acc ≤ 4 * (kq - k1) + i ∧ (d ≤ 1 → fsize acc ≤ i)) ∧ lenG acc ∧ closedL 0 0 V acc = true) (fun iv _ => ar - (match iv with | .int _ n => n.toNat | _ => 0))
    case atStart => exact ⟨0, k1, _, .nil, [], rfl, HR0.out.1, rfl, Nat.zero_le _, Nat.le_refl _, by simp [fsize], trivial, rfl⟩
    case round =>
      obtain ⟨i, kq, v, acc, xs, rfl, hrd, hai, hia, hkq, hfs, hlt, hcl⟩ := hrel
      have HRD := Lib.hid hrd
      have HAC := Lib.hid (And.intro hai (And.intro hfs (And.intro hlt hcl)))
      have hd2 := (hrd.old (w.heap.size + 1) (by omega) (by have := HR0.out.2.2.2; omega) (by omega)).trans HR0.out.2.1
      have c1 : wr.cell? ⟨w.heap.size + 1, 1, none⟩ = some (.int .i64 (ar : Int)) := cell_of_row _ _ 1 _ _ _ hd2
      obtain ⟨A5, c5, rfl, hc5⟩ := own_shape hrd.own
      obtain ⟨g3, z3⟩ := hrd.cell
      clear hrd hd2 hai hfs hlt hcl hc5
      by_cases hltar : i < ar
      · have hge : decide ((i : Int) < (ar : Int)) = true := by rw [decide_eq_true_eq]; omega
        have hwd := Hd1.out
        go_wp2_with (fail)
        have HRd := Lib.hid HRD.out.drew
        have HCa := Lib.hid (show Calls Tryz.prog 62 (AD E (d - 1) V) wr.drew (GP E (zA (d - 1)) V kq wr.drew) from HA.out kq (d - 1) V wr.drew HRd.out.gen (by have := HKL.out; omega) hV0 hV1 (by omega) (by omega) (by omega))
        go_region_law (first
          | (go_simp; go_at_call 62; (with_reducible refine HCa.out.mono ?_); rintro e w4 ⟨k4, q1, o1, t1, kids1, A1, cc1, ys1, rfl, b1, b2, b3, b4, b5, b6, b7, b8, b9⟩; have HB := Lib.hid (And.intro b1 (And.intro b2 (And.intro b3 (And.intro b4 (And.intro b5 (And.intro b6 (And.intro b7 (And.intro b8 b9)))))))); have HR4 := Lib.hid (HRd.out.after b9 b8); clear b1 b2 b3 b4 b5 b6 b7 b8 b9; obtain ⟨g3, z3⟩ := HR4.out.cell; have g4 := (cell_alloc HR4.out (.cells #[.int .i64 q1, .string ⟨t1.toArray⟩, .int .i64 o1, .slice A1 kids1.len cc1] 34)).1)
          | (refine step_app _ (by rfl) _ _ _ (by rfl) w3.heap.size 34 i0 _ 4 56 Tryz.underlying32 hi hz0 hz1 hz2 rfl (by decide) (.slice A5 acc.len c5) acc.len xs (by rfl) (HR4.out.own.alloc _) (some ⟨w4.heap.size, 0, none⟩) 1 1 [.int .i64 q1, .string ⟨t1.toArray⟩, .int .i64 o1, .slice A1 kids1.len cc1] (by rfl) (celB (cs := #[.int .i64 q1, .string ⟨t1.toArray⟩, .int .i64 o1, .slice A1 kids1.len cc1]) (heap_alloc_new w4 _) rfl (by decide)) (by intro x hx; simp at hx; rcases hx with rfl | rfl | rfl | rfl <;> rfl) (by have := HAC.out.1; unfold maxLen; omega) (by have := HAC.out.1; omega) (by have := HR4.out.size; simp; omega) ?_; intro v1 w5 ho1 hg1 ha1; obtain ⟨A6, c6, rfl, hc6⟩ := own_shape ho1; have HO := Lib.hid (And.intro ho1 (And.intro hg1 ha1)); obtain ⟨_, _, _, g3, _, _, _, z3⟩ := row4 (HR4.out.boxed hg1); clear ho1 hg1 ha1))
        all_goals
          go_wp2_with (fail)
          obtain ⟨b1, b2, b3, b4, b5, b6, b7, b8, b9⟩ := HB.out
          obtain ⟨a1, a2, a3, a4⟩ := HAC.out
          obtain ⟨ho1, hg1, ha1⟩ := HO.out
          have hP := HRd.out.push (q1 := q1) (o1 := o1) (t1 := t1) b9 b8 b1 b2 b3 hg1 (by simpa using ha1) ho1
          refine ⟨⟨i + 1, k4, _, _, _, rfl, hP, by rw [Fo.len_app, a1]; rfl, hltar, by omega, ?_, lenG_app _ _ a3 b6, ?_⟩, by simp; omega⟩
          · rw [fsize_app]
            simp only [Fo.one, fsize]
            exact ⟨by omega, fun h => by have := a2.2 h; have := b5.2.1 (by omega); omega⟩
          · rw [closedL_app, a4, closed1_one b7]
            rfl
      · have hge : decide ((i : Int) < (ar : Int)) = false := by rw [decide_eq_false_iff_not]; omega
        have hge2 : decide (i < ar) = false := by rw [decide_eq_false_iff_not]; omega
        have hN2 := (HRD.out.old w.heap.size (Nat.le_refl _) (by have := HR0.out.2.2.2; omega) (by omega)).trans HR0.out.2.2.1
        obtain ⟨b0, b1, b2, b3, y0, y1, y2, y3⟩ := row4 hN2
        obtain ⟨f0, f1, f2, f3, _⟩ := row4 HRD.out.blkM
        have HN2 := Lib.hid hN2
        clear hN2
        go_wp2_with (fail)
        obtain ⟨m0, m1, m2, m3, _⟩ := row4 (s4 HN2.out (.int .i64 2) (.string ⟨n.toArray⟩) (.int .i64 0) (.slice A5 acc.len c5))
        refine bodyPost_ret (v := .agg #[.int .i64 2, .string ⟨n.toArray⟩, .int .i64 0, .slice A5 acc.len c5]) (by simp [results, Tryz.results95, go_sem, m0, m1, m2, m3]) rfl ?_
        obtain ⟨a1, a2, a3, a4⟩ := HAC.out
        have hkl := HKL.out
        exact RD.out HRD.out (by have := HR0.out.2.2.2; omega) (by omega) ⟨by omega, fun h => by have := a2.2 h; omega⟩ ⟨⟨by have := HNl.out; omega, by first | exact bar_nil _ | exact bar_ne (by decide)⟩, a3, trivial⟩ (closed1_kids (by decide) (by decide) a4)
end Go.Proofs.YtpkiheenkpcebaaGreatDoor
namespace Go.Proofs.YtpkiheenkpcebaaGreatDoor
open Go.RowKit Sx

/-- what an inner call answered, through the result's box -/
theorem GP.pass {E : EG} {Z Z' : Nat → Prop} {V V' : Int} {k k1 : Nat} {w w1 w2 : World} {e : Ending} (h : GP E Z' V' k1 w1 e w2) {k0 : Nat} (h0 : GenD w E k0) (hw : w.grownBy w1 (some E.b)) (hs : w.heap.size < w1.heap.size) (hV : V' ≤ V) (hk : k ≤ k1)
    (hN : w1.heap[w.heap.size]? = some (.cells #[.int .i64 0, .string ⟨#[]⟩, .int .i64 0, .slice none 0 0] 34 (0, 0))) (hZ : ∀ n, Z' n → Z n) :
    ∃ (q o : Int) (t : List UInt8) (kids : Fo) (A : Option Addr) (c : Nat), e = .returned (.agg #[.int .i64 q, .string ⟨t.toArray⟩, .int .i64 o, .slice A kids.len c]) ∧ w2.heap[w.heap.size]? = some (.cells #[.int .i64 0, .string ⟨#[]⟩, .int .i64 0, .slice none 0 0] 34 (0, 0)) ∧
      GP E Z V k w (.returned (.agg #[.int .i64 q, .string ⟨t.toArray⟩, .int .i64 o, .slice A kids.len c])) ((((w2.setCell ⟨w.heap.size, 0, none⟩ (.int .i64 q)).setCell ⟨w.heap.size, 1, none⟩ (.string ⟨t.toArray⟩)).setCell ⟨w.heap.size, 2, none⟩ (.int .i64 o)).setCell ⟨w.heap.size, 3, none⟩ (.slice A kids.len c)) := by
  obtain ⟨k', q, o, t, kids, A, c, ys, rfl, b1, b2, b3, b4, b5, b6, b7, b8, b9⟩ := h
  have hb := h0.lt
  exact ⟨q, o, t, kids, A, c, rfl, (b9.block _ (heap_lt hN) (by simp; omega)).trans hN, GP.box h0 b8 (gb_trans hw b9) b1 (b2.keep (Nat.le_refl _) fun x hx _ => ⟨rfl, by omega⟩) (b3.keep (Nat.le_refl _) (fun x hx _ => ⟨rfl, by omega⟩) _) (by omega) ⟨by omega, hZ _ b5.2⟩ b6 (closed1_mono hV b7)⟩

set_option maxHeartbeats 8000000 in
set_option maxRecDepth 100000 in
theorem arg_step (E : EG) (M : Nat) (hNm : CNm E (M + 1)) (hT : CT E M) : CA E (M + 1) := by
  intro k d V w hG hM hV0 hV1 hVd hd0 hd1
  have HNm := Lib.hid hNm
  have HT := Lib.hid hT
  have hX := bh_alloc (BH.refl w) (.cells #[.int .i64 0, .string ⟨#[]⟩, .int .i64 0, .slice none 0 0] 34)
  have HG0 := Lib.hid hG
  have HG1 := Lib.hid (hG.below hX)
  have HN := Lib.hid (heap_alloc_new w (.cells #[.int .i64 0, .string ⟨#[]⟩, .int .i64 0, .slice none 0 0] 34))
  have HX := Lib.hid hX
  have Hd1 := Lib.hid (show IntKind.i64.wrap (d - 1) = d - 1 from (IntKind.wrap_i64 _).trans (by omega))
  clear hNm hT hG hX
  go_enter Tryz.func62, Tryz.ntmps62
  go_wp2_with (fail)
  refine (next_genD 6 HG1.out (by omega) (by omega)).mono ?_
  rintro e1 w1 ⟨r, k1, rfl, hr, hg1, hgb, hsz, hk1⟩
  have HG1' := Lib.hid hg1
  have HGB := Lib.hid (gb_trans (gb_below HX.out (some E.b)) hgb)
  have HN1 := Lib.hid ((hgb.block w.heap.size (by simp) (by simp; have := HG0.out.lt; omega)).trans HN.out)
  have hs1 : w1.heap.size = w.heap.size + 1 := by rw [hsz]; simp
  have HS1 := Lib.hid hs1
  have hkk : k ≤ k1 ∧ (r = 0 ∨ k1 = k + 1 ∧ k < E.len) := by
    rcases hk1 with ⟨a, b⟩ | ⟨a, b, c⟩
    · exact ⟨by omega, .inr ⟨b, a⟩⟩
    · exact ⟨by omega, .inl c⟩
  have HKK := Lib.hid hkk
  clear hg1 hgb hsz hs1 hk1 hkk
  by_cases hc1 : r < 2 ∧ 0 < V
  · obtain ⟨hr2, hV2⟩ := hc1
    have t1 : decide ((r : Int) < 2) = true := by rw [decide_eq_true_eq]; omega
    have t2 : decide ((0 : Int) < V) = true := decide_eq_true hV2
    go_wp2_with (fail)
    refine (next_genD V HG1'.out (by omega) (by omega)).mono ?_
    rintro e2 w2 ⟨r2, k2, rfl, hr2, hg2, hgb2, hsz2, hk2⟩
    have HG2 := Lib.hid hg2
    have HGB2 := Lib.hid (gb_trans HGB.out hgb2)
    have HN2 := Lib.hid ((hgb2.block _ (heap_lt HN1.out) (by simp; have := HG0.out.lt; omega)).trans HN1.out)
    have hkk2 : k1 ≤ k2 := by omega
    clear hg2 hgb2 hsz2 hk2
    go_wp2_with (fail)
    refine (varC _ _).mono ?_
    rintro e3 w3 ⟨rfl, hb3⟩
    have HG3 := Lib.hid (HG2.out.below hb3)
    have HGB3 := Lib.hid (gb_trans HGB2.out (gb_below hb3 _))
    have HN3 := Lib.hid ((Below.block hb3 _ (heap_lt HN2.out)).trans HN2.out)
    clear hb3
    obtain ⟨b0, b1, b2, b3, y0, y1, y2, y3⟩ := row4 HN3.out
    go_wp2_with (fail)
    obtain ⟨m0, m1, m2, m3, _⟩ := row4 (s4 HN3.out (.int .i64 5) (.string ⟨#[]⟩) (.int .i64 (r2 : Int)) (.slice none 0 0))
    refine bodyPost_ret (v := .agg #[.int .i64 5, .string ⟨#[]⟩, .int .i64 (r2 : Int), .slice none 0 0]) (by simp [results, Tryz.results62, go_sem, m0, m1, m2, m3]) rfl ?_
    exact GP.box (kids := .nil) (t := []) HG0.out HG3.out HGB3.out (Nat.le_refl _) (reads_nil _ _) rfl (by have := HKK.out.1; omega) (by simp [fsize, zA]) ⟨⟨by simp, by first | exact bar_nil _ | exact bar_ne (by decide)⟩, trivial, trivial⟩ (closed1_var hr2)
  have t12 : decide ((r : Int) < 2) = false ∨ decide ((0 : Int) < V) = false := by
    by_cases h : r < 2
    · exact .inr (by rw [decide_eq_false_iff_not]; exact fun h2 => hc1 ⟨h, h2⟩)
    · exact .inl (by rw [decide_eq_false_iff_not]; omega)
  have T12 := Lib.hid t12
  clear hc1 t12
  by_cases hd : d ≤ 0
  · have t3 : decide (d ≤ 0) = true := decide_eq_true hd
    rcases T12.out with t1 | t2
    · go_wp2_with (fail)
      have HGd := Lib.hid HG1'.out.drew
      have HNd := Lib.hid (show w1.drew.heap[w.heap.size]? = _ from HN1.out)
      have HGBd := Lib.hid (gb_drew HGB.out)
      have HNE := Lib.hid (show (some w.heap.size : Option Nat) ≠ some E.b by intro e; have := HG0.out.lt; simp at e; omega)
      have hh := HGd.out.leaf.head
      go_region_law (first
        | (go_simp; go_at_call 61; (refine (next_genD 4 HGd.out (by decide) (by decide)).mono ?_); rintro e4 w4 ⟨r4, k4, rfl, hr4, b1, b2, b3, b4⟩; have HNb := Lib.hid ((b2.block w.heap.size (heap_lt HNd.out) HNE.out).trans HNd.out); have HGe := Lib.hid b1; have HGBe := Lib.hid (gb_trans HGBd.out b2); have HKe := Lib.hid (show k1 ≤ k4 by omega); obtain ⟨sx, hsx, hcx⟩ := b1.leaf.row r4 (by omega); have Hsx := Lib.hid hsx; have hh4 := b1.leaf.head; have hr40 : (0 : Int) ≤ (r4 : Int) := (by omega); clear hsx b1 b2 b3 b4 hh)
        | (go_simp; go_at_call 17; (refine (namedC _ _ _ _ _).mono ?_); rintro e5 w5 ⟨rfl, b5⟩; have HGf := Lib.hid (HGe.out.below b5); have HGBf := Lib.hid (gb_trans HGBe.out (gb_below b5 _)); have HNf := Lib.hid ((Below.block b5 _ (heap_lt HNb.out)).trans HNb.out); obtain ⟨c0, c1, c2, c3, z0, z1, z2, z3⟩ := row4 HNf.out; clear b5 hcx hh4))
      all_goals
        go_wp2_with (fail)
        obtain ⟨m0, m1, m2, m3, _⟩ := row4 (s4 HNf.out (.int .i64 2) (.string ⟨sx.toArray⟩) (.int .i64 0) (.slice none 0 0))
        refine bodyPost_ret (v := .agg #[.int .i64 2, .string ⟨sx.toArray⟩, .int .i64 0, .slice none 0 0]) (by simp [results, Tryz.results62, go_sem, m0, m1, m2, m3]) rfl ?_
        exact GP.box (kids := .nil) HG0.out HGf.out HGBf.out (Nat.le_refl _) (reads_nil _ _) rfl (by have := HKK.out.1; have := HKe.out; omega) (by simp [fsize, zA]) ⟨⟨by have := HGf.out.short sx Hsx.out; omega, by first | exact bar_nil _ | exact bar_ne (by decide)⟩, trivial, trivial⟩ (closed1_kids (by decide) (by decide) rfl)
    · by_cases hr2 : r < 2
      · have t1 : decide ((r : Int) < 2) = true := by rw [decide_eq_true_eq]; omega
        go_wp2_with (fail)
        have HGd := Lib.hid HG1'.out.drew
        have HNd := Lib.hid (show w1.drew.heap[w.heap.size]? = _ from HN1.out)
        have HGBd := Lib.hid (gb_drew HGB.out)
        have HNE := Lib.hid (show (some w.heap.size : Option Nat) ≠ some E.b by intro e; have := HG0.out.lt; simp at e; omega)
        have hh := HGd.out.leaf.head
        go_region_law (first
          | (go_simp; go_at_call 61; (refine (next_genD 4 HGd.out (by decide) (by decide)).mono ?_); rintro e4 w4 ⟨r4, k4, rfl, hr4, b1, b2, b3, b4⟩; have HNb := Lib.hid ((b2.block w.heap.size (heap_lt HNd.out) HNE.out).trans HNd.out); have HGe := Lib.hid b1; have HGBe := Lib.hid (gb_trans HGBd.out b2); have HKe := Lib.hid (show k1 ≤ k4 by omega); obtain ⟨sx, hsx, hcx⟩ := b1.leaf.row r4 (by omega); have Hsx := Lib.hid hsx; have hh4 := b1.leaf.head; have hr40 : (0 : Int) ≤ (r4 : Int) := (by omega); clear hsx b1 b2 b3 b4 hh)
          | (go_simp; go_at_call 17; (refine (namedC _ _ _ _ _).mono ?_); rintro e5 w5 ⟨rfl, b5⟩; have HGf := Lib.hid (HGe.out.below b5); have HGBf := Lib.hid (gb_trans HGBe.out (gb_below b5 _)); have HNf := Lib.hid ((Below.block b5 _ (heap_lt HNb.out)).trans HNb.out); obtain ⟨c0, c1, c2, c3, z0, z1, z2, z3⟩ := row4 HNf.out; clear b5 hcx hh4))
        all_goals
          go_wp2_with (fail)
          obtain ⟨m0, m1, m2, m3, _⟩ := row4 (s4 HNf.out (.int .i64 2) (.string ⟨sx.toArray⟩) (.int .i64 0) (.slice none 0 0))
          refine bodyPost_ret (v := .agg #[.int .i64 2, .string ⟨sx.toArray⟩, .int .i64 0, .slice none 0 0]) (by simp [results, Tryz.results62, go_sem, m0, m1, m2, m3]) rfl ?_
          exact GP.box (kids := .nil) HG0.out HGf.out HGBf.out (Nat.le_refl _) (reads_nil _ _) rfl (by have := HKK.out.1; have := HKe.out; omega) (by simp [fsize, zA]) ⟨⟨by have := HGf.out.short sx Hsx.out; omega, by first | exact bar_nil _ | exact bar_ne (by decide)⟩, trivial, trivial⟩ (closed1_kids (by decide) (by decide) rfl)
      · have t1 : decide ((r : Int) < 2) = false := by rw [decide_eq_false_iff_not]; omega
        go_wp2_with (fail)
        have HGd := Lib.hid HG1'.out.drew
        have HNd := Lib.hid (show w1.drew.heap[w.heap.size]? = _ from HN1.out)
        have HGBd := Lib.hid (gb_drew HGB.out)
        have HNE := Lib.hid (show (some w.heap.size : Option Nat) ≠ some E.b by intro e; have := HG0.out.lt; simp at e; omega)
        have hh := HGd.out.leaf.head
        go_region_law (first
          | (go_simp; go_at_call 61; (refine (next_genD 4 HGd.out (by decide) (by decide)).mono ?_); rintro e4 w4 ⟨r4, k4, rfl, hr4, b1, b2, b3, b4⟩; have HNb := Lib.hid ((b2.block w.heap.size (heap_lt HNd.out) HNE.out).trans HNd.out); have HGe := Lib.hid b1; have HGBe := Lib.hid (gb_trans HGBd.out b2); have HKe := Lib.hid (show k1 ≤ k4 by omega); obtain ⟨sx, hsx, hcx⟩ := b1.leaf.row r4 (by omega); have Hsx := Lib.hid hsx; have hh4 := b1.leaf.head; have hr40 : (0 : Int) ≤ (r4 : Int) := (by omega); clear hsx b1 b2 b3 b4 hh)
          | (go_simp; go_at_call 17; (refine (namedC _ _ _ _ _).mono ?_); rintro e5 w5 ⟨rfl, b5⟩; have HGf := Lib.hid (HGe.out.below b5); have HGBf := Lib.hid (gb_trans HGBe.out (gb_below b5 _)); have HNf := Lib.hid ((Below.block b5 _ (heap_lt HNb.out)).trans HNb.out); obtain ⟨c0, c1, c2, c3, z0, z1, z2, z3⟩ := row4 HNf.out; clear b5 hcx hh4))
        all_goals
          go_wp2_with (fail)
          obtain ⟨m0, m1, m2, m3, _⟩ := row4 (s4 HNf.out (.int .i64 2) (.string ⟨sx.toArray⟩) (.int .i64 0) (.slice none 0 0))
          refine bodyPost_ret (v := .agg #[.int .i64 2, .string ⟨sx.toArray⟩, .int .i64 0, .slice none 0 0]) (by simp [results, Tryz.results62, go_sem, m0, m1, m2, m3]) rfl ?_
          exact GP.box (kids := .nil) HG0.out HGf.out HGBf.out (Nat.le_refl _) (reads_nil _ _) rfl (by have := HKK.out.1; have := HKe.out; omega) (by simp [fsize, zA]) ⟨⟨by have := HGf.out.short sx Hsx.out; omega, by first | exact bar_nil _ | exact bar_ne (by decide)⟩, trivial, trivial⟩ (closed1_kids (by decide) (by decide) rfl)
  · have t3 : decide (d ≤ 0) = false := decide_eq_false hd
    by_cases hr4 : r < 4
    · have t4 : decide ((r : Int) < 4) = true := by rw [decide_eq_true_eq]; omega
      rcases T12.out with t1 | t2
      · go_wp2_with (fail)
        refine (HNm.out k1 d V w1 HG1'.out (by have := HKK.out.1; omega) hV0 hV1 hVd (by omega) hd1).mono ?_
        rintro e2 w2 hgp
        obtain ⟨q, o, t, kids, A, c, rfl, hN2, hres⟩ := hgp.pass (Z := zA d) (k := k) HG0.out HGB.out (by rw [HS1.out]; omega) (Int.le_refl V) HKK.out.1 HN1.out (fun n h => ⟨fun h0 => absurd h0 (by omega), h⟩)
        have HN2 := Lib.hid hN2
        have HRes := Lib.hid hres
        clear hgp hN2 hres
        obtain ⟨b0, b1, b2, b3, y0, y1, y2, y3⟩ := row4 HN2.out
        go_wp2_with (fail)
        obtain ⟨m0, m1, m2, m3, _⟩ := row4 (s4 HN2.out (.int .i64 q) (.string ⟨t.toArray⟩) (.int .i64 o) (.slice A kids.len c))
        exact bodyPost_ret (v := .agg #[.int .i64 q, .string ⟨t.toArray⟩, .int .i64 o, .slice A kids.len c]) (by simp [results, Tryz.results62, go_sem, m0, m1, m2, m3]) rfl HRes.out
      · by_cases hr2 : r < 2
        · have t1 : decide ((r : Int) < 2) = true := by rw [decide_eq_true_eq]; omega
          go_wp2_with (fail)
          refine (HNm.out k1 d V w1 HG1'.out (by have := HKK.out.1; omega) hV0 hV1 hVd (by omega) hd1).mono ?_
          rintro e2 w2 hgp
          obtain ⟨q, o, t, kids, A, c, rfl, hN2, hres⟩ := hgp.pass (Z := zA d) (k := k) HG0.out HGB.out (by rw [HS1.out]; omega) (Int.le_refl V) HKK.out.1 HN1.out (fun n h => ⟨fun h0 => absurd h0 (by omega), h⟩)
          have HN2 := Lib.hid hN2
          have HRes := Lib.hid hres
          clear hgp hN2 hres
          obtain ⟨b0, b1, b2, b3, y0, y1, y2, y3⟩ := row4 HN2.out
          go_wp2_with (fail)
          obtain ⟨m0, m1, m2, m3, _⟩ := row4 (s4 HN2.out (.int .i64 q) (.string ⟨t.toArray⟩) (.int .i64 o) (.slice A kids.len c))
          exact bodyPost_ret (v := .agg #[.int .i64 q, .string ⟨t.toArray⟩, .int .i64 o, .slice A kids.len c]) (by simp [results, Tryz.results62, go_sem, m0, m1, m2, m3]) rfl HRes.out
        · have t1 : decide ((r : Int) < 2) = false := by rw [decide_eq_false_iff_not]; omega
          go_wp2_with (fail)
          refine (HNm.out k1 d V w1 HG1'.out (by have := HKK.out.1; omega) hV0 hV1 hVd (by omega) hd1).mono ?_
          rintro e2 w2 hgp
          obtain ⟨q, o, t, kids, A, c, rfl, hN2, hres⟩ := hgp.pass (Z := zA d) (k := k) HG0.out HGB.out (by rw [HS1.out]; omega) (Int.le_refl V) HKK.out.1 HN1.out (fun n h => ⟨fun h0 => absurd h0 (by omega), h⟩)
          have HN2 := Lib.hid hN2
          have HRes := Lib.hid hres
          clear hgp hN2 hres
          obtain ⟨b0, b1, b2, b3, y0, y1, y2, y3⟩ := row4 HN2.out
          go_wp2_with (fail)
          obtain ⟨m0, m1, m2, m3, _⟩ := row4 (s4 HN2.out (.int .i64 q) (.string ⟨t.toArray⟩) (.int .i64 o) (.slice A kids.len c))
          exact bodyPost_ret (v := .agg #[.int .i64 q, .string ⟨t.toArray⟩, .int .i64 o, .slice A kids.len c]) (by simp [results, Tryz.results62, go_sem, m0, m1, m2, m3]) rfl HRes.out
    · have t4 : decide ((r : Int) < 4) = false := by rw [decide_eq_false_iff_not]; omega
      have t1 : decide ((r : Int) < 2) = false := by rw [decide_eq_false_iff_not]; omega
      go_wp2_with (fail)
      refine (HT.out k1 (d - 1) 0 w1 HG1'.out (by have := HKK.out; omega) (by decide) (by decide) (by omega) (by omega) (by omega)).mono ?_
      rintro e2 w2 hgp
      obtain ⟨q, o, t, kids, A, c, rfl, hN2, hres⟩ := hgp.pass (Z := zA d) (k := k) HG0.out HGB.out (by rw [HS1.out]; omega) hV0 HKK.out.1 HN1.out (fun n h => ⟨fun h0 => absurd h0 (by omega), fun h1 => h (by omega)⟩)
      have HN2 := Lib.hid hN2
      have HRes := Lib.hid hres
      clear hgp hN2 hres
      obtain ⟨b0, b1, b2, b3, y0, y1, y2, y3⟩ := row4 HN2.out
      go_wp2_with (fail)
      obtain ⟨m0, m1, m2, m3, _⟩ := row4 (s4 HN2.out (.int .i64 q) (.string ⟨t.toArray⟩) (.int .i64 o) (.slice A kids.len c))
      exact bodyPost_ret (v := .agg #[.int .i64 q, .string ⟨t.toArray⟩, .int .i64 o, .slice A kids.len c]) (by simp [results, Tryz.results62, go_sem, m0, m1, m2, m3]) rfl HRes.out
end Go.Proofs.YtpkiheenkpcebaaGreatDoor
