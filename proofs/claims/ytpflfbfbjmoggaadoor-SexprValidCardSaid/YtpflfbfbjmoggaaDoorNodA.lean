/- telmake.Node: what holds between two rounds. No condition. -/
import Derived.Test.YtpflfbfbjmoggaaDoorAnyA
import Derived.Deep.RegionLaw
import Derived.Deep.AppendLies
set_option linter.unusedVariables false
set_option linter.unusedSimpArgs false
namespace Go.Proofs.YtpflfbfbjmoggaaDoor
open Go.RowKit Sx

theorem infoSNode : (Tryd.prog.info? 31).map (fun i => (i.zero, i.size, i.bytes)) = some (some (.agg #[.int .i64 0, .string ⟨#[]⟩, .slice none 0 0, .int .i64 0]), 4, 56) := by kernel_rfl

def NodePost (k o : Int) (t : List UInt8) (kids : Fo) (w : World) (e : Ending) (w' : World) : Prop :=
  ∃ (A : Option Addr) (c : Nat) (ys : List Value), e = .returned (.agg #[.int .i64 k, .string ⟨t.toArray⟩, .slice A kids.len c, .int .i64 o]) ∧ kids.len ≤ c ∧ readsAt w' (fun x => w.heap.size ≤ x) A kids.len ys ∧ rowOf w' (fun x => w.heap.size ≤ x) kids ys ∧ Below w.heap.size w w'

/-- between two rounds: the argument's block, the result's, the node's own -/
structure NRnd (w w3 wr : World) (k o : Int) (t : List UInt8) (vk : Value) (v : Value) (acc : Fo) (xs : List Value) : Prop where
  bel : Below w.heap.size w wr
  blkB : wr.heap[w.heap.size]? = some (.cells #[.int .i64 k, .string ⟨t.toArray⟩, vk, .int .i64 o] 39 (0, 0))
  blkR : wr.heap[w.heap.size + 1]? = some (.cells #[.int .i64 0, .string ⟨#[]⟩, .slice none 0 0, .int .i64 0] 31 (0, 0))
  blkM : wr.heap[w.heap.size + 2]? = some (.cells #[.int .i64 k, .string ⟨t.toArray⟩, v, .int .i64 o] 31 (0, 0))
  own : wr.ownsRow w3.heap.size 31 4 v acc.len xs
  row : rowOf wr (fun x => w3.heap.size ≤ x ∧ v.ownBlock ≠ some x) acc xs
  size : w3.heap.size ≤ wr.heap.size
  size3 : w3.heap.size = w.heap.size + 3

structure NAfter (w w3 wr w4 : World) (k o : Int) (t : List UInt8) (vk : Value) (v : Value) (acc : Fo) (xs : List Value) (k1 o1 : Int) (t1 : List UInt8) (kids1 : Fo) (A : Option Addr) (c : Nat) (ys : List Value) : Prop where
  rnd : NRnd w w3 w4 k o t vk v acc xs
  rnd0 : NRnd w w3 wr k o t vk v acc xs
  bel : Below wr.heap.size wr w4
  cap_ : kids1.len ≤ c
  rd : readsAt w4 (fun x => wr.heap.size ≤ x) A kids1.len ys
  rw_ : rowOf w4 (fun x => wr.heap.size ≤ x) kids1 ys

section
variable {w w3 wr w4 : World} {k o : Int} {t : List UInt8} {vk v : Value} {acc : Fo} {xs : List Value} {k1 o1 : Int} {t1 : List UInt8} {kids1 : Fo} {A : Option Addr} {c : Nat} {ys : List Value}

theorem NRnd.after (h : NRnd w w3 wr k o t vk v acc xs) (hg : Below wr.heap.size wr w4) : NRnd w w3 w4 k o t vk v acc xs := by
  have hs := h.size
  have h3 := h.size3
  refine ⟨h.bel.trans (hg.mono (by omega)), (hg.block _ (by omega)).trans h.blkB, (hg.block _ (by omega)).trans h.blkR, (hg.block _ (by omega)).trans h.blkM, h.own.kept (row := none) (gb_below hg _) (by cases hv : v.ownBlock <;> simp), ?_, Nat.le_trans h.size hg.size, h3⟩
  exact h.row.keep hg.size (fun x hx hl => ⟨hg.block x hl, hx⟩) _

theorem NRnd.to_after (h : NRnd w w3 wr k o t vk v acc xs) (hg : Below wr.heap.size wr w4) (hc : kids1.len ≤ c) (hr : readsAt w4 (fun x => wr.heap.size ≤ x) A kids1.len ys) (hk : rowOf w4 (fun x => wr.heap.size ≤ x) kids1 ys) :
    NAfter w w3 wr w4 k o t vk v acc xs k1 o1 t1 kids1 A c ys := ⟨h.after hg, h, hg, hc, hr, hk⟩

theorem NAfter.cell (h : NAfter w w3 wr w4 k o t vk v acc xs k1 o1 t1 kids1 A c ys) {ob : Obj} {w5 : World} (hg : (w4.alloc ob).grownBy w5 v.ownBlock) :
    w5.heap[w.heap.size + 2]? = some (.cells #[.int .i64 k, .string ⟨t.toArray⟩, v, .int .i64 o] 31 (0, 0)) := by
  have hs := h.rnd.size
  have h3 := h.rnd.size3
  refine (hg.block _ (by simp; omega) ?_).trans ((Below.heap_alloc w4 ob _ (by omega)).trans h.rnd.blkM)
  intro e
  have := (h.rnd.own.lt _ e.symm).1
  omega

theorem NAfter.done (h : NAfter w w3 wr w4 k o t vk v acc xs k1 o1 t1 kids1 A c ys) {ob : Obj} {w5 : World} {gg cap' : Nat} (hg : (w4.alloc ob).grownBy w5 v.ownBlock) (hat : v.ownBlock = some gg ∨ gg = w4.heap.size + 1)
    (hown : w5.ownsRow w3.heap.size 31 4 (.slice (some ⟨gg, 0, none⟩) (acc.len + 1) cap') (acc.len + 1) (xs ++ [.int .i64 k1, .string ⟨t1.toArray⟩, .slice A kids1.len c, .int .i64 o1])) :
    NRnd w w3 (w5.setCell ⟨w.heap.size + 2, 2, none⟩ (.slice (some ⟨gg, 0, none⟩) (acc.len + 1) cap')) k o t vk (.slice (some ⟨gg, 0, none⟩) (acc.len + 1) cap') (acc.app (.one k1 t1 kids1 o1)) (xs ++ [.int .i64 k1, .string ⟨t1.toArray⟩, .slice A kids1.len c, .int .i64 o1]) := by
  have hs4 := h.rnd.size
  have h3 := h.rnd.size3
  have hs0 := h.rnd0.size
  have hs5 := hg.size
  have hs5' : (w4.alloc ob).heap.size = w4.heap.size + 1 := by simp
  have hM5 := h.cell hg
  have hne : ∀ x, x < w3.heap.size → some x ≠ v.ownBlock := fun x hx e => by have := (h.rnd.own.lt x e.symm).1; omega
  have hgg := (hown.lt gg rfl).1
  have hset := heap_set (i := 2) hM5 (.slice (some ⟨gg, 0, none⟩) (acc.len + 1) cap')
  have hkeep : ∀ x, x < w3.heap.size → x ≠ w.heap.size + 2 → (w5.setCell ⟨w.heap.size + 2, 2, none⟩ (.slice (some ⟨gg, 0, none⟩) (acc.len + 1) cap')).heap[x]? = w4.heap[x]? := fun x hx hxM =>
    (heap_far hxM _).trans ((hg.block x (by omega) (hne x hx)).trans (Below.heap_alloc w4 ob x (by omega)))
  have hrow5 := push_row (w := w3) (b := w.heap.size) h.rnd0.own h.rnd0.row (by omega) hs0 (gb_below h.bel _) h.cap_ h.rd h.rw_ (o := o1) (k := k1) (t := t1) hg (v' := .slice (some ⟨gg, 0, none⟩) (acc.len + 1) cap') (by
    rcases hat with e | e
    · exact .inl e.symm
    · exact .inr (by simp [Value.ownBlock, e]))
  have hbel := h.rnd.bel
  refine ⟨?_, ?_, ?_, hset, ?_, ?_, ?_, h3⟩
  · exact ⟨hg.os.trans hbel.os, hg.tape.trans hbel.tape, hg.output.trans hbel.output, by simp [size_set]; have := hbel.size; omega, fun x hx => (hkeep x (by omega) (by omega)).trans (hbel.block x hx)⟩
  · exact (hkeep _ (by omega) (by omega)).trans h.rnd.blkB
  · exact (hkeep _ (by omega) (by omega)).trans h.rnd.blkR
  · rw [Fo.len_app]
    exact hown.kept (row := some (w.heap.size + 2)) (gb_setCell (World.grownBy.refl _ _) (.inl rfl) _) (.inr (by simp [Value.ownBlock]; omega))
  · exact hrow5.keep (by simp [size_set]) (fun x hx hl => ⟨heap_far (show x ≠ w.heap.size + 2 from by have : w3.heap.size ≤ x := hx.1; omega) _, hx⟩) _
  · simp [size_set]; omega

theorem NRnd.out {A5 : Option Addr} {c5 : Nat} (h : NRnd w w3 wr k o t vk (.slice A5 acc.len c5) acc xs) :
    NodePost k o t acc w (.returned (.agg #[.int .i64 k, .string ⟨t.toArray⟩, .slice A5 acc.len c5, .int .i64 o]))
      ((((wr.setCell ⟨w.heap.size + 1, 0, none⟩ (.int .i64 k)).setCell ⟨w.heap.size + 1, 1, none⟩ (.string ⟨t.toArray⟩)).setCell ⟨w.heap.size + 1, 2, none⟩ (.slice A5 acc.len c5)).setCell ⟨w.heap.size + 1, 3, none⟩ (.int .i64 o)) := by
  have hsl := own_slice h.own h.row (fun x hx => hx.1)
  obtain ⟨A, c, ys, hv, hc, hr, ho⟩ := hsl
  simp only [Value.slice.injEq, true_and] at hv
  obtain ⟨rfl, rfl⟩ := hv
  have hs := h.size
  have h3 := h.size3
  have hbel := h.bel
  have hS : wr.heap.size ≤ ((((wr.setCell ⟨w.heap.size + 1, 0, none⟩ (.int .i64 k)).setCell ⟨w.heap.size + 1, 1, none⟩ (.string ⟨t.toArray⟩)).setCell ⟨w.heap.size + 1, 2, none⟩ (.slice A5 acc.len c5)).setCell ⟨w.heap.size + 1, 3, none⟩ (.int .i64 o)).heap.size := by simp [size_set]
  have hk : ∀ x, w3.heap.size ≤ x → x < wr.heap.size → ((((wr.setCell ⟨w.heap.size + 1, 0, none⟩ (.int .i64 k)).setCell ⟨w.heap.size + 1, 1, none⟩ (.string ⟨t.toArray⟩)).setCell ⟨w.heap.size + 1, 2, none⟩ (.slice A5 acc.len c5)).setCell ⟨w.heap.size + 1, 3, none⟩ (.int .i64 o)).heap[x]? = wr.heap[x]? ∧ w.heap.size ≤ x :=
    fun x hx _ => ⟨far4 (by omega) _ _ _ _, by omega⟩
  refine ⟨A5, c5, ys, rfl, hc, hr.keep hS hk, ho.keep hS hk _, ?_⟩
  exact (((hbel.setCell (by simp) _).setCell (by simp) _).setCell (by simp) _).setCell (by simp) _
end
end Go.Proofs.YtpflfbfbjmoggaaDoor
