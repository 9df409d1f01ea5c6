/- The specification's own reader of nodes: the same nodes or the same fault, for every text of at most 65536 bytes. -/
import Derived.Test.YtkndlbcmbfgoaaaRQuot
import Derived.Test.YtkndlbcmbfgoaaaMem
set_option linter.unusedVariables false
set_option linter.unusedSimpArgs false
namespace Go.Proofs.Ytkndlbcmbfgoaaa
open Go.RowKit Sx

theorem infoRNode : (Try.prog.info? 53).map (fun i => (i.zero, i.size, i.bytes)) = some (some (.agg #[.int .i64 0, .string ⟨#[]⟩, .slice none 0 0, .int .i64 0]), 4, 56) := by kernel_rfl

def RNodesPost (F b : Nat) (s : ByteArray) (p d : Nat) (w : World) (e : Ending) (w' : World) : Prop :=
  (∃ v f, e = .returned v ∧ sliceOf w' (fun x => w.heap.size ≤ x) f v ∧
   (match elems F d p (s.data.toList.drop p) with
    | .bad k a => ∃ q : Nat, q ≤ s.size + (41 - d) ∧ RA w' b s q k (a : Int)
    | .ok ns q => f = ns ∧ RA w' b s q 0 0)) ∧ w.grownBy w' (some b)

def RNodesSays (F : Nat) : Prop := ∀ (b : Nat) (s : ByteArray) (p d : Nat) (w : World), RA w b s p 0 0 → s.size ≤ 65536 → p ≤ s.size → d ≤ 40 → (s.data.toList.drop p).length < F →
  Calls Try.prog 18 #[.pointer (some ⟨b, 0, none⟩), .int .i64 (d : Int)] w (RNodesPost F b s p d w)

/-- what holds at every round's head, whatever has been found so far -/
def RNHead (b : Nat) (s : ByteArray) (w : World) (acc : Fo) (q : Nat) (k a : Int) (v : Value) (wr : World) : Prop :=
  ∃ xs, RA wr b s q k a ∧ w.grownBy wr (some b) ∧ wr.ownsRow w.heap.size 53 4 v acc.len xs ∧ rowOf wr (fun x => w.heap.size ≤ x ∧ v.ownBlock ≠ some x) acc xs

def RNodesRel (F b : Nat) (s : ByteArray) (p d : Nat) (w : World) (v : Value) (wr : World) : Prop :=
  (∃ (acc : Fo) (q f : Nat), RNHead b s w acc q 0 0 v wr ∧ p ≤ q ∧ q ≤ s.size ∧ f ≤ F ∧ (s.data.toList.drop q).length < f ∧ acc.len ≤ q - p ∧ (elems f d q (s.data.toList.drop q)).pre acc = elems F d p (s.data.toList.drop p)) ∨
  (∃ (acc : Fo) (q : Nat) (k : Int) (a : Nat), RNHead b s w acc q k (a : Int) v wr ∧ q ≤ s.size + (41 - d) ∧ elems F d p (s.data.toList.drop p) = .bad k a)

def measR (S : Nat) (w : World) (b : Nat) : Nat := match w.cell? ⟨b, 2, none⟩ with | some (.int _ n) => if n = 0 then S - posR w b + 1 else 0 | _ => 0
theorem measR_ok {w : World} {b : Nat} {s : ByteArray} {q : Nat} {o : Int} (h : RA w b s q 0 o) (S : Nat) : measR S w b = S - q + 1 := by
  unfold measR; rw [h.row.2.2.1, h.posR]; simp
theorem measR_bad {w : World} {b : Nat} {s : ByteArray} {q : Nat} {k o : Int} (h : RA w b s q k o) (hk : k ≠ 0) (S : Nat) : measR S w b = 0 := by
  unfold measR
  rw [h.row.2.2.1]
  simp [hk]

theorem rn_push {b q2 : Nat} {s : ByteArray} {w wr w2 w3 : World} {acc kids : Fo} {xs ys : List Value} {v v' : Value} {k ofs k' a' : Int} {t : List UInt8} {A : Option Addr} {c : Nat} {ob : Obj}
    (hb : b < w.heap.size) (hg : w.grownBy wr (some b))
    (hown : wr.ownsRow w.heap.size 53 4 v acc.len xs) (hrow : rowOf wr (fun x => w.heap.size ≤ x ∧ v.ownBlock ≠ some x) acc xs) (hgb : wr.grownBy w2 (some b)) (hR2 : RA w2 b s q2 k' a')
    (hc : kids.len ≤ c) (hr : readsAt w2 (fun x => wr.heap.size ≤ x) A kids.len ys) (hk : rowOf w2 (fun x => wr.heap.size ≤ x) kids ys)
    (hown3 : w3.ownsRow w.heap.size 53 4 v' (acc.len + 1) (xs ++ [.int .i64 k, .string ⟨t.toArray⟩, .slice A kids.len c, .int .i64 ofs]))
    (hg3 : (w2.alloc ob).grownBy w3 v.ownBlock) (hat : v'.ownBlock = v.ownBlock ∨ v'.ownBlock = some (w2.heap.size + 1)) :
    RNHead b s w (acc.app (.one k t kids ofs)) q2 k' a' v' w3 := by
  have hs2 := hgb.size
  have hs := hg.size
  have hne : some b ≠ v.ownBlock := fun e => by have := (hown.lt b e.symm).1; omega
  have hlt := hR2.lt
  have hR3 : RA w3 b s q2 k' a' := (hR2.alloc ob).kept (hg3.block b (by simp; omega) hne)
  refine ⟨_, hR3, gb_new (gb_alloc (gb_trans hg hgb) ob) hg3 (fun g h => (hown.lt g h).1), ?_, push_row hown hrow hb hs hgb hc hr hk hg3 hat⟩
  rw [Fo.len_app]
  exact hown3

theorem rn_done {F b : Nat} {s : ByteArray} {p d : Nat} {w : World} {v : Value} {wr : World} {acc : Fo} {q : Nat} {k a : Int} (h : RNHead b s w acc q k a v wr)
    (hm : match elems F d p (s.data.toList.drop p) with
    | .bad k' a' => ∃ q : Nat, q ≤ s.size + (41 - d) ∧ RA wr b s q k' (a' : Int)
    | .ok ns q => acc = ns ∧ RA wr b s q 0 0) : RNodesPost F b s p d w (.returned v) wr := by
  obtain ⟨xs, hR, hg, hown, hrow⟩ := h
  exact ⟨⟨v, acc, rfl, own_slice hown hrow (fun x hx => hx.1), hm⟩, hg⟩

theorem RNHead.keep {b : Nat} {s : ByteArray} {w : World} {acc : Fo} {q q' : Nat} {k a k' a' : Int} {v : Value} {wr w1 : World} (h : RNHead b s w acc q k a v wr) (hb : b < w.heap.size) (hg1 : wr.grownBy w1 (some b)) (hR : RA w1 b s q' k' a') : RNHead b s w acc q' k' a' v w1 := by
  obtain ⟨xs, _, hg, hown, hrow⟩ := h
  have hw := hg.size
  refine ⟨xs, hR, gb_trans hg hg1, hown.kept hg1 ?_, hrow.keep hg1.size (fun x hx hl => ⟨hg1.block x hl (by simp; omega), hx⟩) _⟩
  cases hv : v.ownBlock with
  | none => exact .inl rfl
  | some x => exact .inr (by have := (hown.lt x hv).1; simp; omega)

theorem RNHead.drewN {b : Nat} {s : ByteArray} {w : World} {acc : Fo} {q : Nat} {k a : Int} {v : Value} {wr : World} (h : RNHead b s w acc q k a v wr) (hb : b < w.heap.size) (n : Nat) : RNHead b s w acc q k a v (wr.drewN n) :=
  h.keep hb (gb_drewN (World.grownBy.refl _ _) _) h.choose_spec.1

theorem of_beq {n m : Int} (h : (n == m) = true) : n = m := by simpa using h
theorem wordB_41 {n : Int} (h : (n == 41) = true) : wordB n = false := by rw [of_beq h]; decide
theorem ne_34_41 {n : Int} (h : (n == 41) = true) : (n == 34) = false := by rw [of_beq h]; decide
theorem ne_40_41 {n : Int} (h : (n == 41) = true) : (n == 40) = false := by rw [of_beq h]; decide
theorem wordB_34 {n : Int} (h : (n == 34) = true) : wordB n = false := by rw [of_beq h]; decide
theorem cells_new' {w : World} {n : Nat} (hn : w.heap.size = n) {cs : List Value} {t : TypeId} : ∀ j u, cs[j]? = some u → (w.alloc (.cells cs.toArray t)).cell? ((⟨n, 0, none⟩ : Addr).add j) = some u := by
  subst hn
  exact cells_new w cs t

theorem rdrop_skip (s : ByteArray) (q : Nat) : (s.data.toList.drop q).drop (skipN false (s.data.toList.drop q)) = s.data.toList.drop (q + skipN false (s.data.toList.drop q)) := by rw [List.drop_drop]

theorem rskip_le (s : ByteArray) (q : Nat) (hq : q ≤ s.size) : q + skipN false (s.data.toList.drop q) ≤ s.size := by
  have := skipN_le false (s.data.toList.drop q)
  rw [drop_len] at this
  omega
end Go.Proofs.Ytkndlbcmbfgoaaa
