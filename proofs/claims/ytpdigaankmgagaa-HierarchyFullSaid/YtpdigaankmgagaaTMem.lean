/- How a list of terms lies in memory: rows of four cells a term (kind, name, index, arguments), its arguments' row in another block. No condition. -/
import Derived.Test.YtpdigaankmgagaaMem
import Derived.Test.YtpdigaankmgagaaFs
set_option linter.unusedVariables false
set_option linter.unusedSimpArgs false
namespace Go.Proofs.Ytpdigaankmgagaa
open Go.RowKit Sx

def rowT (w : World) (S : Nat → Prop) : Fo → List Value → Prop
  | .nil, xs => xs = []
  | .cons k t kids o rest, xs => ∃ A c ys zs, xs = .int .i64 k :: .string ⟨t.toArray⟩ :: .int .i64 o :: .slice A kids.len c :: zs ∧ kids.len ≤ c ∧ readsAt w S A kids.len ys ∧ rowT w S kids ys ∧ rowT w S rest zs

/-- v is a slice that reads as the nodes f. -/
def sliceT (w : World) (S : Nat → Prop) (f : Fo) (v : Value) : Prop :=
  ∃ A c ys, v = .slice A f.len c ∧ f.len ≤ c ∧ readsAt w S A f.len ys ∧ rowT w S f ys

theorem rowT.keep {w w' : World} {S S' : Nat → Prop} (hs : w.heap.size ≤ w'.heap.size) (hk : ∀ x, S x → x < w.heap.size → w'.heap[x]? = w.heap[x]? ∧ S' x) (f : Fo) :
    ∀ xs, rowT w S f xs → rowT w' S' f xs := by
  induction f with
  | nil => intro xs h; exact h
  | cons k t kids o rest ih1 ih2 =>
    intro xs h
    obtain ⟨A, c, ys, zs, hx, hc, hr, hk1, hk2⟩ := h
    exact ⟨A, c, ys, zs, hx, hc, hr.keep hs hk, ih1 _ hk1, ih2 _ hk2⟩

theorem sliceT.keep {w w' : World} {S S' : Nat → Prop} {f : Fo} {v : Value} (h : sliceT w S f v) (hs : w.heap.size ≤ w'.heap.size) (hk : ∀ x, S x → x < w.heap.size → w'.heap[x]? = w.heap[x]? ∧ S' x) : sliceT w' S' f v := by
  obtain ⟨A, c, ys, hv, hc, hr, ho⟩ := h
  exact ⟨A, c, ys, hv, hc, hr.keep hs hk, ho.keep hs hk _⟩

theorem sliceT.drewN {w : World} {S : Nat → Prop} {f : Fo} {v : Value} (h : sliceT w S f v) (n : Nat) : sliceT (w.drewN n) S f v := h.keep (Nat.le_refl _) fun _ hx _ => ⟨rfl, hx⟩

theorem rowT.len {w : World} {S : Nat → Prop} (f : Fo) : ∀ xs, rowT w S f xs → xs.length = f.len * 4 := by
  induction f with
  | nil => intro xs h; rw [h]; rfl
  | cons k t kids o rest ih1 ih2 =>
    intro xs h
    obtain ⟨A, c, ys, zs, hx, hc, hr, hk1, hk2⟩ := h
    rw [hx]
    simp only [List.length_cons, ih2 _ hk2, Fo.len]
    omega

theorem rowT.app {w : World} {S : Nat → Prop} (f g : Fo) (ys : List Value) (hg : rowT w S g ys) : ∀ xs, rowT w S f xs → rowT w S (f.app g) (xs ++ ys) := by
  induction f with
  | nil => intro xs h; rw [h]; exact hg
  | cons k t kids o rest ih1 ih2 =>
    intro xs h
    obtain ⟨A, c, ys', zs, hx, hc, hr, hk1, hk2⟩ := h
    exact ⟨A, c, ys', zs ++ ys, by rw [hx]; rfl, hc, hr, hk1, ih2 _ hk2⟩

theorem rowT.one {w : World} {S : Nat → Prop} {k o : Int} {t : List UInt8} {kids : Fo} {A : Option Addr} {c : Nat} {ys : List Value} (hc : kids.len ≤ c) (hr : readsAt w S A kids.len ys) (hk : rowT w S kids ys) :
    rowT w S (.one k t kids o) [.int .i64 k, .string ⟨t.toArray⟩, .int .i64 o, .slice A kids.len c] :=
  ⟨A, c, ys, [], rfl, hc, hr, hk, rfl⟩

/-- An owned row of nodes is a slice that reads as them. -/
theorem own_sliceT {w : World} {base : Nat} {e : TypeId} {v : Value} {f : Fo} {xs : List Value} {S : Nat → Prop} (h : w.ownsRow base e 4 v f.len xs) (hr : rowT w S f xs) (hS : ∀ x, S x → base ≤ x) : sliceT w (fun x => base ≤ x) f v := by
  obtain ⟨A, c, rfl, hc⟩ := own_shape h
  refine ⟨A, c, xs, rfl, hc, ?_, hr.keep (Nat.le_refl _) (fun x hx _ => ⟨rfl, hS x hx⟩) _⟩
  intro hn
  rcases h.2 with ⟨hv, h0⟩ | ⟨g, cap, cur, hv, hb, hg, _⟩
  · omega
  · simp only [Value.slice.injEq] at hv
    obtain ⟨rfl, _, rfl⟩ := hv
    refine ⟨g, 0, rfl, hb, heap_lt hg, fun j u hu => ?_⟩
    have := h.cells (g := g) rfl j u hu
    rw [← this, Nat.zero_add]
    unfold Addr.add
    split
    · rename_i h; rw [h]
    · simp

/-- One node more is appended to an owned row. w: the call's world, wr: the round's, w1: behind the callee, w2: behind the append. -/
theorem push_rowT {w wr w1 w2 : World} {b : Nat} {acc kids : Fo} {xs ys : List Value} {v v' : Value} {k o : Int} {t : List UInt8} {A : Option Addr} {c : Nat} {ob : Obj} {e : TypeId}
    (hown : wr.ownsRow w.heap.size e 4 v acc.len xs) (hrow : rowT wr (fun x => w.heap.size ≤ x ∧ v.ownBlock ≠ some x) acc xs) (hb : b < w.heap.size) (hw : w.heap.size ≤ wr.heap.size)
    (hg1 : wr.grownBy w1 (some b)) (hc : kids.len ≤ c) (hr : readsAt w1 (fun x => wr.heap.size ≤ x) A kids.len ys) (hk : rowT w1 (fun x => wr.heap.size ≤ x) kids ys)
    (hg2 : (w1.alloc ob).grownBy w2 v.ownBlock) (hat : v'.ownBlock = v.ownBlock ∨ v'.ownBlock = some (w1.heap.size + 1)) :
    rowT w2 (fun x => w.heap.size ≤ x ∧ v'.ownBlock ≠ some x) (acc.app (.one k t kids o)) (xs ++ [.int .i64 k, .string ⟨t.toArray⟩, .int .i64 o, .slice A kids.len c]) := by
  have hs1 := hg1.size
  have hs2 := hg2.size
  have hsa : (w1.alloc ob).heap.size = w1.heap.size + 1 := by simp
  have hlt : ∀ x, v.ownBlock = some x → x < wr.heap.size := fun x hx => (hown.lt x hx).2
  have hne' : ∀ x, x < w1.heap.size → v.ownBlock ≠ some x → v'.ownBlock ≠ some x := by
    intro x hx hne he
    rcases hat with h | h
    · exact hne (h.symm.trans he)
    · rw [h] at he
      simp only [Option.some.injEq] at he
      omega
  have hto : ∀ x, x < w1.heap.size → v.ownBlock ≠ some x → w2.heap[x]? = w1.heap[x]? := fun x hx hne =>
    (hg2.block x (by omega) (fun e => hne e.symm)).trans (Below.heap_alloc w1 ob x hx)
  refine rowT.app _ _ _ (rowT.one hc (hr.keep (by omega) ?_) (hk.keep (by omega) ?_ _)) _ (hrow.keep (by omega) ?_ _)
  · intro x hx hl
    have hne : v.ownBlock ≠ some x := fun e => by have := hlt x e; omega
    exact ⟨hto x hl hne, by omega, hne' x hl hne⟩
  · intro x hx hl
    have hne : v.ownBlock ≠ some x := fun e => by have := hlt x e; omega
    exact ⟨hto x hl hne, by omega, hne' x hl hne⟩
  · rintro x ⟨hx, hne⟩ hl
    exact ⟨(hto x (by omega) hne).trans (hg1.block x hl (by simp; omega)), hx, hne' x (by omega) hne⟩

theorem rowT_start {w : World} {S : Nat → Prop} {A : Option Addr} {f : Fo} {xs : List Value} (hr : readsAt w S A f.len xs) (hx : rowT w S f xs) : rowAt w A 0 xs := by
  intro g off hA j u hu
  have hl := rowT.len f xs hx
  rcases Nat.eq_zero_or_pos f.len with h | h
  · rw [h] at hl
    rw [List.getElem?_eq_none (by omega)] at hu
    cases hu
  · obtain ⟨g', off', hA', _, _, hc⟩ := hr h
    rw [hA] at hA'
    cases hA'
    simpa using hc j u hu
end Go.Proofs.Ytpdigaankmgagaa
