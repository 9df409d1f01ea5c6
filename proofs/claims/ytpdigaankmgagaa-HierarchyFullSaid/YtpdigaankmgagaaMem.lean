/- How a list of nodes lies in memory: rows of four cells a node, its children's row in another block. No condition. -/
import Derived.Test.YtpdigaankmgagaaUtil
import Derived.Test.YtpdigaankmgagaaSp
import Derived.Maps.AppendAt
set_option linter.unusedVariables false
set_option linter.unusedSimpArgs false
namespace Go.Proofs.Ytpdigaankmgagaa
open Go.RowKit Sx

/-- n rows of cells ys lie at A, in a block of S (if there is one at all). -/
def readsAt (w : World) (S : Nat → Prop) (A : Option Addr) (n : Nat) (ys : List Value) : Prop :=
  0 < n → ∃ g off : Nat, A = some ⟨g, off, none⟩ ∧ S g ∧ g < w.heap.size ∧ ∀ j u, ys[j]? = some u → w.cell? ⟨g, off + j, none⟩ = some u

def rowOf (w : World) (S : Nat → Prop) : Fo → List Value → Prop
  | .nil, xs => xs = []
  | .cons k t kids o rest, xs => ∃ A c ys zs, xs = .int .i64 k :: .string ⟨t.toArray⟩ :: .slice A kids.len c :: .int .i64 o :: zs ∧ kids.len ≤ c ∧ readsAt w S A kids.len ys ∧ rowOf w S kids ys ∧ rowOf w S rest zs

/-- v is a slice that reads as the nodes f. -/
def sliceOf (w : World) (S : Nat → Prop) (f : Fo) (v : Value) : Prop :=
  ∃ A c ys, v = .slice A f.len c ∧ f.len ≤ c ∧ readsAt w S A f.len ys ∧ rowOf w S f ys

theorem blk_add (a : Addr) (n : Nat) : (a.add n).block = a.block := by unfold Addr.add; split <;> rfl

theorem readsAt.keep {w w' : World} {S S' : Nat → Prop} {A : Option Addr} {n : Nat} {ys : List Value} (h : readsAt w S A n ys) (hs : w.heap.size ≤ w'.heap.size)
    (hk : ∀ x, S x → x < w.heap.size → w'.heap[x]? = w.heap[x]? ∧ S' x) : readsAt w' S' A n ys := by
  intro hn
  obtain ⟨g, off, hA, hS, hlt, hc⟩ := h hn
  obtain ⟨h1, h2⟩ := hk _ hS hlt
  exact ⟨g, off, hA, h2, by omega, fun j u hu => (World.cell?_of_block h1).trans (hc j u hu)⟩

theorem rowOf.keep {w w' : World} {S S' : Nat → Prop} (hs : w.heap.size ≤ w'.heap.size) (hk : ∀ x, S x → x < w.heap.size → w'.heap[x]? = w.heap[x]? ∧ S' x) (f : Fo) :
    ∀ xs, rowOf w S f xs → rowOf w' S' f xs := by
  induction f with
  | nil => intro xs h; exact h
  | cons k t kids o rest ih1 ih2 =>
    intro xs h
    obtain ⟨A, c, ys, zs, hx, hc, hr, hk1, hk2⟩ := h
    exact ⟨A, c, ys, zs, hx, hc, hr.keep hs hk, ih1 _ hk1, ih2 _ hk2⟩

theorem sliceOf.keep {w w' : World} {S S' : Nat → Prop} {f : Fo} {v : Value} (h : sliceOf w S f v) (hs : w.heap.size ≤ w'.heap.size) (hk : ∀ x, S x → x < w.heap.size → w'.heap[x]? = w.heap[x]? ∧ S' x) : sliceOf w' S' f v := by
  obtain ⟨A, c, ys, hv, hc, hr, ho⟩ := h
  exact ⟨A, c, ys, hv, hc, hr.keep hs hk, ho.keep hs hk _⟩

theorem sliceOf.drewN {w : World} {S : Nat → Prop} {f : Fo} {v : Value} (h : sliceOf w S f v) (n : Nat) : sliceOf (w.drewN n) S f v := h.keep (Nat.le_refl _) fun _ hx _ => ⟨rfl, hx⟩

theorem rowOf.len {w : World} {S : Nat → Prop} (f : Fo) : ∀ xs, rowOf w S f xs → xs.length = f.len * 4 := by
  induction f with
  | nil => intro xs h; rw [h]; rfl
  | cons k t kids o rest ih1 ih2 =>
    intro xs h
    obtain ⟨A, c, ys, zs, hx, hc, hr, hk1, hk2⟩ := h
    rw [hx]
    simp only [List.length_cons, ih2 _ hk2, Fo.len]
    omega

theorem rowOf.app {w : World} {S : Nat → Prop} (f g : Fo) (ys : List Value) (hg : rowOf w S g ys) : ∀ xs, rowOf w S f xs → rowOf w S (f.app g) (xs ++ ys) := by
  induction f with
  | nil => intro xs h; rw [h]; exact hg
  | cons k t kids o rest ih1 ih2 =>
    intro xs h
    obtain ⟨A, c, ys', zs, hx, hc, hr, hk1, hk2⟩ := h
    exact ⟨A, c, ys', zs ++ ys, by rw [hx]; rfl, hc, hr, hk1, ih2 _ hk2⟩

theorem rowOf.one {w : World} {S : Nat → Prop} {k o : Int} {t : List UInt8} {kids : Fo} {A : Option Addr} {c : Nat} {ys : List Value} (hc : kids.len ≤ c) (hr : readsAt w S A kids.len ys) (hk : rowOf w S kids ys) :
    rowOf w S (.one k t kids o) [.int .i64 k, .string ⟨t.toArray⟩, .slice A kids.len c, .int .i64 o] :=
  ⟨A, c, ys, [], rfl, hc, hr, hk, rfl⟩

theorem readsAt.none_ (w : World) (S : Nat → Prop) : readsAt w S none 0 [] := fun h => absurd h (by omega)

theorem own_shape {w : World} {base : Nat} {e : TypeId} {size : Nat} {v : Value} {n : Nat} {xs : List Value} (h : w.ownsRow base e size v n xs) : ∃ A c, v = .slice A n c ∧ n ≤ c := by
  rcases h.2 with ⟨rfl, rfl⟩ | ⟨g, cap, cur, rfl, _, _, hnc, _⟩
  · exact ⟨none, 0, rfl, Nat.le_refl _⟩
  · exact ⟨_, cap, rfl, hnc⟩

/-- An owned row of nodes is a slice that reads as them. -/
theorem own_slice {w : World} {base : Nat} {e : TypeId} {v : Value} {f : Fo} {xs : List Value} {S : Nat → Prop} (h : w.ownsRow base e 4 v f.len xs) (hr : rowOf w S f xs) (hS : ∀ x, S x → base ≤ x) : sliceOf w (fun x => base ≤ x) f v := by
  obtain ⟨A, c, rfl, hc⟩ := own_shape h
  refine ⟨A, c, xs, rfl, hc, ?_, hr.keep (Nat.le_refl _) (fun x hx _ => ⟨rfl, hS x hx⟩) _⟩
  intro hn
  rcases h.2 with ⟨hv, h0⟩ | ⟨g, cap, cur, hv, hb, hg, _⟩
  · omega
  · simp only [Value.slice.injEq] at hv
    obtain ⟨rfl, _, rfl⟩ := hv
    refine ⟨g, 0, rfl, hb, heap_lt hg, fun j u hu => ?_⟩
    have := h.cells (g := g) rfl j u hu
    rw [← this, Nat.zero_add]
    unfold Addr.add
    split
    · rename_i h; rw [h]
    · simp

theorem cells_new (w : World) (cs : List Value) (t : TypeId) : ∀ j u, cs[j]? = some u → (w.alloc (.cells cs.toArray t)).cell? ((⟨w.heap.size, 0, none⟩ : Addr).add j) = some u := by
  intro j u hu
  have e : ((⟨w.heap.size, 0, none⟩ : Addr).add j) = ⟨w.heap.size, j, none⟩ := by
    unfold Addr.add
    split
    · rename_i h; rw [h]
    · simp
  rw [e, cell_of_row _ _ j _ _ _ (heap_alloc_new w _)]
  simpa using hu

/-- One node more is appended to an owned row. w: the call's world, wr: the round's, w1: behind the callee, w2: behind the append. -/
theorem push_row {w wr w1 w2 : World} {b : Nat} {acc kids : Fo} {xs ys : List Value} {v v' : Value} {k o : Int} {t : List UInt8} {A : Option Addr} {c : Nat} {ob : Obj} {e : TypeId}
    (hown : wr.ownsRow w.heap.size e 4 v acc.len xs) (hrow : rowOf wr (fun x => w.heap.size ≤ x ∧ v.ownBlock ≠ some x) acc xs) (hb : b < w.heap.size) (hw : w.heap.size ≤ wr.heap.size)
    (hg1 : wr.grownBy w1 (some b)) (hc : kids.len ≤ c) (hr : readsAt w1 (fun x => wr.heap.size ≤ x) A kids.len ys) (hk : rowOf w1 (fun x => wr.heap.size ≤ x) kids ys)
    (hg2 : (w1.alloc ob).grownBy w2 v.ownBlock) (hat : v'.ownBlock = v.ownBlock ∨ v'.ownBlock = some (w1.heap.size + 1)) :
    rowOf w2 (fun x => w.heap.size ≤ x ∧ v'.ownBlock ≠ some x) (acc.app (.one k t kids o)) (xs ++ [.int .i64 k, .string ⟨t.toArray⟩, .slice A kids.len c, .int .i64 o]) := by
  have hs1 := hg1.size
  have hs2 := hg2.size
  have hsa : (w1.alloc ob).heap.size = w1.heap.size + 1 := by simp
  have hlt : ∀ x, v.ownBlock = some x → x < wr.heap.size := fun x hx => (hown.lt x hx).2
  have hne' : ∀ x, x < w1.heap.size → v.ownBlock ≠ some x → v'.ownBlock ≠ some x := by
    intro x hx hne he
    rcases hat with h | h
    · exact hne (h.symm.trans he)
    · rw [h] at he
      simp only [Option.some.injEq] at he
      omega
  have hto : ∀ x, x < w1.heap.size → v.ownBlock ≠ some x → w2.heap[x]? = w1.heap[x]? := fun x hx hne =>
    (hg2.block x (by omega) (fun e => hne e.symm)).trans (Below.heap_alloc w1 ob x hx)
  refine rowOf.app _ _ _ (rowOf.one hc (hr.keep (by omega) ?_) (hk.keep (by omega) ?_ _)) _ (hrow.keep (by omega) ?_ _)
  · intro x hx hl
    have hne : v.ownBlock ≠ some x := fun e => by have := hlt x e; omega
    exact ⟨hto x hl hne, by omega, hne' x hl hne⟩
  · intro x hx hl
    have hne : v.ownBlock ≠ some x := fun e => by have := hlt x e; omega
    exact ⟨hto x hl hne, by omega, hne' x hl hne⟩
  · rintro x ⟨hx, hne⟩ hl
    exact ⟨(hto x (by omega) hne).trans (hg1.block x hl (by simp; omega)), hx, hne' x (by omega) hne⟩

end Go.Proofs.Ytpdigaankmgagaa
