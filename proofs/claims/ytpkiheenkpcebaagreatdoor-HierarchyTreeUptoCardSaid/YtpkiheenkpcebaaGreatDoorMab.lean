/- More small facts on worlds: blocks known whole. No condition. The size of a list of nodes with all that hang under them; cells of a row. No condition. How a list of terms lies in memory: rows of four cells a term (kind, name, index, arguments), its arguments' row in another block. No condition. A term's arguments in memory: what is read of them, argument by argument. No condition. Depth, free and bound variables, pure. No condition. typeterm.isFree, bodiesAround, isClosed. No condition but a bounded size. -/
import Derived.Test.YtpkiheenkpcebaaGreatDoorMaa
import Derived.Deep.RegionHeld3
import Derived.Deep.DeepCutAuto
set_option linter.unusedVariables false
set_option linter.unusedSimpArgs false
namespace Go.Proofs.YtpkiheenkpcebaaGreatDoor
open Go.RowKit

theorem row1 {w : World} {g : Nat} {t : TypeId} {x : Value} (h : w.heap[g]? = some (.cells #[x] t (0, 0))) :
    w.cell? ⟨g, 0, none⟩ = some x ∧ w.frozen? ⟨g, 0, none⟩ = false := ⟨cell_of_row w g 0 _ _ _ h, by simp [World.frozen?, h]⟩
theorem row2 {w : World} {g : Nat} {t : TypeId} {x y : Value} (h : w.heap[g]? = some (.cells #[x, y] t (0, 0))) :
    w.cell? ⟨g, 0, none⟩ = some x ∧ w.cell? ⟨g, 1, none⟩ = some y ∧ w.frozen? ⟨g, 0, none⟩ = false ∧ w.frozen? ⟨g, 1, none⟩ = false :=
  ⟨cell_of_row w g 0 _ _ _ h, cell_of_row w g 1 _ _ _ h, by simp [World.frozen?, h], by simp [World.frozen?, h]⟩
theorem heap_set {w : World} {g i : Nat} {cs : Array Value} {t : TypeId} (h : w.heap[g]? = some (.cells cs t (0, 0))) (u : Value) : (w.setCell ⟨g, i, none⟩ u).heap[g]? = some (.cells (cs.setIfInBounds i u) t (0, 0)) := by
  simp [World.setCell, Array.getElem?_modify, h]
theorem heap_far {w : World} {g : Nat} {p : Addr} (hp : g ≠ p.block) (u : Value) : (w.setCell p u).heap[g]? = w.heap[g]? := Below.heap_setCell w p u g hp
/-- The world under a name: only what F says of it is kept. -/
theorem gen_wp {P : Program} {c : Code} {Q : Exit → Act → World → Prop} {a : Act} (w : World) (F : World → Prop) (h : F w) (H : ∀ W, F W → c.wp P Q a W) : c.wp P Q a w := H w h
end Go.Proofs.YtpkiheenkpcebaaGreatDoor
namespace Go.Proofs.YtpkiheenkpcebaaGreatDoor
open Go.RowKit Sx

theorem wrap64_in {x : Int} (h0 : -9223372036854775808 ≤ x) (h1 : x ≤ 9223372036854775807) : wrap64 x = x := by
  unfold wrap64
  omega

def fsize : Fo → Nat
  | .nil => 0
  | .cons _ _ kids _ rest => fsize kids + fsize rest + 1
theorem len_le_fsize (f : Fo) : f.len ≤ fsize f := by
  induction f with
  | nil => simp [Fo.len]
  | cons k t kids o r _ ih => simp only [Fo.len, fsize]; omega

def cellsAt (w : World) (g off : Nat) (xs : List Value) : Prop := ∀ j u, xs[j]? = some u → w.cell? ⟨g, off + j, none⟩ = some u
def dep : Fo → Nat
  | .nil => 0
  | .cons k _ kids _ rest => max (dep kids + (if k = 3 then 1 else 0)) (dep rest)
theorem dep_le (f : Fo) : dep f ≤ fsize f := by
  induction f with
  | nil => simp [dep]
  | cons k t kids o r ih1 ih2 => simp only [dep, fsize]; split <;> omega

/-- the cells of a slice, said for whatever address it has -/
def rowAt (w : World) (A : Option Addr) (i : Nat) (xs : List Value) : Prop := ∀ g off, A = some ⟨g, off, none⟩ → cellsAt w g (off + i * 4) xs

theorem rowAt_start {w : World} {S : Nat → Prop} {A : Option Addr} {f : Fo} {xs : List Value} (hr : readsAt w S A f.len xs) (hx : rowOf w S f xs) : rowAt w A 0 xs := by
  intro g off hA j u hu
  have hl := rowOf.len f xs hx
  rcases Nat.eq_zero_or_pos f.len with h | h
  · rw [h] at hl
    rw [List.getElem?_eq_none (by omega)] at hu
    cases hu
  · obtain ⟨g', off', hA', _, _, hc⟩ := hr h
    rw [hA] at hA'
    cases hA'
    simpa using hc j u hu
theorem rowAt_next {w : World} {A : Option Addr} {i : Nat} {a b c d : Value} {zs : List Value} (h : rowAt w A i (a :: b :: c :: d :: zs)) : rowAt w A (i + 1) zs := by
  intro g off hA j u hu
  have := h g off hA (4 + j) u (by rw [show 4 + j = j + 4 from by omega]; exact hu)
  rw [show off + (i + 1) * 4 + j = off + i * 4 + (4 + j) from by omega]
  exact this

theorem sliceOf.below {w w' : World} {S : Nat → Prop} {f : Fo} {v : Value} (h : sliceOf w S f v) (hb : Below w.heap.size w w') : sliceOf w' S f v := h.keep hb.size fun x hx hl => ⟨hb.block x hl, hx⟩
end Go.Proofs.YtpkiheenkpcebaaGreatDoor
namespace Go.Proofs.YtpkiheenkpcebaaGreatDoor
open Go.RowKit Sx

def rowT (w : World) (S : Nat → Prop) : Fo → List Value → Prop
  | .nil, xs => xs = []
  | .cons k t kids o rest, xs => ∃ A c ys zs, xs = .int .i64 k :: .string ⟨t.toArray⟩ :: .int .i64 o :: .slice A kids.len c :: zs ∧ kids.len ≤ c ∧ readsAt w S A kids.len ys ∧ rowT w S kids ys ∧ rowT w S rest zs

/-- v is a slice that reads as the nodes f. -/
def sliceT (w : World) (S : Nat → Prop) (f : Fo) (v : Value) : Prop :=
  ∃ A c ys, v = .slice A f.len c ∧ f.len ≤ c ∧ readsAt w S A f.len ys ∧ rowT w S f ys

theorem rowT.keep {w w' : World} {S S' : Nat → Prop} (hs : w.heap.size ≤ w'.heap.size) (hk : ∀ x, S x → x < w.heap.size → w'.heap[x]? = w.heap[x]? ∧ S' x) (f : Fo) :
    ∀ xs, rowT w S f xs → rowT w' S' f xs := by
  induction f with
  | nil => intro xs h; exact h
  | cons k t kids o rest ih1 ih2 =>
    intro xs h
    obtain ⟨A, c, ys, zs, hx, hc, hr, hk1, hk2⟩ := h
    exact ⟨A, c, ys, zs, hx, hc, hr.keep hs hk, ih1 _ hk1, ih2 _ hk2⟩

theorem sliceT.keep {w w' : World} {S S' : Nat → Prop} {f : Fo} {v : Value} (h : sliceT w S f v) (hs : w.heap.size ≤ w'.heap.size) (hk : ∀ x, S x → x < w.heap.size → w'.heap[x]? = w.heap[x]? ∧ S' x) : sliceT w' S' f v := by
  obtain ⟨A, c, ys, hv, hc, hr, ho⟩ := h
  exact ⟨A, c, ys, hv, hc, hr.keep hs hk, ho.keep hs hk _⟩

theorem sliceT.drewN {w : World} {S : Nat → Prop} {f : Fo} {v : Value} (h : sliceT w S f v) (n : Nat) : sliceT (w.drewN n) S f v := h.keep (Nat.le_refl _) fun _ hx _ => ⟨rfl, hx⟩

theorem rowT.len {w : World} {S : Nat → Prop} (f : Fo) : ∀ xs, rowT w S f xs → xs.length = f.len * 4 := by
  induction f with
  | nil => intro xs h; rw [h]; rfl
  | cons k t kids o rest ih1 ih2 =>
    intro xs h
    obtain ⟨A, c, ys, zs, hx, hc, hr, hk1, hk2⟩ := h
    rw [hx]
    simp only [List.length_cons, ih2 _ hk2, Fo.len]
    omega

theorem rowT.app {w : World} {S : Nat → Prop} (f g : Fo) (ys : List Value) (hg : rowT w S g ys) : ∀ xs, rowT w S f xs → rowT w S (f.app g) (xs ++ ys) := by
  induction f with
  | nil => intro xs h; rw [h]; exact hg
  | cons k t kids o rest ih1 ih2 =>
    intro xs h
    obtain ⟨A, c, ys', zs, hx, hc, hr, hk1, hk2⟩ := h
    exact ⟨A, c, ys', zs ++ ys, by rw [hx]; rfl, hc, hr, hk1, ih2 _ hk2⟩

theorem rowT.one {w : World} {S : Nat → Prop} {k o : Int} {t : List UInt8} {kids : Fo} {A : Option Addr} {c : Nat} {ys : List Value} (hc : kids.len ≤ c) (hr : readsAt w S A kids.len ys) (hk : rowT w S kids ys) :
    rowT w S (.one k t kids o) [.int .i64 k, .string ⟨t.toArray⟩, .int .i64 o, .slice A kids.len c] :=
  ⟨A, c, ys, [], rfl, hc, hr, hk, rfl⟩

/-- An owned row of nodes is a slice that reads as them. -/
theorem own_sliceT {w : World} {base : Nat} {e : TypeId} {v : Value} {f : Fo} {xs : List Value} {S : Nat → Prop} (h : w.ownsRow base e 4 v f.len xs) (hr : rowT w S f xs) (hS : ∀ x, S x → base ≤ x) : sliceT w (fun x => base ≤ x) f v := by
  obtain ⟨A, c, rfl, hc⟩ := own_shape h
  refine ⟨A, c, xs, rfl, hc, ?_, hr.keep (Nat.le_refl _) (fun x hx _ => ⟨rfl, hS x hx⟩) _⟩
  intro hn
  rcases h.2 with ⟨hv, h0⟩ | ⟨g, cap, cur, hv, hb, hg, _⟩
  · omega
  · simp only [Value.slice.injEq] at hv
    obtain ⟨rfl, _, rfl⟩ := hv
    refine ⟨g, 0, rfl, hb, heap_lt hg, fun j u hu => ?_⟩
    have := h.cells (g := g) rfl j u hu
    rw [← this, Nat.zero_add]
    unfold Addr.add
    split
    · rename_i h; rw [h]
    · simp

/-- One node more is appended to an owned row. w: the call's world, wr: the round's, w1: behind the callee, w2: behind the append. -/
theorem push_rowT {w wr w1 w2 : World} {b : Nat} {acc kids : Fo} {xs ys : List Value} {v v' : Value} {k o : Int} {t : List UInt8} {A : Option Addr} {c : Nat} {ob : Obj} {e : TypeId}
    (hown : wr.ownsRow w.heap.size e 4 v acc.len xs) (hrow : rowT wr (fun x => w.heap.size ≤ x ∧ v.ownBlock ≠ some x) acc xs) (hb : b < w.heap.size) (hw : w.heap.size ≤ wr.heap.size)
    (hg1 : wr.grownBy w1 (some b)) (hc : kids.len ≤ c) (hr : readsAt w1 (fun x => wr.heap.size ≤ x) A kids.len ys) (hk : rowT w1 (fun x => wr.heap.size ≤ x) kids ys)
    (hg2 : (w1.alloc ob).grownBy w2 v.ownBlock) (hat : v'.ownBlock = v.ownBlock ∨ v'.ownBlock = some (w1.heap.size + 1)) :
    rowT w2 (fun x => w.heap.size ≤ x ∧ v'.ownBlock ≠ some x) (acc.app (.one k t kids o)) (xs ++ [.int .i64 k, .string ⟨t.toArray⟩, .int .i64 o, .slice A kids.len c]) := by
  have hs1 := hg1.size
  have hs2 := hg2.size
  have hsa : (w1.alloc ob).heap.size = w1.heap.size + 1 := by simp
  have hlt : ∀ x, v.ownBlock = some x → x < wr.heap.size := fun x hx => (hown.lt x hx).2
  have hne' : ∀ x, x < w1.heap.size → v.ownBlock ≠ some x → v'.ownBlock ≠ some x := by
    intro x hx hne he
    rcases hat with h | h
    · exact hne (h.symm.trans he)
    · rw [h] at he
      simp only [Option.some.injEq] at he
      omega
  have hto : ∀ x, x < w1.heap.size → v.ownBlock ≠ some x → w2.heap[x]? = w1.heap[x]? := fun x hx hne =>
    (hg2.block x (by omega) (fun e => hne e.symm)).trans (Below.heap_alloc w1 ob x hx)
  refine rowT.app _ _ _ (rowT.one hc (hr.keep (by omega) ?_) (hk.keep (by omega) ?_ _)) _ (hrow.keep (by omega) ?_ _)
  · intro x hx hl
    have hne : v.ownBlock ≠ some x := fun e => by have := hlt x e; omega
    exact ⟨hto x hl hne, by omega, hne' x hl hne⟩
  · intro x hx hl
    have hne : v.ownBlock ≠ some x := fun e => by have := hlt x e; omega
    exact ⟨hto x hl hne, by omega, hne' x hl hne⟩
  · rintro x ⟨hx, hne⟩ hl
    exact ⟨(hto x (by omega) hne).trans (hg1.block x hl (by simp; omega)), hx, hne' x (by omega) hne⟩

theorem rowT_start {w : World} {S : Nat → Prop} {A : Option Addr} {f : Fo} {xs : List Value} (hr : readsAt w S A f.len xs) (hx : rowT w S f xs) : rowAt w A 0 xs := by
  intro g off hA j u hu
  have hl := rowT.len f xs hx
  rcases Nat.eq_zero_or_pos f.len with h | h
  · rw [h] at hl
    rw [List.getElem?_eq_none (by omega)] at hu
    cases hu
  · obtain ⟨g', off', hA', _, _, hc⟩ := hr h
    rw [hA] at hA'
    cases hA'
    simpa using hc j u hu
end Go.Proofs.YtpkiheenkpcebaaGreatDoor
namespace Go.Proofs.YtpkiheenkpcebaaGreatDoor
open Go.RowKit Sx

/-- the slice at A (length f.len, capacity c) reads as the terms f -/
def KT (w : World) (f : Fo) (A : Option Addr) (c : Nat) : Prop := f.len ≤ c ∧ ∃ ys, readsAt w (fun _ => True) A f.len ys ∧ rowT w (fun _ => True) f ys
theorem KT.below {w w' : World} {f : Fo} {A : Option Addr} {c : Nat} (h : KT w f A c) (hb : Below w.heap.size w w') : KT w' f A c := by
  obtain ⟨hc, ys, h1, h2⟩ := h
  exact ⟨hc, ys, h1.keep hb.size fun x _ hl => ⟨hb.block x hl, trivial⟩, h2.keep hb.size (fun x _ hl => ⟨hb.block x hl, trivial⟩) _⟩
theorem KT.drew {w : World} {f : Fo} {A : Option Addr} {c : Nat} (h : KT w f A c) : KT w.drew f A c := by
  obtain ⟨hc, ys, h1, h2⟩ := h
  exact ⟨hc, ys, h1.keep (Nat.le_refl _) fun x _ hl => ⟨rfl, trivial⟩, rowT.keep (w := w) (w' := w.drew) (S := fun _ => True) (S' := fun _ => True) (Nat.le_refl w.heap.size) (fun x _ hl => ⟨rfl, trivial⟩) f ys h2⟩
theorem KT.nil (w : World) (A : Option Addr) (c : Nat) : KT w .nil A c := ⟨Nat.zero_le _, [], fun h => absurd h (by simp [Fo.len]), rfl⟩
theorem KT.of {w : World} {S : Nat → Prop} {f : Fo} {A : Option Addr} {c : Nat} {ys : List Value} (hc : f.len ≤ c) (h1 : readsAt w S A f.len ys) (h2 : rowT w S f ys) : KT w f A c :=
  ⟨hc, ys, h1.keep (Nat.le_refl _) fun x _ hl => ⟨rfl, trivial⟩, h2.keep (Nat.le_refl _) (fun x _ hl => ⟨rfl, trivial⟩) _⟩
theorem KT.of_slice {w : World} {S : Nat → Prop} {f : Fo} {v : Value} (h : sliceT w S f v) : ∃ A c, v = .slice A f.len c ∧ KT w f A c := by
  obtain ⟨A, c, ys, hv, hc, hr, ho⟩ := h
  exact ⟨A, c, hv, KT.of hc hr ho⟩

/-- r is what is left of f behind i terms -/
def Suf (i : Nat) (r f : Fo) : Prop := ∃ pre : Fo, f = pre.app r ∧ pre.len = i
theorem Suf.zero (f : Fo) : Suf 0 f f := ⟨.nil, rfl, rfl⟩
theorem Suf.next {i : Nat} {k o : Int} {t : List UInt8} {kids r f : Fo} (h : Suf i (.cons k t kids o r) f) : Suf (i + 1) r f := by
  obtain ⟨pre, rfl, rfl⟩ := h
  refine ⟨pre.app (.one k t kids o), ?_, ?_⟩
  · rw [Fo.app_app]; rfl
  · rw [Fo.len_app]; rfl
theorem Suf.len {i : Nat} {r f : Fo} (h : Suf i r f) : i + r.len = f.len := by
  obtain ⟨pre, rfl, rfl⟩ := h
  rw [Fo.len_app]
theorem fsize_app (f g : Fo) : fsize (f.app g) = fsize f + fsize g := by
  induction f with
  | nil => simp [Fo.app, fsize]
  | cons k t kids o r _ ih => simp only [Fo.app, fsize, ih]; omega
theorem Suf.size {i : Nat} {r f : Fo} (h : Suf i r f) : fsize r ≤ fsize f := by
  obtain ⟨pre, rfl, rfl⟩ := h
  rw [fsize_app]; omega
theorem Suf.kid {i : Nat} {k o : Int} {t : List UInt8} {kids r f : Fo} (h : Suf i (.cons k t kids o r) f) : fsize kids < fsize f ∧ i < f.len := by
  have h1 := h.size
  have h2 := h.len
  simp only [fsize, Fo.len] at h1 h2
  exact ⟨by omega, by omega⟩

theorem rowT.split {w : World} {S : Nat → Prop} {k o : Int} {t : List UInt8} {kids r : Fo} (pre : Fo) : ∀ xs, rowT w S (pre.app (.cons k t kids o r)) xs → ∃ A c ys u v, xs = u ++ (.int .i64 k :: .string ⟨t.toArray⟩ :: .int .i64 o :: .slice A kids.len c ::  v) ∧ u.length = pre.len * 4 ∧ kids.len ≤ c ∧ readsAt w S A kids.len ys ∧ rowT w S kids ys := by
  induction pre with
  | nil =>
    intro xs h
    obtain ⟨A, c, ys, zs, hx, hc, hr, hk1, hk2⟩ := h
    exact ⟨A, c, ys, [], zs, hx, rfl, hc, hr, hk1⟩
  | cons k' t' kids' o' rest ih1 ih2 =>
    intro xs h
    obtain ⟨A', c', ys', zs, hx, hc, hr, hk1, hk2⟩ := h
    obtain ⟨A, c, ys, u, v, hz, hl, h1, h2, h3⟩ := ih2 _ hk2
    refine ⟨A, c, ys, .int .i64 k' :: .string ⟨t'.toArray⟩ :: .int .i64 o' :: .slice A' kids'.len c' :: u, v, by rw [hx, hz]; rfl, ?_, h1, h2, h3⟩
    simp only [List.length_cons, hl, Fo.len]; omega

theorem KT.get {w wr : World} {f : Fo} {A : Option Addr} {c i : Nat} {k o : Int} {t : List UInt8} {kids r : Fo} (h : KT w f A c) (hs : Suf i (.cons k t kids o r) f) (hb : Below w.heap.size w wr) :
    ∃ (g off : Nat) (A1 : Option Addr) (c1 : Nat), A = some ⟨g, off, none⟩ ∧ g < w.heap.size ∧ wr.cell? ⟨g, off + i * 4, none⟩ = some (.int .i64 k) ∧ wr.cell? ⟨g, off + i * 4 + 1, none⟩ = some (.string ⟨t.toArray⟩) ∧
      wr.cell? ⟨g, off + i * 4 + 2, none⟩ = some (.int .i64 o) ∧ wr.cell? ⟨g, off + i * 4 + 3, none⟩ = some (.slice A1 kids.len c1) ∧ KT w kids A1 c1 := by
  have hlt := hs.kid.2
  obtain ⟨pre, rfl, rfl⟩ := hs
  obtain ⟨hc, ys, h1, h2⟩ := h
  obtain ⟨A1, c1, ys1, u0, v0, rfl, hl, hc1, hr1, hk1⟩ := rowT.split pre _ h2
  obtain ⟨g, off, rfl, _, hg, hcell⟩ := h1 (by omega)
  have at_ : ∀ (j : Nat) (u : Value), (Value.int .i64 k :: .string ⟨t.toArray⟩ :: .int .i64 o :: .slice A1 kids.len c1 :: v0)[j]? = some u → wr.cell? ⟨g, off + pre.len * 4 + j, none⟩ = some u := by
    intro j u hu
    have := hcell (pre.len * 4 + j) u (by rw [List.getElem?_append_right (by omega), hl, Nat.add_sub_cancel_left]; exact hu)
    rw [← Nat.add_assoc] at this
    exact (hb.cell (p := ⟨g, off + pre.len * 4 + j, none⟩) (by exact hg)).trans this
  exact ⟨g, off, A1, c1, rfl, hg, at_ 0 _ rfl, at_ 1 _ rfl, at_ 2 _ rfl, at_ 3 _ rfl, KT.of hc1 hr1 hk1⟩
theorem below_kt {w wr : World} {f : Fo} {A : Option Addr} {c : Nat} (h : KT w f A c) (hb : Below w.heap.size w wr) : KT wr f A c := h.below hb

/-- an argument's box: the four cells of a new block -/
theorem box4 (w : World) (x y z u : Value) (t : TypeId) : (w.alloc (.cells #[x, y, z, u] t (0, 0))).cell? ⟨w.heap.size, 0, none⟩ = some x ∧ (w.alloc (.cells #[x, y, z, u] t (0, 0))).cell? ⟨w.heap.size, 1, none⟩ = some y ∧
    (w.alloc (.cells #[x, y, z, u] t (0, 0))).cell? ⟨w.heap.size, 2, none⟩ = some z ∧ (w.alloc (.cells #[x, y, z, u] t (0, 0))).cell? ⟨w.heap.size, 3, none⟩ = some u := by
  obtain ⟨h0, h1, h2, h3, _⟩ := row4 (heap_alloc_new w (.cells #[x, y, z, u] t (0, 0)))
  exact ⟨h0, h1, h2, h3⟩
end Go.Proofs.YtpkiheenkpcebaaGreatDoor
namespace Go.Proofs.YtpkiheenkpcebaaGreatDoor.Sx

/-- how high the terms are -/
def depT : Fo → Nat
  | .nil => 0
  | .cons _ _ kids _ rest => max (depT kids + 1) (depT rest)
theorem depT_le (f : Fo) : depT f ≤ fsize f := by
  induction f with
  | nil => simp [depT]
  | cons k t kids o r ih1 ih2 => simp only [depT, fsize]; omega

/-- is the node the occurrence of a variable that is free within b bodies -/
def freeB (k o b : Int) : Bool := decide (k = 5) && decide (b ≤ o)
/-- how many bodies are round argument i -/
def aroundB (k : Int) (i : Nat) (b : Int) : Int := if k = 6 ∧ i = 1 then b + 1 else b
/-- no variable is free in the arguments r (from argument i on) of a node of kind pk within b bodies -/
def closedL (pk : Int) : Nat → Int → Fo → Bool
  | _, _, .nil => true
  | i, b, .cons k _ kids o rest => (!freeB k o (aroundB pk i b) && closedL k 0 (aroundB pk i b) kids) && closedL pk (i + 1) b rest
def closed1 (k o : Int) (kids : Fo) (b : Int) : Bool := !freeB k o b && closedL k 0 b kids
theorem closedL_cons (pk : Int) (i : Nat) (b k : Int) (t : List UInt8) (kids : Fo) (o : Int) (rest : Fo) : closedL pk i b (.cons k t kids o rest) = (closed1 k o kids (aroundB pk i b) && closedL pk (i + 1) b rest) := rfl
end Go.Proofs.YtpkiheenkpcebaaGreatDoor.Sx
namespace Go.Proofs.YtpkiheenkpcebaaGreatDoor
open Go.RowKit Sx

theorem sum_in (n m : Nat) (h : n + m ≤ 4611686018427387904) : wrap64 ((n : Int) + ((m : Int) + 1)) = (n : Int) + ((m : Int) + 1) ∧ IntKind.i64.wrap ((n : Int) + ((m : Int) + 1)) = (n : Int) + ((m : Int) + 1) :=
  ⟨wrap64_in (by omega) (by omega), (IntKind.wrap_i64 _).trans (by omega)⟩

/-- a term as a value -/
abbrev TV (k : Int) (t : List UInt8) (o : Int) (A : Option Addr) (n c : Nat) : Value := .agg #[.int .i64 k, .string ⟨t.toArray⟩, .int .i64 o, .slice A n c]

end Go.Proofs.YtpkiheenkpcebaaGreatDoor
namespace Go.Proofs.YtpkiheenkpcebaaGreatDoor
open Go.RowKit Sx

theorem below_drew (w : World) : Below w.heap.size w w.drew := ⟨rfl, rfl, rfl, Nat.le_refl _, fun _ _ => rfl⟩
/-- X is behind w -/
def BH (w X : World) : Prop := Below w.heap.size w X
theorem BH.refl (w : World) : BH w w := Below.refl _ _
theorem BH.trans {a b c : World} (h : BH a b) (k : BH b c) : BH a c := Below.trans h (k.mono h.size)
theorem BH.drew (w : World) : BH w w.drew := below_drew w
theorem BH.cell {w X : World} (h : BH w X) {p : Addr} {v : Value} (hp : w.cell? p = some v) : X.cell? p = some v := by
  have hlt : p.block < w.heap.size := by
    rcases Nat.lt_or_ge p.block w.heap.size with hh | hh
    · exact hh
    · exfalso
      have : w.heap[p.block]? = none := Array.getElem?_eq_none hh
      simp [World.cell?, this] at hp
  exact (Below.cell h hlt).trans hp

set_option maxHeartbeats 1000000 in
theorem isFree_any (k o b : Int) (t : List UInt8) (A : Option Addr) (n c : Nat) (w : World) {V : Bool} (hV : freeB k o b = V) :
    Calls Tryz.prog 123 #[.agg #[.int .i64 k, .string ⟨t.toArray⟩, .int .i64 o, .slice A n c], .int .i64 b] w fun e w' => e = .returned (.bool V) ∧ BH w w' := by
  subst hV
  obtain ⟨b0, b1, b2, b3⟩ := box4 w (.int .i64 k) (.string ⟨t.toArray⟩) (.int .i64 o) (.slice A n c) 34
  have B1 : BH w (w.alloc (.cells #[.int .i64 k, .string ⟨t.toArray⟩, .int .i64 o, .slice A n c] 34 (0, 0))) := (Below.refl _ _).alloc (Nat.le_refl _) _
  have HB := Lib.hid B1
  clear B1
  by_cases hk : k = 5
  · subst hk
    by_cases hb : b ≤ o
    · have t1 : decide (b ≤ o) = true := by simpa using hb
      rw [show freeB 5 o b = true from by simp [freeB, hb]]
      go_enter Tryz.func123, Tryz.ntmps123
      go_wp2_with (fail)
      go_ret
      exact ⟨rfl, HB.out⟩
    · have t1 : decide (b ≤ o) = false := by simpa using hb
      rw [show freeB 5 o b = false from by simp [freeB, hb]]
      go_enter Tryz.func123, Tryz.ntmps123
      go_wp2_with (fail)
      go_ret
      exact ⟨rfl, HB.out⟩
  · have t1 : (k == 5) = false := by simp [hk]
    rw [show freeB k o b = false from by simp [freeB, hk]]
    go_enter Tryz.func123, Tryz.ntmps123
    go_wp2_with (fail)
    go_ret
    exact ⟨rfl, HB.out⟩

set_option maxHeartbeats 1000000 in
theorem around_any (k o b : Int) (i : Nat) (t : List UInt8) (A : Option Addr) (n c : Nat) (w : World) (h0 : 0 ≤ b) (h1 : b ≤ 1152921504606846976) :
    Calls Tryz.prog 127 #[.agg #[.int .i64 k, .string ⟨t.toArray⟩, .int .i64 o, .slice A n c], .int .i64 (i : Int), .int .i64 b] w fun e w' => e = .returned (.int .i64 (aroundB k i b)) ∧ BH w w' := by
  obtain ⟨b0, b1, b2, b3⟩ := box4 w (.int .i64 k) (.string ⟨t.toArray⟩) (.int .i64 o) (.slice A n c) 34
  have B1 : BH w (w.alloc (.cells #[.int .i64 k, .string ⟨t.toArray⟩, .int .i64 o, .slice A n c] 34 (0, 0))) := (Below.refl _ _).alloc (Nat.le_refl _) _
  have HB := Lib.hid B1
  clear B1
  by_cases hk : k = 6
  · subst hk
    by_cases hi : i = 1
    · subst hi
      rw [show aroundB 6 1 b = b + 1 from by simp [aroundB]]
      go_enter Tryz.func127, Tryz.ntmps127
      go_wp2_with (fail)
      go_ret
      exact ⟨rfl, HB.out⟩
    · have t1 : ((i : Int) == 1) = false := by rw [beq_eq_false_iff_ne]; omega
      rw [show aroundB 6 i b = b from by simp [aroundB, hi]]
      go_enter Tryz.func127, Tryz.ntmps127
      go_wp2_with (fail)
      go_ret
      exact ⟨rfl, HB.out⟩
  · have t1 : (k == 6) = false := by simp [hk]
    rw [show aroundB k i b = b from by simp [aroundB, hk]]
    go_enter Tryz.func127, Tryz.ntmps127
    go_wp2_with (fail)
    go_ret
    exact ⟨rfl, HB.out⟩
theorem aroundB_bounds (k b : Int) (i : Nat) : b ≤ aroundB k i b ∧ aroundB k i b ≤ b + 1 := by
  unfold aroundB
  split <;> omega

set_option maxHeartbeats 4000000 in
theorem isClosed_any (N : Nat) : ∀ (k o b : Int) (t : List UInt8) (kids : Fo) (A : Option Addr) (c : Nat) (w : World), fsize kids ≤ N → fsize kids ≤ 1073741824 → KT w kids A c → 0 ≤ b → b + fsize kids ≤ 1152921504606846976 →
    Calls Tryz.prog 161 #[.agg #[.int .i64 k, .string ⟨t.toArray⟩, .int .i64 o, .slice A kids.len c], .int .i64 b] w fun e w' => e = .returned (.bool (closed1 k o kids b)) ∧ BH w w' := by
  induction N using Nat.strongRecOn with
  | ind N ih =>
  intro k o b t kids A c w hN hN2 hK hb0 hb1
  have IH := Lib.hid ih
  have HK := Lib.hid hK
  clear ih hK
  have hlen := len_le_fsize kids
  obtain ⟨L, hL⟩ : ∃ L, kids.len = L := ⟨_, rfl⟩
  rw [hL] at hlen ⊢
  have HL := Lib.hid hL
  clear hL
  have hX := heap_alloc_new w (.cells #[.int .i64 k, .string ⟨t.toArray⟩, .int .i64 o, .slice A L c] 34 (0, 0))
  have HX := Lib.hid hX
  clear hX
  obtain ⟨b0, b1, b2, b3⟩ := box4 w (.int .i64 k) (.string ⟨t.toArray⟩) (.int .i64 o) (.slice A L c) 34
  have hF := fun (V : Bool) (hV : freeB k o b = V) W => isFree_any k o b t A L c W hV
  cases hfr : freeB k o b with
  | true =>
    have HF := Lib.hid (hF true hfr)
    rw [show closed1 k o kids b = false from by simp [closed1, hfr]]
    clear hF hfr
    go_enter Tryz.func161, Tryz.ntmps161
    go_wp2_with (fail)
    refine (HF.out _).mono ?_
    rintro e w1 ⟨rfl, hb⟩
    have HB := Lib.hid hb
    clear hb
    go_wp2_with (fail)
    go_ret
    exact ⟨rfl, BH.trans ((Below.refl _ _).alloc (Nat.le_refl _) _) HB.out⟩
  | false =>
    have HF := Lib.hid (hF false hfr)
    rw [show closed1 k o kids b = closedL k 0 b kids from by simp [closed1, hfr]]
    clear hF hfr
    obtain ⟨V, hV⟩ : ∃ V, closedL k 0 b kids = V := ⟨_, rfl⟩
    rw [hV]
    have HV := Lib.hid hV
    clear hV
    go_enter Tryz.func161, Tryz.ntmps161
    go_wp2_with (fail)
    refine (HF.out _).mono ?_
    rintro e w1 ⟨rfl, hb⟩
    have hbw : Below w.heap.size w w1 := BH.trans ((Below.refl _ _).alloc (Nat.le_refl _) _) hb
    have hX1 := (hb.block w.heap.size (by simp)).trans HX.out
    have HX1 := Lib.hid hX1
    have HBW := Lib.hid hbw
    have hs1 : w.heap.size < w1.heap.size := by have := hb.size; simp at this; omega
    clear hb hbw hX1 b0 b1 b2 b3
    obtain ⟨b0, b1, b2, b3, _⟩ := row4 HX1.out
    go_wp2_with (fail)
    go_loopw [4, 5, 6, 13] (fun _ _ _ iv wr => ∃ (i : Nat) (r : Fo), iv = .int .i64 (i : Int) ∧ Suf i r kids ∧ closedL k i b r = V ∧ BH w1 wr) (fun _ _ _ iv _ => L - (match iv with | .int _ n => n.toNat | _ => 0))
    case atStart => exact ⟨0, kids, rfl, Suf.zero _, HV.out, BH.refl _⟩
    case round =>
      obtain ⟨i, r, rfl, hsuf, hcl, hbh⟩ := hrel
      have hlen' := hsuf.len
      rw [HL.out] at hlen'
      have hbel : Below w.heap.size w wr := HBW.out.trans (Below.mono hbh (by omega))
      have hbs : w1.heap.size ≤ wr.heap.size := Below.size hbh
      have HX2 := Lib.hid ((Below.block hbh w.heap.size hs1).trans HX1.out)
      clear b0 b1 b2 b3
      obtain ⟨b0, b1, b2, b3, _⟩ := row4 HX2.out
      cases r with
      | nil =>
        simp only [Fo.len] at hlen'
        have hge : decide (i < L) = false := by rw [decide_eq_false_iff_not]; omega
        have HN := Lib.hid hcl
        have HB := Lib.hid hbel
        clear hcl hlen' hbel hsuf hbh
        go_wp2_with (fail)
        go_ret
        exact ⟨congrArg (fun z : Bool => Ending.returned (.bool z)) HN.out, HB.out⟩
      | cons k1 t1 kids1 o1 r1 =>
        obtain ⟨g, off, A1, c1, rfl, hgl, q0, q1, q2, q3, hk1⟩ := HK.out.get hsuf hbel
        obtain ⟨hkid, hil⟩ := hsuf.kid
        rw [HL.out] at hil
        have hge : decide ((i : Int) < (L : Int)) = true := by rw [decide_eq_true_eq]; omega
        have hiL : (i : Int) < (L : Int) := by omega
        have hi0 : (0 : Int) ≤ (i : Int) := by omega
        have hne : ¬ g = wr.heap.size := by omega
        have hne2 : ¬ w.heap.size = wr.heap.size := by omega
        obtain ⟨ab0, ab1⟩ := aroundB_bounds k b i
        rw [closedL_cons] at hcl
        have HC := Lib.hid hcl
        have HS := Lib.hid hsuf
        have hN5 := heap_alloc_new wr (.cells #[.int .i64 k1, .string ⟨t1.toArray⟩, .int .i64 o1, .slice A1 kids1.len c1] 34 (0, 0))
        have B5 : BH wr (wr.alloc (.cells #[.int .i64 k1, .string ⟨t1.toArray⟩, .int .i64 o1, .slice A1 kids1.len c1] 34 (0, 0))) := (Below.refl _ _).alloc (Nat.le_refl _) _
        have hQ : (wr.alloc (.cells #[.int .i64 k1, .string ⟨t1.toArray⟩, .int .i64 o1, .slice A1 kids1.len c1] 34 (0, 0))).heap[wr.heap.size]? = some (.cells #[.int .i64 k1, .string ⟨t1.toArray⟩, .int .i64 o1, .slice A1 kids1.len c1] 34 (0, 0)) ∧ BH w1 (wr.alloc (.cells #[.int .i64 k1, .string ⟨t1.toArray⟩, .int .i64 o1, .slice A1 kids1.len c1] 34 (0, 0))) := ⟨hN5, BH.trans hbh B5⟩
        have HQ := Lib.hid hQ
        have HK1 := Lib.hid hk1
        clear hk1 hcl hsuf hQ B5 hN5 hbel hbh hlen'
        go_upto_region 6 with (fail)
        refine gen_wp _ (fun X => X.heap[wr.heap.size]? = some (.cells #[.int .i64 k1, .string ⟨t1.toArray⟩, .int .i64 o1, .slice A1 kids1.len c1] 34 (0, 0)) ∧ BH w1 X) HQ.out ?_
        rintro W5 ⟨hN5, hP5⟩
        obtain ⟨g5, hg5⟩ : ∃ g5, wr.heap.size = g5 := ⟨_, rfl⟩
        rw [hg5] at hN5 ⊢
        obtain ⟨d0, d1, d2, d3, _⟩ := row4 hN5
        obtain ⟨f0, f1, f2, f3, _⟩ := row4 ((Below.block hP5 w.heap.size hs1).trans HX1.out)
        have HP5 := Lib.hid hP5
        have hk5 : KT W5 kids1 A1 c1 := HK1.out.below (HBW.out.trans (Below.mono hP5 (by omega)))
        have HK5 := Lib.hid hk5
        clear hg5 HQ hN5 hk5 hP5 b0 b1 b2 b3 q0 q1 q2 q3 HX2
        have hBA : ∀ X, BH W5 X → Calls Tryz.prog 127 #[.agg #[.int .i64 k, .string ⟨t.toArray⟩, .int .i64 o, .slice (some ⟨g, off, none⟩) L c], .int .i64 (i : Int), .int .i64 b] X fun e u => e = .returned (.int .i64 (aroundB k i b)) ∧ BH W5 u := fun X hX =>
          (around_any k o b i t _ L c X hb0 (by omega)).mono fun e u h => ⟨h.1, BH.trans hX h.2⟩
        obtain ⟨V1, hV1⟩ : ∃ V1, closed1 k1 o1 kids1 (aroundB k i b) = V1 := ⟨_, rfl⟩
        have hIC : ∀ X, BH W5 X → Calls Tryz.prog 161 #[.agg #[.int .i64 k1, .string ⟨t1.toArray⟩, .int .i64 o1, .slice A1 kids1.len c1], .int .i64 (aroundB k i b)] X fun e u => e = .returned (.bool V1) ∧ BH W5 u := fun X hX => by
          rw [← hV1]
          exact (IH.out (fsize kids1) (by omega) k1 o1 (aroundB k i b) t1 kids1 A1 c1 X (Nat.le_refl _) (by omega) (HK5.out.below hX) (by omega) (by omega)).mono fun e u h => ⟨h.1, BH.trans hX h.2⟩
        have KS : ∀ X, BH W5 X → X.cell? ⟨g5, 0, none⟩ = some (.int .i64 k1) ∧ X.cell? ⟨g5, 1, none⟩ = some (.string ⟨t1.toArray⟩) ∧ X.cell? ⟨g5, 2, none⟩ = some (.int .i64 o1) ∧ X.cell? ⟨g5, 3, none⟩ = some (.slice A1 kids1.len c1) ∧
            X.cell? ⟨w.heap.size, 0, none⟩ = some (.int .i64 k) ∧ X.cell? ⟨w.heap.size, 1, none⟩ = some (.string ⟨t.toArray⟩) ∧ X.cell? ⟨w.heap.size, 2, none⟩ = some (.int .i64 o) ∧ X.cell? ⟨w.heap.size, 3, none⟩ = some (.slice (some ⟨g, off, none⟩) L c) :=
          fun X h => ⟨h.cell d0, h.cell d1, h.cell d2, h.cell d3, h.cell f0, h.cell f1, h.cell f2, h.cell f3⟩
        have HBA := Lib.hid hBA
        have HIC := Lib.hid hIC
        have HKS := Lib.hid KS
        have HPe := Lib.hid (BH.drew W5)
        have HV1 := Lib.hid hV1
        clear hBA hIC KS hV1 ab0 ab1
        cases V1 with
        | true =>
          go_region_held3 (fun w' => w'.cell? ⟨g5, 0, none⟩ = some (.int .i64 k1) ∧ w'.cell? ⟨g5, 1, none⟩ = some (.string ⟨t1.toArray⟩) ∧ w'.cell? ⟨g5, 2, none⟩ = some (.int .i64 o1) ∧ w'.cell? ⟨g5, 3, none⟩ = some (.slice A1 kids1.len c1) ∧
              w'.cell? ⟨w.heap.size, 0, none⟩ = some (.int .i64 k) ∧ w'.cell? ⟨w.heap.size, 1, none⟩ = some (.string ⟨t.toArray⟩) ∧ w'.cell? ⟨w.heap.size, 2, none⟩ = some (.int .i64 o) ∧ w'.cell? ⟨w.heap.size, 3, none⟩ = some (.slice (some ⟨g, off, none⟩) L c)) (go_keep)
            (first
              | (go_at_call 161; refine (HIC.out _ HPu.out).mono ?_; rintro e u2 ⟨rfl, hpu⟩; have HPz := Lib.hid hpu; obtain ⟨x0, x1, x2, x3, x4, x5, x6, x7⟩ := HKS.out _ hpu; clear hpu)
              | (go_at_call 127; refine (HBA.out _ HPe.out).mono ?_; rintro e u ⟨rfl, hpu⟩; have HPu := Lib.hid hpu; obtain ⟨x0, x1, x2, x3, x4, x5, x6, x7⟩ := HKS.out _ hpu; clear hpu))
          all_goals
            go_wp2_with (fail)
            exact ⟨⟨i + 1, r1, rfl, HS.out.next, by have h := HC.out; rw [HV1.out, Bool.true_and] at h; exact h, BH.trans HP5.out HPz.out⟩, by simp; omega⟩
        | false =>
          go_region_held3 (fun w' => w'.cell? ⟨g5, 0, none⟩ = some (.int .i64 k1) ∧ w'.cell? ⟨g5, 1, none⟩ = some (.string ⟨t1.toArray⟩) ∧ w'.cell? ⟨g5, 2, none⟩ = some (.int .i64 o1) ∧ w'.cell? ⟨g5, 3, none⟩ = some (.slice A1 kids1.len c1) ∧
              w'.cell? ⟨w.heap.size, 0, none⟩ = some (.int .i64 k) ∧ w'.cell? ⟨w.heap.size, 1, none⟩ = some (.string ⟨t.toArray⟩) ∧ w'.cell? ⟨w.heap.size, 2, none⟩ = some (.int .i64 o) ∧ w'.cell? ⟨w.heap.size, 3, none⟩ = some (.slice (some ⟨g, off, none⟩) L c)) (go_keep)
            (first
              | (go_at_call 161; refine (HIC.out _ HPu.out).mono ?_; rintro e u2 ⟨rfl, hpu⟩; have HPz := Lib.hid hpu; obtain ⟨x0, x1, x2, x3, x4, x5, x6, x7⟩ := HKS.out _ hpu; clear hpu)
              | (go_at_call 127; refine (HBA.out _ HPe.out).mono ?_; rintro e u ⟨rfl, hpu⟩; have HPu := Lib.hid hpu; obtain ⟨x0, x1, x2, x3, x4, x5, x6, x7⟩ := HKS.out _ hpu; clear hpu))
          all_goals
            go_wp2_with (fail)
            go_ret
            exact ⟨congrArg (fun z : Bool => Ending.returned (.bool z)) (by have h := HC.out; rw [HV1.out, Bool.false_and] at h; exact h), HBW.out.trans (Below.mono (BH.trans HP5.out HPz.out) (by omega))⟩
end Go.Proofs.YtpkiheenkpcebaaGreatDoor
