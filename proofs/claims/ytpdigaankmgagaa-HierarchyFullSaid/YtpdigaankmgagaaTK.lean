/- A term's arguments in memory: what is read of them, argument by argument. No condition. -/
import Derived.Test.YtpdigaankmgagaaTMem
set_option linter.unusedVariables false
set_option linter.unusedSimpArgs false
namespace Go.Proofs.Ytpdigaankmgagaa
open Go.RowKit Sx

/-- the slice at A (length f.len, capacity c) reads as the terms f -/
def KT (w : World) (f : Fo) (A : Option Addr) (c : Nat) : Prop := f.len ≤ c ∧ ∃ ys, readsAt w (fun _ => True) A f.len ys ∧ rowT w (fun _ => True) f ys
theorem KT.below {w w' : World} {f : Fo} {A : Option Addr} {c : Nat} (h : KT w f A c) (hb : Below w.heap.size w w') : KT w' f A c := by
  obtain ⟨hc, ys, h1, h2⟩ := h
  exact ⟨hc, ys, h1.keep hb.size fun x _ hl => ⟨hb.block x hl, trivial⟩, h2.keep hb.size (fun x _ hl => ⟨hb.block x hl, trivial⟩) _⟩
theorem KT.drew {w : World} {f : Fo} {A : Option Addr} {c : Nat} (h : KT w f A c) : KT w.drew f A c := by
  obtain ⟨hc, ys, h1, h2⟩ := h
  exact ⟨hc, ys, h1.keep (Nat.le_refl _) fun x _ hl => ⟨rfl, trivial⟩, rowT.keep (w := w) (w' := w.drew) (S := fun _ => True) (S' := fun _ => True) (Nat.le_refl w.heap.size) (fun x _ hl => ⟨rfl, trivial⟩) f ys h2⟩
theorem KT.nil (w : World) (A : Option Addr) (c : Nat) : KT w .nil A c := ⟨Nat.zero_le _, [], fun h => absurd h (by simp [Fo.len]), rfl⟩
theorem KT.of {w : World} {S : Nat → Prop} {f : Fo} {A : Option Addr} {c : Nat} {ys : List Value} (hc : f.len ≤ c) (h1 : readsAt w S A f.len ys) (h2 : rowT w S f ys) : KT w f A c :=
  ⟨hc, ys, h1.keep (Nat.le_refl _) fun x _ hl => ⟨rfl, trivial⟩, h2.keep (Nat.le_refl _) (fun x _ hl => ⟨rfl, trivial⟩) _⟩
theorem KT.of_slice {w : World} {S : Nat → Prop} {f : Fo} {v : Value} (h : sliceT w S f v) : ∃ A c, v = .slice A f.len c ∧ KT w f A c := by
  obtain ⟨A, c, ys, hv, hc, hr, ho⟩ := h
  exact ⟨A, c, hv, KT.of hc hr ho⟩

/-- r is what is left of f behind i terms -/
def Suf (i : Nat) (r f : Fo) : Prop := ∃ pre : Fo, f = pre.app r ∧ pre.len = i
theorem Suf.zero (f : Fo) : Suf 0 f f := ⟨.nil, rfl, rfl⟩
theorem Suf.next {i : Nat} {k o : Int} {t : List UInt8} {kids r f : Fo} (h : Suf i (.cons k t kids o r) f) : Suf (i + 1) r f := by
  obtain ⟨pre, rfl, rfl⟩ := h
  refine ⟨pre.app (.one k t kids o), ?_, ?_⟩
  · rw [Fo.app_app]; rfl
  · rw [Fo.len_app]; rfl
theorem Suf.len {i : Nat} {r f : Fo} (h : Suf i r f) : i + r.len = f.len := by
  obtain ⟨pre, rfl, rfl⟩ := h
  rw [Fo.len_app]
theorem fsize_app (f g : Fo) : fsize (f.app g) = fsize f + fsize g := by
  induction f with
  | nil => simp [Fo.app, fsize]
  | cons k t kids o r _ ih => simp only [Fo.app, fsize, ih]; omega
theorem Suf.size {i : Nat} {r f : Fo} (h : Suf i r f) : fsize r ≤ fsize f := by
  obtain ⟨pre, rfl, rfl⟩ := h
  rw [fsize_app]; omega
theorem Suf.kid {i : Nat} {k o : Int} {t : List UInt8} {kids r f : Fo} (h : Suf i (.cons k t kids o r) f) : fsize kids < fsize f ∧ i < f.len := by
  have h1 := h.size
  have h2 := h.len
  simp only [fsize, Fo.len] at h1 h2
  exact ⟨by omega, by omega⟩

theorem rowT.split {w : World} {S : Nat → Prop} {k o : Int} {t : List UInt8} {kids r : Fo} (pre : Fo) : ∀ xs, rowT w S (pre.app (.cons k t kids o r)) xs → ∃ A c ys u v, xs = u ++ (.int .i64 k :: .string ⟨t.toArray⟩ :: .int .i64 o :: .slice A kids.len c ::  v) ∧ u.length = pre.len * 4 ∧ kids.len ≤ c ∧ readsAt w S A kids.len ys ∧ rowT w S kids ys := by
  induction pre with
  | nil =>
    intro xs h
    obtain ⟨A, c, ys, zs, hx, hc, hr, hk1, hk2⟩ := h
    exact ⟨A, c, ys, [], zs, hx, rfl, hc, hr, hk1⟩
  | cons k' t' kids' o' rest ih1 ih2 =>
    intro xs h
    obtain ⟨A', c', ys', zs, hx, hc, hr, hk1, hk2⟩ := h
    obtain ⟨A, c, ys, u, v, hz, hl, h1, h2, h3⟩ := ih2 _ hk2
    refine ⟨A, c, ys, .int .i64 k' :: .string ⟨t'.toArray⟩ :: .int .i64 o' :: .slice A' kids'.len c' :: u, v, by rw [hx, hz]; rfl, ?_, h1, h2, h3⟩
    simp only [List.length_cons, hl, Fo.len]; omega

theorem KT.get {w wr : World} {f : Fo} {A : Option Addr} {c i : Nat} {k o : Int} {t : List UInt8} {kids r : Fo} (h : KT w f A c) (hs : Suf i (.cons k t kids o r) f) (hb : Below w.heap.size w wr) :
    ∃ (g off : Nat) (A1 : Option Addr) (c1 : Nat), A = some ⟨g, off, none⟩ ∧ g < w.heap.size ∧ wr.cell? ⟨g, off + i * 4, none⟩ = some (.int .i64 k) ∧ wr.cell? ⟨g, off + i * 4 + 1, none⟩ = some (.string ⟨t.toArray⟩) ∧
      wr.cell? ⟨g, off + i * 4 + 2, none⟩ = some (.int .i64 o) ∧ wr.cell? ⟨g, off + i * 4 + 3, none⟩ = some (.slice A1 kids.len c1) ∧ KT w kids A1 c1 := by
  have hlt := hs.kid.2
  obtain ⟨pre, rfl, rfl⟩ := hs
  obtain ⟨hc, ys, h1, h2⟩ := h
  obtain ⟨A1, c1, ys1, u0, v0, rfl, hl, hc1, hr1, hk1⟩ := rowT.split pre _ h2
  obtain ⟨g, off, rfl, _, hg, hcell⟩ := h1 (by omega)
  have at_ : ∀ (j : Nat) (u : Value), (Value.int .i64 k :: .string ⟨t.toArray⟩ :: .int .i64 o :: .slice A1 kids.len c1 :: v0)[j]? = some u → wr.cell? ⟨g, off + pre.len * 4 + j, none⟩ = some u := by
    intro j u hu
    have := hcell (pre.len * 4 + j) u (by rw [List.getElem?_append_right (by omega), hl, Nat.add_sub_cancel_left]; exact hu)
    rw [← Nat.add_assoc] at this
    exact (hb.cell (p := ⟨g, off + pre.len * 4 + j, none⟩) (by exact hg)).trans this
  exact ⟨g, off, A1, c1, rfl, hg, at_ 0 _ rfl, at_ 1 _ rfl, at_ 2 _ rfl, at_ 3 _ rfl, KT.of hc1 hr1 hk1⟩
theorem below_kt {w wr : World} {f : Fo} {A : Option Addr} {c : Nat} (h : KT w f A c) (hb : Below w.heap.size w wr) : KT wr f A c := h.below hb

/-- an argument's box: the four cells of a new block -/
theorem box4 (w : World) (x y z u : Value) (t : TypeId) : (w.alloc (.cells #[x, y, z, u] t (0, 0))).cell? ⟨w.heap.size, 0, none⟩ = some x ∧ (w.alloc (.cells #[x, y, z, u] t (0, 0))).cell? ⟨w.heap.size, 1, none⟩ = some y ∧
    (w.alloc (.cells #[x, y, z, u] t (0, 0))).cell? ⟨w.heap.size, 2, none⟩ = some z ∧ (w.alloc (.cells #[x, y, z, u] t (0, 0))).cell? ⟨w.heap.size, 3, none⟩ = some u := by
  obtain ⟨h0, h1, h2, h3, _⟩ := row4 (heap_alloc_new w (.cells #[x, y, z, u] t (0, 0)))
  exact ⟨h0, h1, h2, h3⟩
end Go.Proofs.Ytpdigaankmgagaa
