/- Terms in memory that may share blocks, appended one by one. No condition. -/
import Derived.Test.YtpdigaankmgagaaS4
import Derived.Test.YtpdigaankmgagaaApp
import Derived.Test.YtpdigaankmgagaaTr0
import Derived.Test.YtpdigaankmgagaaTva
set_option linter.unusedVariables false
set_option linter.unusedSimpArgs false
namespace Go.Proofs.Ytpdigaankmgagaa
open Go.RowKit Sx

/-- the slice (A, f.len, c) reads as the terms f, in blocks of S -/
def KS (w : World) (S : Nat → Prop) (f : Fo) (A : Option Addr) (c : Nat) : Prop := f.len ≤ c ∧ ∃ ys, readsAt w S A f.len ys ∧ rowT w S f ys
theorem KS.keep {w w' : World} {S S' : Nat → Prop} {f : Fo} {A : Option Addr} {c : Nat} (h : KS w S f A c) (hs : w.heap.size ≤ w'.heap.size) (hk : ∀ x, S x → x < w.heap.size → w'.heap[x]? = w.heap[x]? ∧ S' x) : KS w' S' f A c := by
  obtain ⟨hc, ys, h1, h2⟩ := h
  exact ⟨hc, ys, h1.keep hs hk, h2.keep hs hk _⟩
theorem KS.bh {w w' : World} {S : Nat → Prop} {f : Fo} {A : Option Addr} {c : Nat} (h : KS w S f A c) (hb : BH w w') : KS w' S f A c := h.keep (Below.size hb) fun x hx hl => ⟨Below.block hb x hl, hx⟩
theorem KS.kt {w : World} {S : Nat → Prop} {f : Fo} {A : Option Addr} {c : Nat} (h : KS w S f A c) : KT w f A c := by
  obtain ⟨hc, ys, h1, h2⟩ := h
  exact KT.of hc h1 h2
theorem KS.of {w : World} {f : Fo} {A : Option Addr} {c : Nat} (h : KT w f A c) : KS w (fun x => x < w.heap.size) f A c := by
  obtain ⟨hc, ys, h1, h2⟩ := h
  exact ⟨hc, ys, h1.keep (Nat.le_refl _) fun x _ hl => ⟨rfl, hl⟩, h2.keep (Nat.le_refl _) (fun x _ hl => ⟨rfl, hl⟩) _⟩
theorem KS.get {w wr : World} {S : Nat → Prop} {f : Fo} {A : Option Addr} {c i : Nat} {k o : Int} {t : List UInt8} {kids r : Fo} (h : KS w S f A c) (hs : Suf i (.cons k t kids o r) f) (hb : BH w wr) :
    ∃ (g off : Nat) (A1 : Option Addr) (c1 : Nat), A = some ⟨g, off, none⟩ ∧ g < w.heap.size ∧ wr.cell? ⟨g, off + i * 4, none⟩ = some (.int .i64 k) ∧ wr.cell? ⟨g, off + i * 4 + 1, none⟩ = some (.string ⟨t.toArray⟩) ∧
      wr.cell? ⟨g, off + i * 4 + 2, none⟩ = some (.int .i64 o) ∧ wr.cell? ⟨g, off + i * 4 + 3, none⟩ = some (.slice A1 kids.len c1) ∧ KS w S kids A1 c1 := by
  have hlt := hs.kid.2
  obtain ⟨pre, rfl, rfl⟩ := hs
  obtain ⟨hc, ys, h1, h2⟩ := h
  obtain ⟨A1, c1, ys1, u0, v0, rfl, hl, hc1, hr1, hk1⟩ := rowT.split pre _ h2
  obtain ⟨g, off, rfl, _, hg, hcell⟩ := h1 (by omega)
  have at_ : ∀ (j : Nat) (u : Value), (Value.int .i64 k :: .string ⟨t.toArray⟩ :: .int .i64 o :: .slice A1 kids.len c1 :: v0)[j]? = some u → wr.cell? ⟨g, off + pre.len * 4 + j, none⟩ = some u := by
    intro j u hu
    have := hcell (pre.len * 4 + j) u (by rw [List.getElem?_append_right (by omega), hl, Nat.add_sub_cancel_left]; exact hu)
    rw [← Nat.add_assoc] at this
    exact (Below.cell hb (p := ⟨g, off + pre.len * 4 + j, none⟩) (by exact hg)).trans this
  exact ⟨g, off, A1, c1, rfl, hg, at_ 0 _ rfl, at_ 1 _ rfl, at_ 2 _ rfl, at_ 3 _ rfl, hc1, ys1, hr1, hk1⟩

/-- the first terms of f -/
def takeF : Nat → Fo → Fo
  | 0, _ => .nil
  | _ + 1, .nil => .nil
  | n + 1, .cons k t kids o r => .cons k t kids o (takeF n r)
theorem takeF_len : ∀ (n : Nat) (f : Fo), n ≤ f.len → (takeF n f).len = n := by
  intro n
  induction n with
  | zero => intros; rfl
  | succ n ih =>
    intro f h
    cases f with
    | nil => simp [Fo.len] at h
    | cons k t kids o r => simp only [takeF, Fo.len] at h ⊢; rw [ih r (by omega)]
theorem takeF_size : ∀ (n : Nat) (f : Fo), fsize (takeF n f) ≤ fsize f := by
  intro n
  induction n with
  | zero => intros; simp [takeF, fsize]
  | succ n ih =>
    intro f
    cases f with
    | nil => simp [takeF]
    | cons k t kids o r => have := ih r; simp only [takeF, fsize]; omega
theorem takeF_lenT : ∀ (n : Nat) (f : Fo), lenT f → lenT (takeF n f) := by
  intro n
  induction n with
  | zero => intros; trivial
  | succ n ih =>
    intro f h
    cases f with
    | nil => trivial
    | cons k t kids o r => exact ⟨h.1, h.2.1, ih r h.2.2⟩
theorem takeF_row {w : World} {S : Nat → Prop} : ∀ (n : Nat) (f : Fo) (ys : List Value), rowT w S f ys → rowT w S (takeF n f) (ys.take (n * 4)) := by
  intro n
  induction n with
  | zero => intro f ys _; simp [takeF, rowT]
  | succ n ih =>
    intro f ys h
    cases f with
    | nil => rw [show ys = [] from h]; rfl
    | cons k t kids o r =>
      obtain ⟨A, c, zs, us, rfl, h1, h2, h3, h4⟩ := h
      refine ⟨A, c, zs, us.take (n * 4), ?_, h1, h2, h3, ih r us h4⟩
      rw [show (n + 1) * 4 = n * 4 + 1 + 1 + 1 + 1 by omega]
      rfl
theorem KS.take {w : World} {S : Nat → Prop} {f : Fo} {A : Option Addr} {c n : Nat} (h : KS w S f A c) (hn : n ≤ f.len) : KS w S (takeF n f) A c := by
  obtain ⟨hc, ys, h1, h2⟩ := h
  have hl := takeF_len n f hn
  refine ⟨by omega, ys.take (n * 4), ?_, takeF_row n f ys h2⟩
  intro hp
  obtain ⟨g, off, e, hS, hg, hcell⟩ := h1 (by omega)
  refine ⟨g, off, e, hS, hg, fun j u hu => hcell j u ?_⟩
  rw [List.getElem?_take] at hu
  split at hu
  · exact hu
  · cases hu

theorem rowT_one {w : World} {S : Nat → Prop} : ∀ (f : Fo) (ys : List Value), rowT w S f ys → ∀ u ∈ ys, u.oneCell' = true := by
  intro f
  induction f with
  | nil => intro ys h u hu; rw [show ys = [] from h] at hu; cases hu
  | cons k t kids o r _ ih =>
    rintro ys ⟨A, c, zs, us, rfl, _, _, _, h4⟩ u hu
    simp only [List.mem_cons] at hu
    rcases hu with rfl | rfl | rfl | rfl | hu
    · rfl
    · rfl
    · rfl
    · rfl
    · exact ih us h4 u hu

section
variable {P : Program} (w : World)
theorem run_append_none' (base : Nat) (t ty e : TypeId) (i : TypeInfo) (size c : Nat) (ht : P.underlying t = some (.slice e)) (hi : P.info? e = some i)
    (v : Value) (n : Nat) (xs : List Value) (hown : w.ownsRow base e size v n xs) : (Builtin.append_ #[t, t] ty #[v, .slice none 0 c]).run P w = .ok v w := by
  rcases hown.2 with ⟨rfl, rfl⟩ | ⟨g, cap, cur, rfl, _, _, hnc, _⟩
  · simp [Builtin.append_, run_underlying ht, sizeOf, typeInfo, hi, Builtin.lenOf, Builtin.firstCells]
  · simp [Builtin.append_, run_underlying ht, sizeOf, typeInfo, hi, Builtin.lenOf, Builtin.firstCells, hnc, storeCells]
/-- the slice (A, m, c) reads as the cells news -/
def Rea (w : World) (size : Nat) (A : Option Addr) (m : Nat) (news : List Value) : Prop :=
  news.length = m * size ∧ (∀ u ∈ news, u.oneCell' = true) ∧ (0 < m → ∃ g off : Nat, A = some ⟨g, off, none⟩ ∧ ∀ j u, news[j]? = some u → w.cell? ⟨g, off + j, none⟩ = some u)
theorem step_rea {ops : Array Oper} {o : Oper} {a : Act} {K : Act → World → Prop} {Q : Exit → Act → World → Prop} {E : Prop} (hgd : o.guard = none) (s x : Operand) (t : TypeId)
    (ho : o.op = .call { callee := .builtin .append, args := #[s, x], argTypes := #[t, t] })
    (base : Nat) (e : TypeId) (i : TypeInfo) (z : Value) (size bytes : Nat) (ht : P.underlying t = some (.slice e)) (hi : P.info? e = some i) (hz : i.zero = some z)
    (hsize : i.size = size) (hby : i.bytes = bytes) (hzs : z.cells.size = size) (hsz : 0 < size) (v : Value) (n : Nat) (xs : List Value) (hs : a.eval s = v) (hown : w.ownsRow base e size v n xs)
    (A : Option Addr) (m c : Nat) (news : List Value) (hx : a.eval x = .slice A m c) (hr : Rea w size A m news) (h63 : n + m ≤ maxLen) (hbytes : (n + m) * bytes ≤ 140737488355328) (hbase : base ≤ w.heap.size)
    (h : ∀ v' w', w'.ownsRow base e size v' (n + m) (xs ++ news) → w.grownBy w' v.ownBlock → (v'.ownBlock = v.ownBlock ∨ v'.ownBlock = some w.heap.size) → K (a.put o.dst v') w') :
    if Region.wanted o (yielded ops a.tmps) = true then Oper.wp P o a w K Q else E := by
  have hw : Region.wanted o (yielded ops a.tmps) = true := by simp [Region.wanted, hgd]
  rw [if_pos hw]
  obtain ⟨r1, r2, r3⟩ := hr
  have hrun : ∃ v' w', (Builtin.append_ #[t, t] o.type #[v, .slice A m c]).run P w = .ok v' w' ∧ w'.ownsRow base e size v' (n + m) (xs ++ news) ∧ w.grownBy w' v.ownBlock ∧ (v'.ownBlock = v.ownBlock ∨ v'.ownBlock = some w.heap.size) := by
    cases A with
    | none =>
      have hm : m = 0 := by
        rcases Nat.eq_zero_or_pos m with h0 | h0
        · exact h0
        · obtain ⟨_, _, e, _⟩ := r3 h0
          cases e
      subst hm
      obtain rfl : news = [] := List.eq_nil_of_length_eq_zero (by simpa using r1)
      exact ⟨v, w, run_append_none' w base t o.type e i size c ht hi v n xs hown, by simpa using hown, World.grownBy.refl w _, .inl rfl⟩
    | some ad =>
      have hcells : ∀ j u, news[j]? = some u → w.cell? (ad.add j) = some u := by
        intro j u hu
        rcases Nat.eq_zero_or_pos m with h0 | h0
        · obtain rfl : news = [] := List.eq_nil_of_length_eq_zero (by rw [r1, h0]; simp)
          cases hu
        · obtain ⟨g, off, e, hc⟩ := r3 h0
          cases e
          rw [add_none]
          exact hc j u hu
      obtain ⟨v', w', q1, q2, q3, _, q5⟩ := run_append_own_at (P := P) w base t o.type e i z size bytes ht hi hz hsize hby hzs hsz v n xs hown ad m c news r1 hcells r2 h63 hbytes hbase
      exact ⟨v', w', q1, q2, q3, q5⟩
  obtain ⟨v', w', hrun, h2, h3, h4⟩ := hrun
  unfold Oper.wp execOp
  simp only [ho, resolve, invoke, builtin, Sem.run_bind, Sem.run_pure, Result.andThen_ok, List.map_toArray, List.map_cons, List.map_nil, hs, hx, hrun]
  exact h v' w' h2 h3 h4
end
theorem Rea.bh {w X : World} {size m : Nat} {A : Option Addr} {news : List Value} (h : Rea w size A m news) (hb : BH w X) : Rea X size A m news := by
  refine ⟨h.1, h.2.1, fun hp => ?_⟩
  obtain ⟨g, off, e, hc⟩ := h.2.2 hp
  exact ⟨g, off, e, fun j u hu => (Below.cell hb (p := ⟨g, off + j, none⟩) (World.block_lt_of_cell? _ _ (hc j u hu))).trans (hc j u hu)⟩
theorem Rea.of_blk {X : World} {g : Nat} {e : TypeId} {cs : Array Value} {m size : Nat} (h : X.heap[g]? = some (.cells cs e (0, 0))) (hl : cs.size = m * size) (h1 : ∀ u ∈ cs.toList, u.oneCell' = true) : Rea X size (some ⟨g, 0, none⟩) m cs.toList := by
  refine ⟨by simpa using hl, h1, fun _ => ⟨g, 0, rfl, fun j u hu => ?_⟩⟩
  rw [Nat.zero_add, cell_of_row _ _ j _ _ _ h]
  simpa using hu
theorem below_own {a b b0 c : World} {e : TypeId} {n m : Nat} {v : Value} {xs : List Value} (h : BH a b) (hown : b0.ownsRow a.heap.size e n v m xs) (hg : b.grownBy c v.ownBlock) : BH a c := by
  cases hv : v.ownBlock with
  | none => rw [hv] at hg; exact BH.trans h (below_gb hg)
  | some g => rw [hv] at hg; exact below_gb_of h hg (hown.lt g hv).1
theorem KS.own {w6 : World} {S : Nat → Prop} {b0 n : Nat} {e : TypeId} {f : Fo} {xs : List Value} {A8 : Option Addr} {c8 : Nat} (hn : f.len = n) (ho : w6.ownsRow b0 e 4 (.slice A8 n c8) n xs) (hr : rowT w6 S f xs) : KS w6 (fun x => S x ∨ b0 ≤ x) f A8 c8 := by
  subst hn
  obtain ⟨h1, h2, h3, h4, h5⟩ := Cel.of_own ho
  refine ⟨h2, xs, fun hp => ?_, hr.keep (Nat.le_refl _) (fun x hx _ => ⟨rfl, .inl hx⟩) _⟩
  obtain ⟨g, off, e, hg, hc⟩ := h5 hp
  subst e
  exact ⟨g, off, rfl, .inr (ho.lt g (by rfl)).1, hg, hc⟩
theorem KS.rea {w : World} {S : Nat → Prop} {f : Fo} {A : Option Addr} {c : Nat} (h : KS w S f A c) : ∃ ys, Rea w 4 A f.len ys ∧ rowT w S f ys := by
  obtain ⟨hc, ys, h1, h2⟩ := h
  refine ⟨ys, ⟨h2.len, rowT_one f ys h2, fun hp => ?_⟩, h2⟩
  obtain ⟨g, off, e, _, _, hcell⟩ := h1 hp
  exact ⟨g, off, e, hcell⟩

/-- between two appends to the arguments of the term in block gM -/
structure RQ (w w3 wr : World) (S : Nat → Prop) (gM : Nat) (q o : Int) (t : List UInt8) (v : Value) (acc : Fo) (xs : List Value) : Prop where
  hS : ∀ x, S x → x < w.heap.size
  bel : BH w wr
  blkM : wr.heap[gM]? = some (.cells #[.int .i64 q, .string ⟨t.toArray⟩, .int .i64 o, v] 31 (0, 0))
  old : ∀ x, w.heap.size ≤ x → x < w3.heap.size → x ≠ gM → wr.heap[x]? = w3.heap[x]?
  own : wr.ownsRow w3.heap.size 31 4 v acc.len xs
  row : rowT wr (fun x => (S x ∨ w3.heap.size ≤ x) ∧ v.ownBlock ≠ some x) acc xs
  hM : w.heap.size ≤ gM ∧ gM < w3.heap.size
  size : w3.heap.size ≤ wr.heap.size
section
variable {w w3 wr w4 : World} {S : Nat → Prop} {gM : Nat} {q o : Int} {t : List UInt8} {v : Value} {acc : Fo} {xs : List Value}
theorem RQ.cell (h : RQ w w3 wr S gM q o t v acc xs) : wr.cell? ⟨gM, 3, none⟩ = some v ∧ wr.frozen? ⟨gM, 3, none⟩ = false := by
  obtain ⟨_, _, _, b3, _, _, _, y3⟩ := row4 h.blkM
  exact ⟨b3, y3⟩
theorem RQ.after (h : RQ w w3 wr S gM q o t v acc xs) (hb : BH wr w4) : RQ w w3 w4 S gM q o t v acc xs := by
  have hM := h.hM
  have hs := h.size
  have hw := Below.size h.bel
  refine ⟨h.hS, BH.trans h.bel hb, (Below.block hb _ (heap_lt h.blkM)).trans h.blkM, fun x hx hl hne => (Below.block hb _ (by omega)).trans (h.old x hx hl hne), ?_, ?_, hM, Nat.le_trans hs (Below.size hb)⟩
  · exact h.own.kept (row := none) (gb_below hb none) (by
      cases hv : v.ownBlock with
      | none => exact .inl rfl
      | some x => exact .inr (by simp))
  · exact h.row.keep (Below.size hb) (fun x hx hl => ⟨Below.block hb x hl, hx⟩) _
theorem RQ.drew (h : RQ w w3 wr S gM q o t v acc xs) : RQ w w3 wr.drew S gM q o t v acc xs := h.after (below_drew wr)
theorem RQ.boxed (h : RQ w w3 w4 S gM q o t v acc xs) {ob : Obj} {w5 : World} (hg : (w4.alloc ob).grownBy w5 v.ownBlock) : w5.heap[gM]? = some (.cells #[.int .i64 q, .string ⟨t.toArray⟩, .int .i64 o, v] 31 (0, 0)) := by
  have hM := h.hM
  have hs := h.size
  refine (hg.block _ (by simp; omega) ?_).trans ((Below.heap_alloc w4 ob _ (by omega)).trans h.blkM)
  intro e
  have := (h.own.lt _ e.symm).1
  omega
theorem RQ.push (h0 : RQ w w3 wr S gM q o t v acc xs) {q1 o1 : Int} {t1 : List UInt8} {kids : Fo} {A : Option Addr} {c : Nat} (hb4 : BH wr w4) (hk : KS w4 (fun x => S x ∨ wr.heap.size ≤ x) kids A c)
    {ob : Obj} {w5 : World} {v' : Value} (hg : (w4.alloc ob).grownBy w5 v.ownBlock) (hat : v'.ownBlock = v.ownBlock ∨ v'.ownBlock = some (w4.heap.size + 1))
    (hown : w5.ownsRow w3.heap.size 31 4 v' (acc.len + 1) (xs ++ [.int .i64 q1, .string ⟨t1.toArray⟩, .int .i64 o1, .slice A kids.len c])) :
    RQ w w3 (w5.setCell ⟨gM, 3, none⟩ v') S gM q o t v' (acc.app (.one q1 t1 kids o1)) (xs ++ [.int .i64 q1, .string ⟨t1.toArray⟩, .int .i64 o1, .slice A kids.len c]) := by
  have h := h0.after hb4
  have hM := h.hM
  have hs3 := h0.size
  have hs4 := Below.size hb4
  have hs5 := hg.size
  have hs5' : (w4.alloc ob).heap.size = w4.heap.size + 1 := by simp
  have hM5 := h.boxed hg
  have hlt : ∀ x, v.ownBlock = some x → w3.heap.size ≤ x ∧ x < wr.heap.size := fun x hx => h0.own.lt x hx
  have hto : ∀ x, x < w4.heap.size → v.ownBlock ≠ some x → w5.heap[x]? = w4.heap[x]? := fun x hx hne => (hg.block x (by omega) (fun e => hne e.symm)).trans (Below.heap_alloc w4 ob x hx)
  have hne' : ∀ x, x < w4.heap.size → v.ownBlock ≠ some x → v'.ownBlock ≠ some x := by
    intro x hx hne he
    rcases hat with h | h
    · exact hne (h.symm.trans he)
    · rw [h] at he
      simp only [Option.some.injEq] at he
      omega
  have hwM : ∀ x, x ≠ gM → (w5.setCell ⟨gM, 3, none⟩ v').heap[x]? = w5.heap[x]? := fun x hx => heap_far hx _
  have hss : w4.heap.size ≤ (w5.setCell ⟨gM, 3, none⟩ v').heap.size := by simp [size_set]; omega
  have hww : ∀ x, S x → x < w.heap.size := h.hS
  have hww3 : w.heap.size ≤ w3.heap.size := by omega
  have key : ∀ x, (S x ∨ wr.heap.size ≤ x) → x < w4.heap.size → (w5.setCell ⟨gM, 3, none⟩ v').heap[x]? = w4.heap[x]? ∧ ((S x ∨ w3.heap.size ≤ x) ∧ v'.ownBlock ≠ some x) := by
    intro x hx hl
    have hne : v.ownBlock ≠ some x := fun e => by
      have := hlt x e
      rcases hx with hx | hx
      · have := hww x hx; omega
      · omega
    have hxM : x ≠ gM := by
      rcases hx with hx | hx
      · have := hww x hx; omega
      · omega
    refine ⟨(hwM x hxM).trans (hto x hl hne), ?_, hne' x hl hne⟩
    rcases hx with hx | hx
    · exact .inl hx
    · exact .inr (by omega)
  obtain ⟨hc, ys, hr, hkk⟩ := hk
  refine ⟨h.hS, ?_, heap_set (i := 3) hM5 v', fun x hx hl hne => ?_, ?_, ?_, hM, by simp [size_set]; omega⟩
  · have hA : BH w (w4.alloc ob) := BH.trans h.bel (bh_alloc (BH.refl w4) ob)
    have hB : BH w w5 := by
      cases hv : v.ownBlock with
      | none => rw [hv] at hg; exact BH.trans hA (below_gb hg)
      | some g => rw [hv] at hg; exact below_gb_of hA hg (by have := hlt g hv; omega)
    exact below_gb_of hB (gb_setCell (World.grownBy.refl _ _) (.inl rfl) _) hM.1
  · have hne2 : v.ownBlock ≠ some x := fun e => by have := hlt x e; omega
    exact (hwM x hne).trans ((hto x (by omega) hne2).trans (h.old x hx hl hne))
  · rw [Fo.len_app]
    refine hown.kept (row := some gM) (gb_setCell (World.grownBy.refl _ _) (.inl rfl) _) ?_
    cases hv : v'.ownBlock with
    | none => exact .inl rfl
    | some x => exact .inr (by have := (hown.lt x hv).1; simp; omega)
  · refine rowT.app _ _ _ (rowT.one hc (hr.keep hss key) (hkk.keep hss key _)) _ (h0.row.keep (Nat.le_trans hs4 hss) ?_ _)
    rintro x ⟨hx, hne⟩ hl
    have hxM : x ≠ gM := by
      rcases hx with hx | hx
      · have := hww x hx; omega
      · omega
    exact ⟨(hwM x hxM).trans ((hto x (by omega) hne).trans (Below.block hb4 x hl)), hx, hne' x (by omega) hne⟩
theorem cell_allocQ (h : RQ w w3 w4 S gM q o t v acc xs) (ob : Obj) : (w4.alloc ob).cell? ⟨gM, 3, none⟩ = some v := by
  have hM := h.hM
  have hs := h.size
  exact (row4 ((Below.heap_alloc w4 ob _ (by omega)).trans h.blkM)).2.2.2.1
theorem rea_one {X : World} {g : Nat} {e : TypeId} {a b c d : Value} (h : X.heap[g]? = some (.cells #[a, b, c, d] e (0, 0))) (h1 : a.oneCell' = true := by rfl) (h2 : b.oneCell' = true := by rfl) (h3 : c.oneCell' = true := by rfl) (h4 : d.oneCell' = true := by rfl) : Rea X 4 (some ⟨g, 0, none⟩) 1 [a, b, c, d] := by
  refine ⟨rfl, ?_, fun _ => ⟨g, 0, rfl, fun j u hu => ?_⟩⟩
  · intro u hu
    simp only [List.mem_cons, List.not_mem_nil, or_false] at hu
    rcases hu with rfl | rfl | rfl | rfl
    · exact h1
    · exact h2
    · exact h3
    · exact h4
  · rw [Nat.zero_add, cell_of_row _ _ j _ _ _ h]
    simpa using hu
/-- what the loop leaves -/
theorem RQ.out {A5 : Option Addr} {c5 : Nat} (h : RQ w w3 wr S gM q o t (.slice A5 acc.len c5) acc xs) : KS wr (fun x => S x ∨ w3.heap.size ≤ x) acc A5 c5 := by
  obtain ⟨h1, h2, h3, h4, h5⟩ := Cel.of_own h.own
  refine ⟨h2, xs, fun hp => ?_, h.row.keep (Nat.le_refl _) (fun x hx _ => ⟨rfl, hx.1⟩) _⟩
  obtain ⟨g, off, e, hg, hc⟩ := h5 hp
  subst e
  exact ⟨g, off, rfl, .inr (h.own.lt g (by rfl)).1, hg, hc⟩
end
end Go.Proofs.Ytpdigaankmgagaa
