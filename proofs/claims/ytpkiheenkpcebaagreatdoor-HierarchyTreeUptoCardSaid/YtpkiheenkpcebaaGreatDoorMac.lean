/- A slice that reads as a row of cells, nil let in; append of such a slice to a row of the call's own. No condition. A region that draws its order, shown by what each operation leaves: whatever the order, each operation is met once, with what those before it have left. No condition. A term in one piece. No condition. -/
import Derived.Test.YtpkiheenkpcebaaGreatDoorMab
import Derived.Deep.RegionHeld3
import Derived.Laws.AppendOwnNone
import Derived.Maps.AppendAt
import Derived.Orders
set_option linter.unusedVariables false
set_option linter.unusedSimpArgs false
namespace Go.Proofs.YtpkiheenkpcebaaGreatDoor
open Go.RowKit Sx

/-- the slice (A, n, c) reads as the cells xs -/
def Cel (w : World) (size : Nat) (A : Option Addr) (n c : Nat) (xs : List Value) : Prop :=
  xs.length = n * size ∧ n ≤ c ∧ c ≤ maxLen ∧ (A = none → c = 0) ∧ (0 < n → ∃ g off : Nat, A = some ⟨g, off, none⟩ ∧ g < w.heap.size ∧ ∀ j u, xs[j]? = some u → w.cell? ⟨g, off + j, none⟩ = some u)

theorem add_none (g off j : Nat) : (⟨g, off, none⟩ : Addr).add j = ⟨g, off + j, none⟩ := by
  unfold Addr.add
  split
  · rename_i h; rw [h]; rfl
  · rfl
theorem Cel.nil (w : World) (size : Nat) : Cel w size none 0 0 [] := ⟨by simp, Nat.le_refl _, Nat.zero_le _, fun _ => rfl, fun h => absurd h (by omega)⟩
theorem Cel.keep {w w' : World} {size n c : Nat} {A : Option Addr} {xs : List Value} (h : Cel w size A n c xs) (hs : w.heap.size ≤ w'.heap.size) (hk : ∀ g off, A = some ⟨g, off, none⟩ → g < w.heap.size → w'.heap[g]? = w.heap[g]?) : Cel w' size A n c xs := by
  obtain ⟨h1, h2, h3, h4, h5⟩ := h
  refine ⟨h1, h2, h3, h4, fun hn => ?_⟩
  obtain ⟨g, off, e, hg, hc⟩ := h5 hn
  exact ⟨g, off, e, by omega, fun j u hu => (World.cell?_of_block (hk g off e hg)).trans (hc j u hu)⟩
theorem Cel.bh {w w' : World} {size n c : Nat} {A : Option Addr} {xs : List Value} (h : Cel w size A n c xs) (hb : BH w w') : Cel w' size A n c xs := h.keep (Below.size hb) fun g off _ hl => Below.block hb g hl
theorem Cel.take {w : World} {size n c k : Nat} {A : Option Addr} {xs : List Value} (h : Cel w size A n c xs) (hk : k ≤ n) : Cel w size A k c (xs.take (k * size)) := by
  obtain ⟨h1, h2, h3, h4, h5⟩ := h
  refine ⟨?_, by omega, h3, h4, fun hn => ?_⟩
  · have : k * size ≤ n * size := Nat.mul_le_mul_right _ hk
    rw [List.length_take]; omega
  obtain ⟨g, off, e, hg, hc⟩ := h5 (by omega)
  refine ⟨g, off, e, hg, fun j u hu => hc j u ?_⟩
  rw [List.getElem?_take] at hu
  split at hu
  · exact hu
  · cases hu
theorem Cel.drop {w : World} {size n c k : Nat} {A : Option Addr} {xs : List Value} (h : Cel w size A n c xs) (hk : k ≤ n) :
    Cel w size (if c = k then A else A.map (·.add (k * size))) (n - k) (c - k) (xs.drop (k * size)) := by
  obtain ⟨h1, h2, h3, h4, h5⟩ := h
  refine ⟨by rw [List.length_drop, h1, Nat.sub_mul], by omega, by omega, ?_, fun hn => ?_⟩
  · intro e
    split at e
    · have := h4 e; omega
    · cases A with
      | none => have := h4 rfl; omega
      | some a => cases e
  obtain ⟨g, off, rfl, hg, hc⟩ := h5 (by omega)
  rw [if_neg (by omega)]
  refine ⟨g, off + k * size, by rw [Option.map_some, add_none], hg, fun j u hu => ?_⟩
  rw [Nat.add_assoc]
  exact hc _ u (by rw [← hu, List.getElem?_drop])
theorem Cel.of_own {w : World} {base : Nat} {e : TypeId} {size n c : Nat} {A : Option Addr} {xs : List Value} (h : w.ownsRow base e size (.slice A n c) n xs) : Cel w size A n c xs := by
  have hcell := fun (g : Nat) (hg : Value.ownBlock (.slice A n c) = some g) => h.cells (g := g) hg
  rcases h.2 with ⟨hv, h0⟩ | ⟨g, cap, cur, hv, hb, hg, hnc, hcm, _⟩
  · cases hv
    refine ⟨h.1, Nat.le_refl _, Nat.zero_le _, fun _ => rfl, fun hn => absurd hn (by omega)⟩
  · cases hv
    refine ⟨h.1, hnc, hcm, (fun e => by cases e), fun hn => ⟨g, 0, rfl, heap_lt hg, fun j u hu => ?_⟩⟩
    have := hcell g rfl j u hu
    rwa [add_none] at this
theorem own0 {X : World} {g base : Nat} {e : TypeId} {size : Nat} (h : X.heap[g]? = some (.cells #[] e (0, 0))) (hb : base ≤ g) : X.ownsRow base e size (.slice (some ⟨g, 0, none⟩) 0 0) 0 [] :=
  ⟨by simp, .inr ⟨g, 0, #[], rfl, hb, h, Nat.le_refl _, Nat.zero_le _, by simp, by simp⟩⟩
/-- one new cell -/
theorem cel1 {X : World} {g : Nat} {e : TypeId} {x : Value} (h : X.heap[g]? = some (.cells #[x] e (0, 0))) : Cel X 1 (some ⟨g, 0, none⟩) 1 1 [x] := by
  refine ⟨rfl, Nat.le_refl _, by decide, (fun e => by cases e), fun _ => ⟨g, 0, rfl, heap_lt h, fun j u hu => ?_⟩⟩
  rw [Nat.zero_add, cell_of_row _ _ j _ _ _ h]
  simpa using hu

section
variable {P : Program} (w : World)
theorem run_app (base : Nat) (t ty e : TypeId) (i : TypeInfo) (z : Value) (size bytes : Nat) (ht : P.underlying t = some (.slice e)) (hi : P.info? e = some i) (hz : i.zero = some z)
    (hsize : i.size = size) (hby : i.bytes = bytes) (hzs : z.cells.size = size) (hsz : 0 < size) (v : Value) (n : Nat) (xs : List Value) (hown : w.ownsRow base e size v n xs)
    (A : Option Addr) (m c : Nat) (news : List Value) (hr : Cel w size A m c news) (h1 : ∀ u ∈ news, u.oneCell' = true) (h63 : n + m ≤ maxLen) (hbytes : (n + m) * bytes ≤ 140737488355328) (hbase : base ≤ w.heap.size) :
    ∃ v' w', (Builtin.append_ #[t, t] ty #[v, .slice A m c]).run P w = .ok v' w' ∧ w'.ownsRow base e size v' (n + m) (xs ++ news) ∧ w.grownBy w' v.ownBlock ∧ (v'.ownBlock = v.ownBlock ∨ v'.ownBlock = some w.heap.size) := by
  obtain ⟨r1, r2, r3, r4, r5⟩ := hr
  cases A with
  | none =>
    obtain rfl := r4 rfl
    obtain rfl : m = 0 := by omega
    obtain rfl : news = [] := List.eq_nil_of_length_eq_zero (by simpa using r1)
    exact ⟨v, w, run_append_owned_none (P := P) (w := w) base t ty e i size ht hi v n xs hown, by simpa using hown, World.grownBy.refl w _, .inl rfl⟩
  | some ad =>
    have hcells : ∀ j u, news[j]? = some u → w.cell? (ad.add j) = some u := by
      intro j u hu
      rcases Nat.eq_zero_or_pos m with h0 | h0
      · obtain rfl : news = [] := List.eq_nil_of_length_eq_zero (by rw [r1, h0]; simp)
        cases hu
      · obtain ⟨g, off, e, _, hc⟩ := r5 h0
        cases e
        rw [add_none]
        exact hc j u hu
    obtain ⟨v', w', q1, q2, q3, _, q5⟩ := run_append_own_at (P := P) w base t ty e i z size bytes ht hi hz hsize hby hzs hsz v n xs hown ad m c news r1 hcells h1 h63 hbytes hbase
    exact ⟨v', w', q1, q2, q3, q5⟩

theorem wp_app {o : Oper} {a : Act} {K : Act → World → Prop} {Q : Exit → Act → World → Prop} (s x : Operand) (t : TypeId)
    (ho : o.op = .call { callee := .builtin .append, args := #[s, x], argTypes := #[t, t] })
    (base : Nat) (e : TypeId) (i : TypeInfo) (z : Value) (size bytes : Nat) (ht : P.underlying t = some (.slice e)) (hi : P.info? e = some i) (hz : i.zero = some z)
    (hsize : i.size = size) (hby : i.bytes = bytes) (hzs : z.cells.size = size) (hsz : 0 < size) (v : Value) (n : Nat) (xs : List Value) (hs : a.eval s = v) (hown : w.ownsRow base e size v n xs)
    (A : Option Addr) (m c : Nat) (news : List Value) (hx : a.eval x = .slice A m c) (hr : Cel w size A m c news) (h1 : ∀ u ∈ news, u.oneCell' = true) (h63 : n + m ≤ maxLen) (hbytes : (n + m) * bytes ≤ 140737488355328) (hbase : base ≤ w.heap.size)
    (h : ∀ v' w', w'.ownsRow base e size v' (n + m) (xs ++ news) → w.grownBy w' v.ownBlock → (v'.ownBlock = v.ownBlock ∨ v'.ownBlock = some w.heap.size) → K (a.put o.dst v') w') : o.wp P a w K Q := by
  obtain ⟨v', w', hrun, h2, h3, h4⟩ := run_app (P := P) w base t o.type e i z size bytes ht hi hz hsize hby hzs hsz v n xs hown A m c news hr h1 h63 hbytes hbase
  unfold Oper.wp execOp
  simp only [ho, resolve, invoke, builtin, Sem.run_bind, Sem.run_pure, Result.andThen_ok, List.map_toArray, List.map_cons, List.map_nil, hs, hx, hrun]
  exact h v' w' h2 h3 h4

/-- at the operation of a plain region -/
theorem wpList_app {ops : Array Oper} {rest : List Oper} {o : Oper} {a : Act} {Q : Exit → Act → World → Prop} (hgd : o.guard = none) (s x : Operand) (t : TypeId)
    (ho : o.op = .call { callee := .builtin .append, args := #[s, x], argTypes := #[t, t] })
    (base : Nat) (e : TypeId) (i : TypeInfo) (z : Value) (size bytes : Nat) (ht : P.underlying t = some (.slice e)) (hi : P.info? e = some i) (hz : i.zero = some z)
    (hsize : i.size = size) (hby : i.bytes = bytes) (hzs : z.cells.size = size) (hsz : 0 < size) (v : Value) (n : Nat) (xs : List Value) (hs : a.eval s = v) (hown : w.ownsRow base e size v n xs)
    (A : Option Addr) (m c : Nat) (news : List Value) (hx : a.eval x = .slice A m c) (hr : Cel w size A m c news) (h1 : ∀ u ∈ news, u.oneCell' = true) (h63 : n + m ≤ maxLen) (hbytes : (n + m) * bytes ≤ 140737488355328) (hbase : base ≤ w.heap.size)
    (h : ∀ v' w', w'.ownsRow base e size v' (n + m) (xs ++ news) → w.grownBy w' v.ownBlock → (v'.ownBlock = v.ownBlock ∨ v'.ownBlock = some w.heap.size) → wpList P ops Q rest (a.put o.dst v') w') : wpList P ops Q (o :: rest) a w :=
  wpList_plain hgd fun _ hK => wp_app w s x t ho base e i z size bytes ht hi hz hsize hby hzs hsz v n xs hs hown A m c news hx hr h1 h63 hbytes hbase fun v' w' h2 h3 h4 => hK _ _ (h v' w' h2 h3 h4)

/-- at the step of a region that draws its order -/
theorem step_app {ops : Array Oper} {o : Oper} {a : Act} {K : Act → World → Prop} {Q : Exit → Act → World → Prop} {E : Prop} (hgd : o.guard = none) (s x : Operand) (t : TypeId)
    (ho : o.op = .call { callee := .builtin .append, args := #[s, x], argTypes := #[t, t] })
    (base : Nat) (e : TypeId) (i : TypeInfo) (z : Value) (size bytes : Nat) (ht : P.underlying t = some (.slice e)) (hi : P.info? e = some i) (hz : i.zero = some z)
    (hsize : i.size = size) (hby : i.bytes = bytes) (hzs : z.cells.size = size) (hsz : 0 < size) (v : Value) (n : Nat) (xs : List Value) (hs : a.eval s = v) (hown : w.ownsRow base e size v n xs)
    (A : Option Addr) (m c : Nat) (news : List Value) (hx : a.eval x = .slice A m c) (hr : Cel w size A m c news) (h1 : ∀ u ∈ news, u.oneCell' = true) (h63 : n + m ≤ maxLen) (hbytes : (n + m) * bytes ≤ 140737488355328) (hbase : base ≤ w.heap.size)
    (h : ∀ v' w', w'.ownsRow base e size v' (n + m) (xs ++ news) → w.grownBy w' v.ownBlock → (v'.ownBlock = v.ownBlock ∨ v'.ownBlock = some w.heap.size) → K (a.put o.dst v') w') :
    if Region.wanted o (yielded ops a.tmps) = true then Oper.wp P o a w K Q else E := by
  have hw : Region.wanted o (yielded ops a.tmps) = true := by simp [Region.wanted, hgd]
  rw [if_pos hw]
  exact wp_app w s x t ho base e i z size bytes ht hi hz hsize hby hzs hsz v n xs hs hown A m c news hx hr h1 h63 hbytes hbase h
end
end Go.Proofs.YtpkiheenkpcebaaGreatDoor
namespace Go.Proofs.YtpkiheenkpcebaaGreatDoor
open Go.RowKit

section
variable {P : Program} {ops : Array Oper} {Q : Exit → Act → World → Prop}

def unl (n : Nat) (listed : Array Bool) : Nat := (List.range n).countP fun i => !listed.getD i true
theorem countP_less {p q : Nat → Bool} {l : List Nat} {i : Nat} (hnd : l.Nodup) (hi : i ∈ l) (hp : p i = true) (hq : q i = false) (hs : ∀ j, j ≠ i → q j = p j) : l.countP q + 1 = l.countP p := by
  induction l with
  | nil => cases hi
  | cons x r ih =>
    obtain ⟨h1, h2⟩ := List.nodup_cons.1 hnd
    by_cases hx : x = i
    · subst hx
      have e : r.countP q = r.countP p := List.countP_congr fun j hj => by rw [hs j (fun e => h1 (e ▸ hj))]
      rw [List.countP_cons, List.countP_cons, hp, hq, e]
      simp
    · have hi' : i ∈ r := by
        rcases List.mem_cons.1 hi with e | h
        · exact absurd e.symm hx
        · exact h
      have := ih h2 hi'
      rw [List.countP_cons, List.countP_cons, hs x hx]
      omega
theorem unl_set {n i : Nat} {listed : Array Bool} (hs : listed.size = n) (hi : listed.getD i true = false) : unl n (listed.setIfInBounds i true) + 1 = unl n listed := by
  have hlt : i < listed.size := by
    rcases Nat.lt_or_ge i listed.size with h | h
    · exact h
    · simp [Array.getElem?_eq_none h] at hi
  have hin : i < n := by omega
  refine countP_less (i := i) List.nodup_range (List.mem_range.2 hin) (by simp only [hi]; rfl) ?_ (fun j hj => ?_)
  · simp [Array.getElem?_setIfInBounds, hlt]
  · simp [Array.getElem?_setIfInBounds, Ne.symm hj]

theorem all_of_unl {n : Nat} {listed : Array Bool} (hs : listed.size = n) (h : unl n listed = 0) : ∀ i, i < n → listed.getD i false = true := by
  intro i hi
  have := List.countP_eq_zero.1 h i (List.mem_range.2 hi)
  have hlt : i < listed.size := by omega
  simpa [hlt] using this
theorem all_of_ready (hback : ∀ i o, ops[i]? = some o → ∀ e ∈ o.after, Region.binds .any e = true → e.on < i) {listed : Array Bool} (hs : listed.size = ops.size) (hr : Region.ready .any ops listed = []) :
    ∀ i, i < ops.size → listed.getD i false = true := by
  intro i
  induction i using Nat.strongRecOn with
  | ind i ih =>
    intro hi
    cases hc : listed.getD i false with
    | true => rfl
    | false =>
      exfalso
      have hlt : i < listed.size := by omega
      have hf : listed.getD i true = false := by simpa [hlt] using hc
      have : i ∈ Region.ready .any ops listed := mem_ready.2 ⟨hf, ops[i], by simp [hi], fun e he hb => ih e.on (hback i _ (by simp [hi]) e he hb) (Nat.lt_trans (hback i _ (by simp [hi]) e he hb) hi)⟩
      rw [hr] at this
      cases this

/-- the region by an invariant of what has been met -/
theorem wpAny_inv (hback : ∀ i o, ops[i]? = some o → ∀ e ∈ o.after, Region.binds .any e = true → e.on < i) (I : Array Bool → Act → World → Prop)
    (hstep : ∀ listed a w i, listed.size = ops.size → I listed a w → i ∈ Region.ready .any ops listed → wpOp P ops Q i (fun a' w' => I (listed.setIfInBounds i true) a' w') a w)
    (hdone : ∀ listed a w, I listed a w → (∀ i, i < ops.size → listed.getD i false = true) → Q .normal a w) :
    ∀ fuel (listed : Array Bool) a w, listed.size = ops.size → unl ops.size listed ≤ fuel → I listed a w → wpAny P .any ops Q fuel listed a w := by
  intro fuel
  induction fuel with
  | zero =>
    intro listed a w hs hu h
    have hall := all_of_unl hs (by omega)
    refine ⟨?_, hdone _ _ _ h hall⟩
    cases hr : Region.ready .any ops listed with
    | nil => rfl
    | cons x r =>
      have hx : x ∈ Region.ready .any ops listed := by rw [hr]; exact List.mem_cons_self
      obtain ⟨h1, o, ho, _⟩ := mem_ready.1 hx
      have hlt : x < ops.size := by
        rcases Nat.lt_or_ge x ops.size with h | h
        · exact h
        · rw [Array.getElem?_eq_none h] at ho; cases ho
      have h2 := hall x hlt
      have : x < listed.size := by omega
      simp [this] at h1 h2
      rw [h1] at h2
      cases h2
  | succ fuel ih =>
    intro listed a w hs hu h
    refine ⟨fun hr => hdone _ _ _ h (all_of_ready hback hs hr), fun i hi => ?_⟩
    have hun := unl_set (n := ops.size) hs (mem_ready.1 hi).1
    exact wpOp_mono (fun a' w' h' => ih _ a' w' (by simpa using hs) (by omega) h') (hstep listed a w i hs h hi)

/-- what stands in the frame ahead of the region and is not written in it -/
structure Frm (ops : Array Oper) (a0 a : Act) : Prop where
  size : a.tmps.size = a0.tmps.size
  defers : a.defers = a0.defers
  same : ∀ t, (∀ (i : Nat) (o : Oper), ops[i]? = some o → o.dst ≠ some t) → a.tmps.getD t undef = a0.tmps.getD t undef
/-- what the operations ahead of o have left -/
def Deps (V : Nat → Value → World → Prop) (ops : Array Oper) (o : Oper) (a : Act) (w : World) : Prop :=
  ∀ j oj d, (o.after.any fun e => Region.binds .any e && e.on == j) = true → ops[j]? = some oj → oj.dst = some d → V j (a.tmps.getD d undef) w
/-- what an operation is to leave -/
def Hop (P : Program) (ops : Array Oper) (Q : Exit → Act → World → Prop) (V : Nat → Value → World → Prop) (a0 : Act) (w0 : World) (i : Nat) (o : Oper) : Prop :=
  ∀ a w, BH w0 w → Frm ops a0 a → Deps V ops o a w → o.wp P a w (fun a' w' => ∃ v, a' = a.put o.dst v ∧ V i v w' ∧ BH w w') Q
def Hops (P : Program) (ops : Array Oper) (Q : Exit → Act → World → Prop) (V : Nat → Value → World → Prop) (a0 : Act) (w0 : World) : Nat → List Oper → Prop
  | _, [] => True
  | i, o :: r => Hop P ops Q V a0 w0 i o ∧ Hops P ops Q V a0 w0 (i + 1) r
theorem Hops.get {V : Nat → Value → World → Prop} {a0 : Act} {w0 : World} : ∀ {l : List Oper} {n : Nat}, Hops P ops Q V a0 w0 n l → ∀ {i : Nat} {o : Oper}, l[i]? = some o → Hop P ops Q V a0 w0 (n + i) o := by
  intro l
  induction l with
  | nil => intro n _ i o h; cases h
  | cons x r ih =>
    intro n h i o hi
    cases i with
    | zero => simp at hi; subst hi; exact h.1
    | succ i =>
      have := ih h.2 (i := i) (o := o) (by simpa using hi)
      rwa [Nat.add_assoc, Nat.add_comm 1 i] at this

def okOps (ops : Array Oper) (n : Nat) : Bool :=
  (List.range ops.size).all fun i => match ops[i]? with
    | none => true
    | some o => o.guard.isNone && (o.after.all fun e => !Region.binds .any e || decide (e.on < i)) && (match o.dst with
      | none => false
      | some d => decide (d < n) && (List.range ops.size).all fun j => j == i || (match ops[j]? with | some oj => oj.dst != some d | none => true))

theorem wp_region_facts {id : Nat} {a0 : Act} {w0 : World} (hm : P.follows .mixedOrders = true) (V : Nat → Value → World → Prop) (hV : ∀ i v w w', V i v w → BH w w' → V i v w')
    (hok : okOps ops a0.tmps.size = true) (hops : Hops P ops Q V a0 w0 0 ops.toList)
    (hdone : ∀ a w, BH w0 w → Frm ops a0 a → (∀ i o d, ops[i]? = some o → o.dst = some d → V i (a.tmps.getD d undef) w) → Q .normal a w) : (Code.region id ops true).wp P Q a0 w0 := by
  have hok' : ∀ i o, ops[i]? = some o → o.guard = none ∧ (∀ e ∈ o.after, Region.binds .any e = true → e.on < i) ∧ ∃ d, o.dst = some d ∧ d < a0.tmps.size ∧ ∀ j oj, ops[j]? = some oj → j ≠ i → oj.dst ≠ some d := by
    intro i o ho
    have hlt : i < ops.size := by
      rcases Nat.lt_or_ge i ops.size with h | h
      · exact h
      · rw [Array.getElem?_eq_none h] at ho; cases ho
    have h := List.all_eq_true.1 hok i (List.mem_range.2 hlt)
    simp only [ho] at h
    rw [Bool.and_eq_true, Bool.and_eq_true] at h
    obtain ⟨⟨h1, h2⟩, h3⟩ := h
    refine ⟨by simpa using h1, fun e he hb => ?_, ?_⟩
    · have := Array.all_eq_true'.1 h2 e he
      rw [hb] at this
      simpa using this
    · cases hd : o.dst with
      | none => rw [hd] at h3; cases h3
      | some d =>
        rw [hd] at h3
        simp only [Bool.and_eq_true, decide_eq_true_eq] at h3
        refine ⟨d, rfl, h3.1, fun j oj hj hne e => ?_⟩
        have hjl : j < ops.size := by
          rcases Nat.lt_or_ge j ops.size with h | h
          · exact h
          · rw [Array.getElem?_eq_none h] at hj; cases hj
        have := List.all_eq_true.1 h3.2 j (List.mem_range.2 hjl)
        simp [hj, e, hne] at this
  refine wp_region_any hm ?_
  refine wpAny_inv (P := P) (ops := ops) (Q := Q) (fun i o ho => (hok' i o ho).2.1) (fun listed a w => BH w0 w ∧ Frm ops a0 a ∧ ∀ i o d, listed.getD i false = true → ops[i]? = some o → o.dst = some d → V i (a.tmps.getD d undef) w) ?_ ?_ _ _ _ _ (by simp) ?_ ⟨BH.drew w0, ⟨rfl, rfl, fun _ _ => rfl⟩, ?_⟩
  · rintro listed a w i hs ⟨hB, hF, hL⟩ hi
    obtain ⟨hun, o, ho, hdep⟩ := mem_ready.1 hi
    obtain ⟨hg, hb, d, hd, hdlt, hdis⟩ := hok' i o ho
    have H := Hops.get hops (i := i) (o := o) (by simpa using ho)
    rw [Nat.zero_add] at H
    unfold wpOp
    simp only [ho]
    rw [if_pos (by simp [Region.wanted, hg])]
    refine .inl (Oper.wp_mono ?_ (H a w hB hF ?_))
    · rintro a' w' ⟨v, rfl, hv, hbw⟩
      have hput : ∀ t, (a.put o.dst v).tmps.getD t undef = if t = d then v else a.tmps.getD t undef := by
        intro t
        rw [hd]
        simp only [Act.put]
        have : d < a.tmps.size := by rw [hF.size]; exact hdlt
        by_cases htd : t = d
        · subst htd
          simp [Array.getElem?_setIfInBounds, this]
        · rw [if_neg htd]
          simp [Array.getElem?_setIfInBounds, Ne.symm htd]
      refine ⟨BH.trans hB hbw, ⟨?_, ?_, fun t ht => ?_⟩, fun j oj dj hj hoj hdj => ?_⟩
      · rw [hd]; simp only [Act.put, Array.size_setIfInBounds]; exact hF.size
      · rw [hd]; exact hF.defers
      · rw [hput, if_neg (fun e => ht i o ho (by rw [hd, e]))]
        exact hF.same t ht
      · rw [hput]
        by_cases hji : j = i
        · subst hji
          rw [ho] at hoj
          cases hoj
          rw [hd] at hdj
          cases hdj
          rw [if_pos rfl]
          exact hv
        · rw [if_neg (fun e => hdis j oj hoj hji (by rw [hdj, e]))]
          refine hV _ _ _ _ (hL j oj dj ?_ hoj hdj) hbw
          simpa [Array.getElem?_setIfInBounds, Ne.symm hji] using hj
    · intro j oj dj hj hoj hdj
      obtain ⟨e, he, h2⟩ := Array.any_eq_true'.1 hj
      simp only [Bool.and_eq_true, beq_iff_eq] at h2
      obtain ⟨h2, rfl⟩ := h2
      exact hL _ oj dj (hdep e he h2) hoj hdj
  · rintro listed a w ⟨hB, hF, hL⟩ hall
    refine hdone a w hB hF fun i o d ho hd => hL i o d (hall i ?_) ho hd
    rcases Nat.lt_or_ge i ops.size with h | h
    · exact h
    · rw [Array.getElem?_eq_none h] at ho; cases ho
  · unfold unl
    exact Nat.le_trans List.countP_le_length (by simp)
  · intro i o d hi
    simp [Array.getElem?_replicate] at hi
    split at hi <;> simp_all
end
theorem same_of {ops : Array Oper} {a0 a : Act} (h : Frm ops a0 a) (t : Nat) (hb : (ops.all fun o => o.dst != some t) = true) : a.tmps[t]?.getD undef = a0.tmps.getD t undef := by
  rw [← Array.getD_eq_getD_getElem?]
  refine h.same t fun i o ho e => ?_
  have := Array.all_eq_true'.1 hb o (Array.mem_of_getElem? ho)
  rw [e] at this
  simp at this
theorem dep_of {V : Nat → Value → World → Prop} {ops : Array Oper} {o : Oper} {a : Act} {w : World} (h : Deps V ops o a w) (j d : Nat) {oj : Oper} (hb : (o.after.any fun e => Region.binds .any e && e.on == j) = true) (hj : ops[j]? = some oj) (hd : oj.dst = some d) : V j (a.tmps[d]?.getD undef) w := by
  rw [← Array.getD_eq_getD_getElem?]
  exact h j oj d hb hj hd
end Go.Proofs.YtpkiheenkpcebaaGreatDoor
namespace Go.Proofs.YtpkiheenkpcebaaGreatDoor.Sx
structure Tm where
  k : Int
  t : List UInt8
  kids : Fo
  o : Int
def Tm.fo (x : Tm) : Fo := .one x.k x.t x.kids x.o
end Go.Proofs.YtpkiheenkpcebaaGreatDoor.Sx
