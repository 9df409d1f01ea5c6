/- Maps keyed by strings whose elements are any values: what a look-up answers, what a store of a new key leaves. No condition. Declarations with fields in memory, in blocks of S; a hierarchy in memory. No condition. -/
import Derived.Test.YtpkiheenkpcebaaGreatDoorMab
import Derived.Maps.Own
import Derived.Test.YtpkiheenkpcebaaGreatDoorMae
import Derived.Test.YtpkiheenkpcebaaGreatDoorMaf
set_option linter.unusedVariables false
set_option linter.unusedSimpArgs false
namespace Go.Proofs.YtpkiheenkpcebaaGreatDoor
open Go.RowKit Go.Maps Go.ChangeMaps Go.MapKept Sx

abbrev strV (s : List UInt8) : Value := .string ⟨s.toArray⟩
/-- block b is a map that holds the pairs l, in the order in which they were stored -/
def MapL (w : World) (b : Nat) (l : List (List UInt8 × Value)) : Prop :=
  ∃ es clock, w.heap[b]? = some (.map es clock) ∧ es.toList.map (fun e => (e.key, e.val)) = l.map (fun p => (strV p.1, p.2)) ∧ (l.map Prod.fst).Nodup ∧ ∀ p ∈ l, p.1.length ≤ maxLen
def getM (l : List (List UInt8 × Value)) (s : List UInt8) : Option Value := (l.find? fun p => decide (p.1 = s)).map Prod.snd
/-- what 'm[k]' and 'v, ok := m[k]' answer -/
def lookV (r : Option Value) (c : Bool) (z : Value) : Value :=
  match r with
  | some v => if c then .tuple #[v, .bool true] else v
  | none => if c then .tuple #[z, .bool false] else z
theorem strV_inj {s t : List UInt8} (h : strV s = strV t) : s = t := by
  have := congrArg (fun v : Value => match v with | .string b => b.data.toList | _ => []) h
  simpa using this

theorem getM_none {l : List (List UInt8 × Value)} {s : List UInt8} (h : ∀ p ∈ l, p.1 ≠ s) : getM l s = none := by
  rw [getM, List.find?_eq_none.2 (fun p hp => by simpa using h p hp)]
  rfl
theorem getM_some {l : List (List UInt8 × Value)} {s : List UInt8} {v : Value} (hn : (l.map Prod.fst).Nodup) (h : (s, v) ∈ l) : getM l s = some v := by
  induction l with
  | nil => cases h
  | cons q r ih =>
    rw [List.map_cons, List.nodup_cons] at hn
    rw [getM, List.find?_cons]
    rcases List.mem_cons.1 h with rfl | h
    · simp
    · have hne : ¬ q.1 = s := fun e => hn.1 (by rw [e]; exact List.mem_map.2 ⟨(s, v), h, rfl⟩)
      simp only [decide_eq_false hne]
      exact ih hn.2 h
theorem getM_mem {l : List (List UInt8 × Value)} {s : List UInt8} {v : Value} (h : getM l s = some v) : (s, v) ∈ l := by
  rw [getM, Option.map_eq_some_iff] at h
  obtain ⟨p, hp, rfl⟩ := h
  have h1 := List.find?_some hp
  have h2 := List.mem_of_find?_eq_some hp
  obtain rfl : p.1 = s := by simpa using h1
  exact h2

theorem MapL.lt {w : World} {b : Nat} {l : List (List UInt8 × Value)} (h : MapL w b l) : b < w.heap.size := by
  obtain ⟨es, clock, hb, _⟩ := h
  exact (Array.getElem?_eq_some_iff.1 hb).1
theorem MapL.keep {w w' : World} {b : Nat} {l : List (List UInt8 × Value)} (h : MapL w b l) (hk : w'.heap[b]? = w.heap[b]?) : MapL w' b l := by
  obtain ⟨es, clock, hb, h⟩ := h
  exact ⟨es, clock, hk.trans hb, h⟩
theorem MapL.made (w : World) : MapL (w.alloc (.map #[] 0)) w.heap.size [] := ⟨#[], 0, (MapKept.heap_alloc w _).1, by simp, by simp, fun _ h => by cases h⟩

section
variable {P : Program} {t k e : TypeId} {w : World} {b : Nat} {l : List (List UInt8 × Value)}
theorem MapL.key (hk : P.underlying k = some .string) {s : List UInt8} (hs : s.length ≤ maxLen) : keyOf P k (strV s) = some (.string s) := by
  rw [WideMaps.keyOf_string_mk hk (by simpa [ByteArray.size] using hs)]
theorem MapL.keys (hk : P.underlying k = some .string) {es : Array MapEntry} (he : es.toList.map (fun e => (e.key, e.val)) = l.map (fun p => (strV p.1, p.2))) (hl : ∀ p ∈ l, p.1.length ≤ maxLen) : ∀ e ∈ es.toList, ∃ lt, keyOf P k e.key = some lt := by
  intro e hm
  have h : (e.key, e.val) ∈ l.map (fun p => (strV p.1, p.2)) := by rw [← he]; exact List.mem_map.2 ⟨e, hm, rfl⟩
  obtain ⟨p, hp, hpe⟩ := List.mem_map.1 h
  obtain ⟨h1, _⟩ := Prod.mk.inj hpe
  exact ⟨_, by rw [← h1]; exact MapL.key hk (hl p hp)⟩

theorem MapL.look (h : MapL w b l) (hk : P.underlying k = some .string) (ht : P.underlying t = some (.map k e)) {z : Value} (hz : (zeroValue e).run P w = .ok z w) {s : List UInt8} (hs : s.length ≤ maxLen) (c : Bool) :
    (Instr.lookup t (.map (some b)) (strV s) c).run P w = .ok (lookV (getM l s) c z) w := by
  obtain ⟨es, clock, hb, he, hn, hl⟩ := h
  have K : Keyed P k := string_keyed hk
  have hkey := MapL.key (P := P) hk hs
  rcases K.find w hkey es.toList (MapL.keys hk he hl) with ⟨h1, h2⟩ | ⟨j, e0, h1, h2, h3⟩
  · have hg : getM l s = none := getM_none fun p hp hps => by
      have hm : (strV p.1, p.2) ∈ es.toList.map (fun e => (e.key, e.val)) := by rw [he]; exact List.mem_map.2 ⟨p, hp, rfl⟩
      obtain ⟨e', he', hee⟩ := List.mem_map.1 hm
      exact h2 e' he' (by rw [(Prod.mk.inj hee).1, hps])
    rw [hg]
    simp [Instr.lookup, run_underlying ht, MapKept.run_getObj_map hb, K.check w _ hkey, h1, hz, Result.andThen, lookV]
  · have hm : (e0.key, e0.val) ∈ l.map (fun p => (strV p.1, p.2)) := by rw [← he]; exact List.mem_map.2 ⟨e0, List.mem_of_getElem? h2, rfl⟩
    obtain ⟨p, hp, hpe⟩ := List.mem_map.1 hm
    obtain ⟨q1, q2⟩ := Prod.mk.inj hpe
    obtain rfl := strV_inj (q1.trans h3)
    have hg : getM l p.1 = some e0.val := by
      rw [← q2]
      exact getM_some hn hp
    rw [hg]
    simp [Instr.lookup, run_underlying ht, MapKept.run_getObj_map hb, K.check w _ hkey, h1, Result.andThen, lookV]

theorem MapL.push (h : MapL w b l) (hk : P.underlying k = some .string) (ht : P.underlying t = some (.map k e)) {s : List UInt8} (hs : s.length ≤ maxLen) (v : Value) (hnew : getM l s = none) :
    ∃ w', (Instr.mapUpdate t (.map (some b)) (strV s) v).run P w = .ok () w' ∧ MapL w' b (l ++ [(s, v)]) ∧ w.grownBy w' (some b) ∧ w'.heap.size = w.heap.size := by
  obtain ⟨es, clock, hb, he, hn, hl⟩ := h
  have K : Keyed P k := string_keyed hk
  have hkey := MapL.key (P := P) hk hs
  have hfresh : ∀ p ∈ l, p.1 ≠ s := by
    intro p hp hps
    have := getM_some hn (show (s, p.2) ∈ l by rw [← hps]; exact hp)
    rw [hnew] at this
    cases this
  rcases K.find w hkey es.toList (MapL.keys hk he hl) with ⟨h1, h2⟩ | ⟨j, e0, h1, h2, h3⟩
  · refine ⟨setBlock w b (.map (es.push ⟨strV s, v, clock⟩) (clock + 1)), ?_, ⟨es.push ⟨strV s, v, clock⟩, clock + 1, heap_setBlock_same hb _, ?_, ?_, ?_⟩, ⟨rfl, rfl, rfl, by simp [setBlock], fun i _ hi => heap_setBlock_other hb _ (fun e => hi (by rw [e]))⟩, by simp [setBlock]⟩
    · simp [Instr.mapUpdate, run_underlying ht, MapKept.run_getObj_map hb, K.check w false hkey, h1, MapKept.run_setObj_map _ hb, Result.andThen, setBlock]
    · rw [Array.toList_push, List.map_append, he, List.map_append]
      rfl
    · rw [List.map_append, List.nodup_append]
      refine ⟨hn, by simp, ?_⟩
      intro a ha c hc e
      subst e
      simp at hc
      subst hc
      obtain ⟨p, hp, hpe⟩ := List.mem_map.1 ha
      exact hfresh p hp hpe
    · intro p hp
      rcases List.mem_append.1 hp with hp | hp
      · exact hl p hp
      · simp at hp
        subst hp
        exact hs
  · exfalso
    have hm : (e0.key, e0.val) ∈ l.map (fun p => (strV p.1, p.2)) := by rw [← he]; exact List.mem_map.2 ⟨e0, List.mem_of_getElem? h2, rfl⟩
    obtain ⟨p, hp, hpe⟩ := List.mem_map.1 hm
    obtain ⟨q1, q2⟩ := Prod.mk.inj hpe
    exact hfresh p hp (strV_inj (q1.trans h3))
end

/-- 'm[k] = v' of a new key, at the operation -/
theorem wpList_mapPush {P : Program} (w : World) {ops : Array Oper} {rest : List Oper} {o : Oper} {a : Act} {Q : Exit → Act → World → Prop} (hg : o.guard = none) (m x v : Operand) (t : TypeId) (hop : o.op = Op.mapUpdate t m x v)
    (k e : TypeId) (hk : P.underlying k = some .string) (ht : P.underlying t = some (.map k e)) (b : Nat) (l : List (List UInt8 × Value)) (hm : a.eval m = .map (some b)) (hown : MapL w b l) (s : List UInt8) (hs : s.length ≤ maxLen) (val : Value) (hx : a.eval x = strV s) (hv : a.eval v = val) (hnew : getM l s = none)
    (hK : ∀ w', MapL w' b (l ++ [(s, val)]) → w.grownBy w' (some b) → w'.heap.size = w.heap.size → wpList P ops Q rest (a.put o.dst undef) w') : wpList P ops Q (o :: rest) a w := by
  refine wpList_plain hg fun K' hK' => ?_
  obtain ⟨w', hrun, r1, r2, r3⟩ := hown.push (P := P) (t := t) hk ht hs val hnew
  unfold Oper.wp
  simp [execOp, hop, hm, hx, hv, hrun, Result.andThen]
  exact hK' _ _ (hK w' r1 r2 r3)
end Go.Proofs.YtpkiheenkpcebaaGreatDoor
namespace Go.Proofs.YtpkiheenkpcebaaGreatDoor
open Go.RowKit Sx

/-- the five cells of a field -/
def five (n : List UInt8) (x : Tm) (A : Option Addr) (c : Nat) : List Value := [.string ⟨n.toArray⟩, .int .i64 x.k, .string ⟨x.t.toArray⟩, .int .i64 x.o, .slice A x.kids.len c]
/-- the cells xs are the fields fs, their types in blocks of S -/
def FX (w : World) (S : Nat → Prop) : List (List UInt8 × Tm) → List Value → Prop
  | [], xs => xs = []
  | f :: fs, xs => ∃ A c zs, xs = five f.1 f.2 A c ++ zs ∧ KS w S f.2.kids A c ∧ FX w S fs zs
theorem FX.keep {w w' : World} {S S' : Nat → Prop} (hs : w.heap.size ≤ w'.heap.size) (hk : ∀ x, S x → x < w.heap.size → w'.heap[x]? = w.heap[x]? ∧ S' x) : ∀ (fs : List (List UInt8 × Tm)) (xs : List Value), FX w S fs xs → FX w' S' fs xs := by
  intro fs
  induction fs with
  | nil => intro xs h; exact h
  | cons f fs ih =>
    rintro xs ⟨A, c, zs, e, h1, h2⟩
    exact ⟨A, c, zs, e, h1.keep hs hk, ih zs h2⟩
theorem FX.len {w : World} {S : Nat → Prop} : ∀ (fs : List (List UInt8 × Tm)) (xs : List Value), FX w S fs xs → xs.length = fs.length * 5 := by
  intro fs
  induction fs with
  | nil => intro xs h; rw [show xs = [] from h]; rfl
  | cons f fs ih =>
    rintro xs ⟨A, c, zs, rfl, h1, h2⟩
    rw [List.length_append, ih zs h2, List.length_cons]
    simp [five]
    omega
theorem FX.one {w : World} {S : Nat → Prop} : ∀ (fs : List (List UInt8 × Tm)) (xs : List Value), FX w S fs xs → ∀ u ∈ xs, u.oneCell' = true := by
  intro fs
  induction fs with
  | nil => intro xs h u hu; rw [show xs = [] from h] at hu; cases hu
  | cons f fs ih =>
    rintro xs ⟨A, c, zs, rfl, h1, h2⟩ u hu
    rcases List.mem_append.1 hu with hu | hu
    · simp only [five, List.mem_cons, List.not_mem_nil, or_false] at hu
      rcases hu with rfl | rfl | rfl | rfl | rfl <;> rfl
    · exact ih zs h2 u hu
theorem FX.app {w : World} {S : Nat → Prop} {gs : List (List UInt8 × Tm)} {ys : List Value} (hg : FX w S gs ys) : ∀ (fs : List (List UInt8 × Tm)) (xs : List Value), FX w S fs xs → FX w S (fs ++ gs) (xs ++ ys) := by
  intro fs
  induction fs with
  | nil => intro xs h; rw [show xs = [] from h]; exact hg
  | cons f fs ih =>
    rintro xs ⟨A, c, zs, rfl, h1, h2⟩
    exact ⟨A, c, zs ++ ys, by rw [List.append_assoc], h1, ih zs h2⟩
theorem FX.single {w : World} {S : Nat → Prop} {n : List UInt8} {x : Tm} {A : Option Addr} {c : Nat} (h : KS w S x.kids A c) : FX w S [(n, x)] (five n x A c) := ⟨A, c, [], by simp, h, rfl⟩
theorem FX.split {w : World} {S : Nat → Prop} : ∀ (fs : List (List UInt8 × Tm)) (xs : List Value) (i : Nat) (n : List UInt8) (x : Tm), FX w S fs xs → fs[i]? = some (n, x) →
    ∃ ys A c zs, xs = ys ++ (five n x A c ++ zs) ∧ ys.length = i * 5 ∧ FX w S (fs.take i) ys ∧ KS w S x.kids A c ∧ FX w S (fs.drop (i + 1)) zs := by
  intro fs
  induction fs with
  | nil => intro xs i n x _ h; cases h
  | cons f fs ih =>
    rintro xs i n x ⟨A, c, zs, rfl, h1, h2⟩ hi
    cases i with
    | zero =>
      simp at hi
      subst hi
      exact ⟨[], A, c, zs, rfl, rfl, rfl, h1, h2⟩
    | succ i =>
      obtain ⟨ys, A', c', zs', rfl, hl, h3, h4, h5⟩ := ih zs i n x h2 (by simpa using hi)
      refine ⟨five f.1 f.2 A c ++ ys, A', c', zs', by rw [List.append_assoc], ?_, ⟨A, c, ys, rfl, h1, h3⟩, h4, h5⟩
      rw [List.length_append, hl]
      simp [five]
      omega
/-- the slice (A, fs.length, c) reads as the fields fs, in blocks of S -/
def FlS (w : World) (S : Nat → Prop) (fs : List (List UInt8 × Tm)) (A : Option Addr) (c : Nat) : Prop := fs.length ≤ c ∧ ∃ ys, readsAt w S A fs.length ys ∧ FX w S fs ys
theorem FlS.keep {w w' : World} {S S' : Nat → Prop} {fs : List (List UInt8 × Tm)} {A : Option Addr} {c : Nat} (h : FlS w S fs A c) (hs : w.heap.size ≤ w'.heap.size) (hk : ∀ x, S x → x < w.heap.size → w'.heap[x]? = w.heap[x]? ∧ S' x) : FlS w' S' fs A c := by
  obtain ⟨hc, ys, h1, h2⟩ := h
  exact ⟨hc, ys, h1.keep hs hk, FX.keep hs hk _ _ h2⟩
theorem FlS.bh {w w' : World} {S : Nat → Prop} {fs : List (List UInt8 × Tm)} {A : Option Addr} {c : Nat} (h : FlS w S fs A c) (hb : BH w w') : FlS w' S fs A c := h.keep (Below.size hb) fun x hx hl => ⟨Below.block hb x hl, hx⟩
theorem FlS.nil (w : World) (S : Nat → Prop) : FlS w S [] none 0 := ⟨Nat.le_refl _, [], reads_nil _ _, rfl⟩
theorem FlS.rea {w : World} {S : Nat → Prop} {fs : List (List UInt8 × Tm)} {A : Option Addr} {c : Nat} (h : FlS w S fs A c) : ∃ ys, Rea w 5 A fs.length ys ∧ FX w S fs ys := by
  obtain ⟨hc, ys, h1, h2⟩ := h
  refine ⟨ys, ⟨FX.len _ _ h2, FX.one fs ys h2, fun hp => ?_⟩, h2⟩
  obtain ⟨g, off, e, _, _, hcell⟩ := h1 hp
  exact ⟨g, off, e, hcell⟩
/-- field number i, as cells -/
theorem FlS.at {w : World} {S : Nat → Prop} {fs : List (List UInt8 × Tm)} {A : Option Addr} {c i : Nat} {n : List UInt8} {x : Tm} (h : FlS w S fs A c) (hi : fs[i]? = some (n, x)) :
    ∃ g off A1 c1, A = some ⟨g, off, none⟩ ∧ S g ∧ g < w.heap.size ∧ w.cell? ⟨g, off + i * 5, none⟩ = some (.string ⟨n.toArray⟩) ∧ w.cell? ⟨g, off + i * 5 + 1, none⟩ = some (.int .i64 x.k) ∧ w.cell? ⟨g, off + i * 5 + 2, none⟩ = some (.string ⟨x.t.toArray⟩) ∧ w.cell? ⟨g, off + i * 5 + 3, none⟩ = some (.int .i64 x.o) ∧ w.cell? ⟨g, off + i * 5 + 4, none⟩ = some (.slice A1 x.kids.len c1) ∧ KS w S x.kids A1 c1 := by
  have hl : i < fs.length := (List.getElem?_eq_some_iff.1 hi).1
  obtain ⟨hc, ys, h1, h2⟩ := h
  obtain ⟨us, A1, c1, zs, rfl, hul, _, hk, _⟩ := FX.split fs ys i n x h2 hi
  obtain ⟨g, off, e, hS, hg, hcell⟩ := h1 (by omega)
  have hat : ∀ j u, (five n x A1 c1)[j]? = some u → w.cell? ⟨g, off + i * 5 + j, none⟩ = some u := by
    intro j u hu
    have hj : j < (five n x A1 c1).length := (List.getElem?_eq_some_iff.1 hu).1
    rw [Nat.add_assoc]
    refine hcell _ _ ?_
    rw [List.getElem?_append_right (by omega), hul, Nat.add_sub_cancel_left, List.getElem?_append_left hj]
    exact hu
  exact ⟨g, off, A1, c1, e, hS, hg, hat 0 _ rfl, hat 1 _ rfl, hat 2 _ rfl, hat 3 _ rfl, hat 4 _ rfl, hk⟩
theorem FlS.own {w : World} {S : Nat → Prop} {b0 n : Nat} {e : TypeId} {fs : List (List UInt8 × Tm)} {xs : List Value} {A : Option Addr} {c : Nat} (hn : fs.length = n) (ho : w.ownsRow b0 e 5 (.slice A n c) n xs) (hr : FX w S fs xs) : FlS w (fun x => S x ∨ b0 ≤ x) fs A c := by
  subst hn
  obtain ⟨h1, h2, h3, h4, h5⟩ := Cel.of_own ho
  refine ⟨h2, xs, fun hp => ?_, FX.keep (Nat.le_refl _) (fun x hx _ => ⟨rfl, .inl hx⟩) _ _ hr⟩
  obtain ⟨g, off, e, hg, hc⟩ := h5 hp
  subst e
  exact ⟨g, off, rfl, .inr (ho.lt g (by rfl)).1, hg, hc⟩

/-- v is the declaration d, its super and fields in blocks of S -/
def DS (w : World) (S : Nat → Prop) (v : Value) (d : De) : Prop :=
  ∃ A c F x, v = .agg #[.string ⟨d.name.toArray⟩, .int .i64 d.arity, .int .i64 d.super.k, .string ⟨d.super.t.toArray⟩, .int .i64 d.super.o, .slice A d.super.kids.len c, .bool d.conc, .slice F d.fields.length x] ∧ KS w S d.super.kids A c ∧ FlS w S d.fields F x
theorem DS.keep {w w' : World} {S S' : Nat → Prop} {v : Value} {d : De} (h : DS w S v d) (hs : w.heap.size ≤ w'.heap.size) (hk : ∀ x, S x → x < w.heap.size → w'.heap[x]? = w.heap[x]? ∧ S' x) : DS w' S' v d := by
  obtain ⟨A, c, F, x, e, hu, hf⟩ := h
  exact ⟨A, c, F, x, e, hu.keep hs hk, hf.keep hs hk⟩
theorem DS.bh {w w' : World} {S : Nat → Prop} {v : Value} {d : De} (h : DS w S v d) (hb : BH w w') : DS w' S v d := h.keep (Below.size hb) fun x hx hl => ⟨Below.block hb x hl, hx⟩

/-- of bounded size, closed within V bodies -/
def OkT (V : Int) (x : Tm) : Prop := fsize x.kids ≤ 1073741824 ∧ x.t.length ≤ 1048576 ∧ lenT x.kids ∧ closed1 x.k x.o x.kids V = true
def OkF (V : Int) (fs : List (List UInt8 × Tm)) : Prop := fs.length ≤ 1048576 ∧ ∀ f ∈ fs, f.1.length ≤ 1048576 ∧ OkT V f.2
def OkD (V : Int) (d : De) : Prop := d.name.length ≤ 1048576 ∧ OkT V d.super ∧ OkF V d.fields

/-- the declaration of a name -/
def findD (ds : List De) (s : List UInt8) : Option De := ds.find? fun d => decide (d.name = s)

/-- the blocks that a hierarchy's declarations may lie in: not its own, not those of Q -/
def HS (p b : Nat) (v : Value) (Q : Nat → Prop) (x : Nat) : Prop := (x ≠ p ∧ x ≠ b ∧ v.ownBlock ≠ some x) ∧ ¬ Q x
def namesV (ds : List De) : List Value := ds.map fun d => strV d.name
/-- block p is a hierarchy: the row v of the names, the map b of the declarations -/
structure Hier (w : World) (B p b : Nat) (Q : Nat → Prop) (v : Value) (l : List (List UInt8 × Value)) (ds : List De) : Prop where
  blk : w.heap[p]? = some (.cells #[v, .map (some b)] 77 (0, 0))
  own : w.ownsRow B 9 1 v ds.length (namesV ds)
  map : MapL w b l
  len : l.length = ds.length
  row : ∀ (i : Nat) (d : De), ds[i]? = some d → ∃ u : Value, l[i]? = some (d.name, u) ∧ DS w (HS p b v Q) u d
  hpb : p ≠ b
  hvp : v.ownBlock ≠ some p
  hvb : v.ownBlock ≠ some b
  hB : B ≤ p ∧ B ≤ b
  hQ : ∀ x, Q x → x < w.heap.size
  hnQ : ¬ Q p ∧ ¬ Q b ∧ ∀ x, v.ownBlock = some x → ¬ Q x
theorem Hier.keep {w w' : World} {B p b : Nat} {Q Q' : Nat → Prop} {v : Value} {l : List (List UInt8 × Value)} {ds : List De} (h : Hier w B p b Q v l ds) (hs : w.heap.size ≤ w'.heap.size) (hk : ∀ x, ¬ Q x → x < w.heap.size → w'.heap[x]? = w.heap[x]? ∧ ¬ Q' x) (hQ' : ∀ x, Q' x → x < w'.heap.size) : Hier w' B p b Q' v l ds := by
  have hp := hk p h.hnQ.1 (heap_lt h.blk)
  have hb := hk b h.hnQ.2.1 h.map.lt
  refine ⟨hp.1.trans h.blk, ?_, h.map.keep hb.1, h.len, fun i d hd => ?_, h.hpb, h.hvp, h.hvb, h.hB, hQ', hp.2, hb.2, fun x hx => (hk x (h.hnQ.2.2 x hx) (h.own.lt x hx).2).2⟩
  · obtain ⟨h1, h2⟩ := h.own
    refine ⟨h1, ?_⟩
    rcases h2 with h2 | ⟨g, cap, cur, e, q1, q2, q3⟩
    · exact .inl h2
    · refine .inr ⟨g, cap, cur, e, q1, ?_, q3⟩
      exact (hk g (h.hnQ.2.2 g (by rw [e]; rfl)) (heap_lt q2)).1.trans q2
  · obtain ⟨u, h1, h2⟩ := h.row i d hd
    exact ⟨u, h1, h2.keep hs fun x hx hl => ⟨(hk x hx.2 hl).1, hx.1, (hk x hx.2 hl).2⟩⟩
theorem Hier.bh {w w' : World} {B p b : Nat} {Q : Nat → Prop} {v : Value} {l : List (List UInt8 × Value)} {ds : List De} (h : Hier w B p b Q v l ds) (hb : BH w w') : Hier w' B p b Q v l ds :=
  h.keep (Below.size hb) (fun x hx hl => ⟨Below.block hb x hl, hx⟩) (fun x hx => Nat.lt_of_lt_of_le (h.hQ x hx) (Below.size hb))
/-- what an operation on the hierarchy leaves of the rest -/
structure KH (p b : Nat) (v v' : Value) (w w' : World) : Prop where
  os : w'.os = w.os
  tape : w'.tape = w.tape
  output : w'.output = w.output
  size : w.heap.size ≤ w'.heap.size
  block : ∀ x, x < w.heap.size → x ≠ p → x ≠ b → v.ownBlock ≠ some x → w'.heap[x]? = w.heap[x]?
  own : v'.ownBlock = v.ownBlock ∨ ∃ g, w.heap.size ≤ g ∧ v'.ownBlock = some g
theorem KH.bh {p b : Nat} {v : Value} {w w' : World} (h : BH w w') : KH p b v v w w' := ⟨Below.os h, Below.tape h, Below.output h, Below.size h, fun x hx _ _ _ => Below.block h x hx, .inl rfl⟩
theorem KH.trans {p b : Nat} {v v' v'' : Value} {w w' w'' : World} (h : KH p b v v' w w') (k : KH p b v' v'' w' w'') : KH p b v v'' w w'' := by
  refine ⟨k.os.trans h.os, k.tape.trans h.tape, k.output.trans h.output, Nat.le_trans h.size k.size, fun x hx hp hb hv => ?_, ?_⟩
  · refine (k.block x (Nat.lt_of_lt_of_le hx h.size) hp hb ?_).trans (h.block x hx hp hb hv)
    rcases h.own with e | ⟨g, hg, e⟩
    · rw [e]; exact hv
    · rw [e]; intro e'; cases e'; omega
  · rcases k.own with e | ⟨g, hg, e⟩
    · rcases h.own with e2 | ⟨g, hg, e2⟩
      · exact .inl (e.trans e2)
      · exact .inr ⟨g, hg, e.trans e2⟩
    · exact .inr ⟨g, Nat.le_trans h.size hg, e⟩
theorem KH.below {B p b : Nat} {Q : Nat → Prop} {v v' : Value} {w w' : World} {l : List (List UInt8 × Value)} {ds : List De} (h : KH p b v v' w w') (hh : Hier w B p b Q v l ds) (hBw : B ≤ w.heap.size) : Below B w w' :=
  ⟨h.os, h.tape, h.output, h.size, fun x hx => h.block x (by omega) (by have := hh.hB; omega) (by have := hh.hB; omega) (fun e => by have := (hh.own.lt x e).1; omega)⟩
/-- what lies outside of the hierarchy stays -/
theorem KH.far {p b : Nat} {v v' : Value} {Q : Nat → Prop} {w w' : World} (h : KH p b v v' w w') {x : Nat} (hx : HS p b v Q x) (hl : x < w.heap.size) (hQ : ∀ x, Q x → x < w.heap.size) : w'.heap[x]? = w.heap[x]? ∧ HS p b v' Q x := by
  refine ⟨h.block x hl hx.1.1 hx.1.2.1 hx.1.2.2, ⟨hx.1.1, hx.1.2.1, ?_⟩, hx.2⟩
  rcases h.own with e | ⟨g, hg, e⟩
  · rw [e]; exact hx.1.2.2
  · rw [e]; intro e'; cases e'; omega
theorem Hier.none' {w : World} {B p b : Nat} {Q : Nat → Prop} {v : Value} {l : List (List UInt8 × Value)} {ds : List De} (h : Hier w B p b Q v l ds) {s : List UInt8} (hs : findD ds s = none) : getM l s = none := by
  refine getM_none fun q hq => ?_
  obtain ⟨i, hi, hqi⟩ := List.getElem_of_mem hq
  have hid : i < ds.length := by rw [← h.len]; exact hi
  obtain ⟨u, h1, _⟩ := h.row i _ (List.getElem?_eq_getElem hid)
  rw [List.getElem?_eq_getElem hi, hqi] at h1
  have h2 := Option.some.inj h1
  have h3 := List.find?_eq_none.1 hs _ (List.getElem_mem hid)
  rw [h2]
  simpa using h3
theorem Hier.some' {w : World} {B p b : Nat} {Q : Nat → Prop} {v : Value} {l : List (List UInt8 × Value)} {ds : List De} (h : Hier w B p b Q v l ds) {s : List UInt8} {d : De} (hs : findD ds s = some d) :
    d.name = s ∧ ∃ u, getM l s = some u ∧ DS w (HS p b v Q) u d := by
  have h1 : d.name = s := by simpa using List.find?_some hs
  obtain ⟨i, hi, hdi⟩ := List.getElem_of_mem (List.mem_of_find?_eq_some hs)
  obtain ⟨u, h2, h3⟩ := h.row i d (by rw [List.getElem?_eq_getElem hi, hdi])
  obtain ⟨es, clock, _, _, hn, _⟩ := h.map
  refine ⟨h1, u, getM_some hn ?_, h3⟩
  rw [← h1]
  exact List.mem_of_getElem? h2
end Go.Proofs.YtpkiheenkpcebaaGreatDoor
