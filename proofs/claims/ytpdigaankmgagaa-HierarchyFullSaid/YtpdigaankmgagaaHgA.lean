/- maps keyed by strings; the hierarchy's declarations. No condition. -/
import Derived.Test.YtpdigaankmgagaaTMem
import Derived.Maps.Own
import Derived.Test.YtpdigaankmgagaaDe
import Derived.Test.YtpdigaankmgagaaKs
set_option linter.unusedVariables false
set_option linter.unusedSimpArgs false
namespace Go.Proofs.Ytpdigaankmgagaa
open Go.RowKit Go.Maps Go.ChangeMaps Go.MapKept Sx

abbrev strV (s : List UInt8) : Value := .string ⟨s.toArray⟩
/-- block b is a map that holds the pairs l, in the order in which they were stored -/
def MapL (w : World) (b : Nat) (l : List (List UInt8 × Value)) : Prop :=
  ∃ es clock, w.heap[b]? = some (.map es clock) ∧ es.toList.map (fun e => (e.key, e.val)) = l.map (fun p => (strV p.1, p.2)) ∧ (l.map Prod.fst).Nodup ∧ ∀ p ∈ l, p.1.length ≤ maxLen
def getM (l : List (List UInt8 × Value)) (s : List UInt8) : Option Value := (l.find? fun p => decide (p.1 = s)).map Prod.snd
/-- what 'm[k]' and 'v, ok := m[k]' answer -/
def lookV (r : Option Value) (c : Bool) (z : Value) : Value :=
  match r with
  | some v => if c then .tuple #[v, .bool true] else v
  | none => if c then .tuple #[z, .bool false] else z
theorem strV_inj {s t : List UInt8} (h : strV s = strV t) : s = t := by
  have := congrArg (fun v : Value => match v with | .string b => b.data.toList | _ => []) h
  simpa using this

theorem getM_none {l : List (List UInt8 × Value)} {s : List UInt8} (h : ∀ p ∈ l, p.1 ≠ s) : getM l s = none := by
  rw [getM, List.find?_eq_none.2 (fun p hp => by simpa using h p hp)]
  rfl
theorem getM_some {l : List (List UInt8 × Value)} {s : List UInt8} {v : Value} (hn : (l.map Prod.fst).Nodup) (h : (s, v) ∈ l) : getM l s = some v := by
  induction l with
  | nil => cases h
  | cons q r ih =>
    rw [List.map_cons, List.nodup_cons] at hn
    rw [getM, List.find?_cons]
    rcases List.mem_cons.1 h with rfl | h
    · simp
    · have hne : ¬ q.1 = s := fun e => hn.1 (by rw [e]; exact List.mem_map.2 ⟨(s, v), h, rfl⟩)
      simp only [decide_eq_false hne]
      exact ih hn.2 h
theorem getM_mem {l : List (List UInt8 × Value)} {s : List UInt8} {v : Value} (h : getM l s = some v) : (s, v) ∈ l := by
  rw [getM, Option.map_eq_some_iff] at h
  obtain ⟨p, hp, rfl⟩ := h
  have h1 := List.find?_some hp
  have h2 := List.mem_of_find?_eq_some hp
  obtain rfl : p.1 = s := by simpa using h1
  exact h2

theorem MapL.lt {w : World} {b : Nat} {l : List (List UInt8 × Value)} (h : MapL w b l) : b < w.heap.size := by
  obtain ⟨es, clock, hb, _⟩ := h
  exact (Array.getElem?_eq_some_iff.1 hb).1
theorem MapL.keep {w w' : World} {b : Nat} {l : List (List UInt8 × Value)} (h : MapL w b l) (hk : w'.heap[b]? = w.heap[b]?) : MapL w' b l := by
  obtain ⟨es, clock, hb, h⟩ := h
  exact ⟨es, clock, hk.trans hb, h⟩
theorem MapL.made (w : World) : MapL (w.alloc (.map #[] 0)) w.heap.size [] := ⟨#[], 0, (MapKept.heap_alloc w _).1, by simp, by simp, fun _ h => by cases h⟩

section
variable {P : Program} {t k e : TypeId} {w : World} {b : Nat} {l : List (List UInt8 × Value)}
theorem MapL.key (hk : P.underlying k = some .string) {s : List UInt8} (hs : s.length ≤ maxLen) : keyOf P k (strV s) = some (.string s) := by
  rw [WideMaps.keyOf_string_mk hk (by simpa [ByteArray.size] using hs)]
theorem MapL.keys (hk : P.underlying k = some .string) {es : Array MapEntry} (he : es.toList.map (fun e => (e.key, e.val)) = l.map (fun p => (strV p.1, p.2))) (hl : ∀ p ∈ l, p.1.length ≤ maxLen) : ∀ e ∈ es.toList, ∃ lt, keyOf P k e.key = some lt := by
  intro e hm
  have h : (e.key, e.val) ∈ l.map (fun p => (strV p.1, p.2)) := by rw [← he]; exact List.mem_map.2 ⟨e, hm, rfl⟩
  obtain ⟨p, hp, hpe⟩ := List.mem_map.1 h
  obtain ⟨h1, _⟩ := Prod.mk.inj hpe
  exact ⟨_, by rw [← h1]; exact MapL.key hk (hl p hp)⟩

theorem MapL.look (h : MapL w b l) (hk : P.underlying k = some .string) (ht : P.underlying t = some (.map k e)) {z : Value} (hz : (zeroValue e).run P w = .ok z w) {s : List UInt8} (hs : s.length ≤ maxLen) (c : Bool) :
    (Instr.lookup t (.map (some b)) (strV s) c).run P w = .ok (lookV (getM l s) c z) w := by
  obtain ⟨es, clock, hb, he, hn, hl⟩ := h
  have K : Keyed P k := string_keyed hk
  have hkey := MapL.key (P := P) hk hs
  rcases K.find w hkey es.toList (MapL.keys hk he hl) with ⟨h1, h2⟩ | ⟨j, e0, h1, h2, h3⟩
  · have hg : getM l s = none := getM_none fun p hp hps => by
      have hm : (strV p.1, p.2) ∈ es.toList.map (fun e => (e.key, e.val)) := by rw [he]; exact List.mem_map.2 ⟨p, hp, rfl⟩
      obtain ⟨e', he', hee⟩ := List.mem_map.1 hm
      exact h2 e' he' (by rw [(Prod.mk.inj hee).1, hps])
    rw [hg]
    simp [Instr.lookup, run_underlying ht, MapKept.run_getObj_map hb, K.check w _ hkey, h1, hz, Result.andThen, lookV]
  · have hm : (e0.key, e0.val) ∈ l.map (fun p => (strV p.1, p.2)) := by rw [← he]; exact List.mem_map.2 ⟨e0, List.mem_of_getElem? h2, rfl⟩
    obtain ⟨p, hp, hpe⟩ := List.mem_map.1 hm
    obtain ⟨q1, q2⟩ := Prod.mk.inj hpe
    obtain rfl := strV_inj (q1.trans h3)
    have hg : getM l p.1 = some e0.val := by
      rw [← q2]
      exact getM_some hn hp
    rw [hg]
    simp [Instr.lookup, run_underlying ht, MapKept.run_getObj_map hb, K.check w _ hkey, h1, Result.andThen, lookV]

theorem MapL.push (h : MapL w b l) (hk : P.underlying k = some .string) (ht : P.underlying t = some (.map k e)) {s : List UInt8} (hs : s.length ≤ maxLen) (v : Value) (hnew : getM l s = none) :
    ∃ w', (Instr.mapUpdate t (.map (some b)) (strV s) v).run P w = .ok () w' ∧ MapL w' b (l ++ [(s, v)]) ∧ w.grownBy w' (some b) ∧ w'.heap.size = w.heap.size := by
  obtain ⟨es, clock, hb, he, hn, hl⟩ := h
  have K : Keyed P k := string_keyed hk
  have hkey := MapL.key (P := P) hk hs
  have hfresh : ∀ p ∈ l, p.1 ≠ s := by
    intro p hp hps
    have := getM_some hn (show (s, p.2) ∈ l by rw [← hps]; exact hp)
    rw [hnew] at this
    cases this
  rcases K.find w hkey es.toList (MapL.keys hk he hl) with ⟨h1, h2⟩ | ⟨j, e0, h1, h2, h3⟩
  · refine ⟨setBlock w b (.map (es.push ⟨strV s, v, clock⟩) (clock + 1)), ?_, ⟨es.push ⟨strV s, v, clock⟩, clock + 1, heap_setBlock_same hb _, ?_, ?_, ?_⟩, ⟨rfl, rfl, rfl, by simp [setBlock], fun i _ hi => heap_setBlock_other hb _ (fun e => hi (by rw [e]))⟩, by simp [setBlock]⟩
    · simp [Instr.mapUpdate, run_underlying ht, MapKept.run_getObj_map hb, K.check w false hkey, h1, MapKept.run_setObj_map _ hb, Result.andThen, setBlock]
    · rw [Array.toList_push, List.map_append, he, List.map_append]
      rfl
    · rw [List.map_append, List.nodup_append]
      refine ⟨hn, by simp, ?_⟩
      intro a ha c hc e
      subst e
      simp at hc
      subst hc
      obtain ⟨p, hp, hpe⟩ := List.mem_map.1 ha
      exact hfresh p hp hpe
    · intro p hp
      rcases List.mem_append.1 hp with hp | hp
      · exact hl p hp
      · simp at hp
        subst hp
        exact hs
  · exfalso
    have hm : (e0.key, e0.val) ∈ l.map (fun p => (strV p.1, p.2)) := by rw [← he]; exact List.mem_map.2 ⟨e0, List.mem_of_getElem? h2, rfl⟩
    obtain ⟨p, hp, hpe⟩ := List.mem_map.1 hm
    obtain ⟨q1, q2⟩ := Prod.mk.inj hpe
    exact hfresh p hp (strV_inj (q1.trans h3))
end

/-- 'm[k] = v' of a new key, at the operation -/
theorem wpList_mapPush {P : Program} (w : World) {ops : Array Oper} {rest : List Oper} {o : Oper} {a : Act} {Q : Exit → Act → World → Prop} (hg : o.guard = none) (m x v : Operand) (t : TypeId) (hop : o.op = Op.mapUpdate t m x v)
    (k e : TypeId) (hk : P.underlying k = some .string) (ht : P.underlying t = some (.map k e)) (b : Nat) (l : List (List UInt8 × Value)) (hm : a.eval m = .map (some b)) (hown : MapL w b l) (s : List UInt8) (hs : s.length ≤ maxLen) (val : Value) (hx : a.eval x = strV s) (hv : a.eval v = val) (hnew : getM l s = none)
    (hK : ∀ w', MapL w' b (l ++ [(s, val)]) → w.grownBy w' (some b) → w'.heap.size = w.heap.size → wpList P ops Q rest (a.put o.dst undef) w') : wpList P ops Q (o :: rest) a w := by
  refine wpList_plain hg fun K' hK' => ?_
  obtain ⟨w', hrun, r1, r2, r3⟩ := hown.push (P := P) (t := t) hk ht hs val hnew
  unfold Oper.wp
  simp [execOp, hop, hm, hx, hv, hrun, Result.andThen]
  exact hK' _ _ (hK w' r1 r2 r3)
end Go.Proofs.Ytpdigaankmgagaa
namespace Go.Proofs.Ytpdigaankmgagaa
open Go.RowKit Sx

/-- five cells of a field -/
def FieldS (w : World) (S : Nat → Prop) (g off : Nat) (n : List UInt8) (x : Tm) : Prop :=
  ∃ A c, w.cell? ⟨g, off, none⟩ = some (strV n) ∧ w.cell? ⟨g, off + 1, none⟩ = some (.int .i64 x.k) ∧ w.cell? ⟨g, off + 2, none⟩ = some (strV x.t) ∧ w.cell? ⟨g, off + 3, none⟩ = some (.int .i64 x.o) ∧ w.cell? ⟨g, off + 4, none⟩ = some (.slice A x.kids.len c) ∧ KS w S x.kids A c
/-- a slice of fields -/
def FldsS (w : World) (S : Nat → Prop) (A : Option Addr) (c : Nat) (fs : List (List UInt8 × Tm)) : Prop :=
  fs.length ≤ c ∧ (0 < fs.length → ∃ g off : Nat, A = some ⟨g, off, none⟩ ∧ S g ∧ g < w.heap.size ∧ ∀ j n x, fs[j]? = some (n, x) → FieldS w S g (off + j * 5) n x)
def DeclS (w : World) (S : Nat → Prop) (v : Value) (d : De) : Prop :=
  ∃ A c A' c', v = .agg #[strV d.name, .int .i64 d.arity, .int .i64 d.super.k, strV d.super.t, .int .i64 d.super.o, .slice A d.super.kids.len c, .bool d.conc, .slice A' d.fields.length c'] ∧ KS w S d.super.kids A c ∧ FldsS w S A' c' d.fields

section
variable {w w' : World} {S S' : Nat → Prop} (hs : w.heap.size ≤ w'.heap.size) (hk : ∀ x, S x → x < w.heap.size → w'.heap[x]? = w.heap[x]? ∧ S' x)
include hs hk
theorem FieldS.keep {g off : Nat} {n : List UInt8} {x : Tm} (hS : S g) (hg : g < w.heap.size) (h : FieldS w S g off n x) : FieldS w' S' g off n x := by
  obtain ⟨A, c, h1, h2, h3, h4, h5, hkk⟩ := h
  have e : ∀ {j : Nat} {v : Value}, w.cell? ⟨g, j, none⟩ = some v → w'.cell? ⟨g, j, none⟩ = some v := fun {j v} hj => (World.cell?_of_block (a := ⟨g, j, none⟩) (hk g hS hg).1).trans hj
  exact ⟨A, c, e h1, e h2, e h3, e h4, e h5, hkk.keep hs hk⟩
theorem FldsS.keep {A : Option Addr} {c : Nat} {fs : List (List UInt8 × Tm)} (h : FldsS w S A c fs) : FldsS w' S' A c fs :=
  ⟨h.1, fun hn => by
    obtain ⟨g, off, e, hS, hg, hc⟩ := h.2 hn
    exact ⟨g, off, e, (hk g hS hg).2, Nat.lt_of_lt_of_le hg hs, fun j n x hj => FieldS.keep hs hk hS hg (hc j n x hj)⟩⟩
theorem DeclS.keep {v : Value} {d : De} (h : DeclS w S v d) : DeclS w' S' v d := by
  obtain ⟨A, c, A', c', e, hu, hf⟩ := h
  exact ⟨A, c, A', c', e, hu.keep hs hk, FldsS.keep hs hk hf⟩
end
theorem DeclS.bh {w w' : World} {S : Nat → Prop} {v : Value} {d : De} (h : DeclS w S v d) (hb : BH w w') : DeclS w' S v d := h.keep (Below.size hb) fun x hx hl => ⟨Below.block hb x hl, hx⟩
theorem FldsS.nil (w : World) (S : Nat → Prop) : FldsS w S none 0 [] := ⟨Nat.le_refl _, fun h => absurd h (by decide)⟩

/-- the declaration of a name -/
def findD (ds : List De) (s : List UInt8) : Option De := ds.find? fun d => decide (d.name = s)
end Go.Proofs.Ytpdigaankmgagaa
