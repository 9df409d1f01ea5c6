/- telmake.Term, OpenTerm over a stream of New and the declarations of Base. No condition but the leaves' names. -/
import Derived.Test.YtddfpbcdopcdhaaDoorGt
import Derived.Test.YtddfpbcdopcdhaaDoorBas
import Derived.Test.YtddfpbcdopcdhaaDoorTl0
set_option linter.unusedVariables false
set_option linter.unusedSimpArgs false
namespace Go.Proofs.YtddfpbcdopcdhaaDoor
open Go.RowKit Sx

theorem gen_all (E : EG) : ∀ M, CA E M ∧ CNm E M ∧ CT E M := by
  intro M
  induction M with
  | zero => exact ⟨fun k d V w _ h => absurd h (Nat.not_lt_zero _), fun k d V w _ h => absurd h (Nat.not_lt_zero _), fun k d V w _ h => absurd h (Nat.not_lt_zero _)⟩
  | succ M ih =>
    have h1 := named_step E M ih.1
    exact ⟨arg_step E M h1 ih.2.2, h1, term_step E M h1 ih.2.2⟩
theorem term_any (E : EG) (k : Nat) (d V : Int) (w : World) (hG : GenD w E k) (hV0 : 0 ≤ V) (hV1 : V ≤ 1000) (hd0 : 0 ≤ d) (hd1 : d ≤ 1000) : Calls Tryd.prog 19 (AD E d V) w (GP E V k w) :=
  (gen_all E (E.len - k + 1)).2.2 k d V w hG (by omega) hV0 (by omega) (by omega) hd0 hd1

set_option maxHeartbeats 1000000 in
theorem termC (E : EG) (k : Nat) (w : World) (hG : GenD w E k) : Calls Tryd.prog 9 #[.pointer (some ⟨E.b, 0, none⟩), .slice (some ⟨E.gd, E.od, none⟩) E.nd E.cd] w (GP E 0 k w) := by
  have hX := bh_alloc (BH.refl w) (.cells #[.int .i64 0, .string ⟨#[]⟩, .int .i64 0, .slice none 0 0] 25)
  have HG0 := Lib.hid hG
  have HG1 := Lib.hid (hG.below hX)
  have HN := Lib.hid (heap_alloc_new w (.cells #[.int .i64 0, .string ⟨#[]⟩, .int .i64 0, .slice none 0 0] 25))
  have HX := Lib.hid hX
  clear hG hX
  go_enter Tryd.func9, Tryd.ntmps9
  go_wp2_with (fail)
  refine (term_any E k 3 0 _ HG1.out (by decide) (by decide) (by decide) (by decide)).mono ?_
  rintro e2 w2 hgp
  obtain ⟨q, o, t, kids, A, c, rfl, hN2, hres⟩ := hgp.pass (k := k) HG0.out (gb_below HX.out (some E.b)) (by simp) (Int.le_refl 0) (Nat.le_refl k) HN.out
  have HN2 := Lib.hid hN2
  have HRes := Lib.hid hres
  clear hgp hN2 hres
  obtain ⟨b0, b1, b2, b3, y0, y1, y2, y3⟩ := row4 HN2.out
  go_wp2_with (fail)
  obtain ⟨m0, m1, m2, m3, _⟩ := row4 (s4 HN2.out (.int .i64 q) (.string ⟨t.toArray⟩) (.int .i64 o) (.slice A kids.len c))
  exact bodyPost_ret (v := .agg #[.int .i64 q, .string ⟨t.toArray⟩, .int .i64 o, .slice A kids.len c]) (by simp [results, Tryd.results9, go_sem, m0, m1, m2, m3]) rfl HRes.out

set_option maxHeartbeats 1000000 in
theorem openTermC (E : EG) (k : Nat) (V : Int) (w : World) (hG : GenD w E k) (hV0 : 0 ≤ V) (hV1 : V ≤ 1000) : Calls Tryd.prog 5 #[.pointer (some ⟨E.b, 0, none⟩), .slice (some ⟨E.gd, E.od, none⟩) E.nd E.cd, .int .i64 V] w (GP E V k w) := by
  have hX := bh_alloc (BH.refl w) (.cells #[.int .i64 0, .string ⟨#[]⟩, .int .i64 0, .slice none 0 0] 25)
  have HG0 := Lib.hid hG
  have HG1 := Lib.hid (hG.below hX)
  have HN := Lib.hid (heap_alloc_new w (.cells #[.int .i64 0, .string ⟨#[]⟩, .int .i64 0, .slice none 0 0] 25))
  have HX := Lib.hid hX
  clear hG hX
  go_enter Tryd.func5, Tryd.ntmps5
  go_wp2_with (fail)
  refine (term_any E k 3 V _ HG1.out hV0 hV1 (by decide) (by decide)).mono ?_
  rintro e2 w2 hgp
  obtain ⟨q, o, t, kids, A, c, rfl, hN2, hres⟩ := hgp.pass (k := k) HG0.out (gb_below HX.out (some E.b)) (by simp) (Int.le_refl V) (Nat.le_refl k) HN.out
  have HN2 := Lib.hid hN2
  have HRes := Lib.hid hres
  clear hgp hN2 hres
  obtain ⟨b0, b1, b2, b3, y0, y1, y2, y3⟩ := row4 HN2.out
  go_wp2_with (fail)
  obtain ⟨m0, m1, m2, m3, _⟩ := row4 (s4 HN2.out (.int .i64 q) (.string ⟨t.toArray⟩) (.int .i64 o) (.slice A kids.len c))
  exact bodyPost_ret (v := .agg #[.int .i64 q, .string ⟨t.toArray⟩, .int .i64 o, .slice A kids.len c]) (by simp [results, Tryd.results5, go_sem, m0, m1, m2, m3]) rfl HRes.out

def baseN : List (List UInt8 × Nat) := baseD.map fun d => (d.name, d.arity.toNat)
theorem baseD_ok : ∀ d ∈ baseD, 0 ≤ d.arity ∧ d.arity ≤ 3 ∧ d.name.length ≤ 1000 := by
  intro d hd
  simp only [baseD, List.mem_cons, List.not_mem_nil, or_false] at hd
  rcases hd with rfl | rfl | rfl | rfl | rfl | rfl | rfl | rfl <;> exact ⟨by decide, by decide, by decide⟩

theorem genD_of {w : World} {b len cap k g o c cd : Nat} {a A : Option Addr} {zs : List Int} {W : List (List UInt8)} (hst : Strm w b a len cap zs k) (hT : Tab w b 0 4 W g o c) (hs : ∀ s ∈ W, s.length ≤ 1000) (hD : DclsV w A cd baseD) :
    ∃ gd od, A = some ⟨gd, od, none⟩ ∧ GenD w ⟨b, a, len, cap, zs, W, g, o, c, gd, od, 8, cd, baseN⟩ k := by
  obtain ⟨h1, h2⟩ := hD
  obtain ⟨gd, od, rfl, hlt, hrow⟩ := h2 (by decide)
  refine ⟨gd, od, rfl, hst, hT, ⟨?_, hlt, rfl, (by decide : (8 : Nat) ≤ 1000), ?_⟩, hs⟩
  · intro e
    have e' : gd = b := e
    subst e'
    obtain ⟨_, _, _, _, hc0, _⟩ := hrow 0 dBox rfl
    rw [Nat.zero_mul, Nat.add_zero, cell_of_row _ _ od _ _ _ hst.1] at hc0
    rcases od with _ | _ | od <;> simp at hc0
  · intro j n ar hj
    have hj' : baseN[j]? = some (n, ar) := hj
    rw [baseN, List.getElem?_map, Option.map_eq_some_iff] at hj'
    obtain ⟨d, hd, he⟩ := hj'
    obtain ⟨rfl, rfl⟩ := Prod.mk.inj he
    obtain ⟨A, c, A', c', p0, p1, p2, p3, p4, p5, _, p6, p7, _⟩ := hrow j d hd
    obtain ⟨o1, o2, o3⟩ := baseD_ok d (List.mem_of_getElem? hd)
    exact ⟨⟨d.super.k, d.super.t, d.super.o, A, d.super.kids.len, c, d.conc, A', d.fields.length, c', p0, by rw [Int.toNat_of_nonneg o1]; exact p1, p2, p3, p4, p5, p6, p7⟩, by omega, o3⟩

theorem strm_new {w0 w : World} {a : Option Addr} {len cap : Nat} {zs : List Int} (hB : Below w0.heap.size w0 w) (hl : len ≤ maxLen) (hI : Ints w0 a len zs) :
    Strm (w.alloc (.cells #[.slice a len cap, .int .i64 0] 42)) w.heap.size a len cap zs 0 := by
  have hs := hB.size
  have hB' := hB.alloc hs (.cells #[.slice a len cap, .int .i64 0] 42)
  refine ⟨heap_alloc_new w _, ?_, ?_, Nat.zero_le _, hl⟩
  · exact hI.keep hB'.size fun g off _ hl => hB'.block g hl
  · intro hp g off e
    obtain ⟨g', off', e', hlt, _⟩ := hI hp
    have e2 : some (⟨g, off, none⟩ : Addr) = some ⟨g', off', none⟩ := e.symm.trans e'
    cases e2
    show g ≠ w.heap.size
    omega

/-- behind New and Base -/
theorem genD_new {w0 w w2 : World} {a A : Option Addr} {len cap g o c cd : Nat} {zs : List Int} {W : List (List UInt8)} (hB : Below w0.heap.size w0 w) (hl : len ≤ maxLen) (hI : Ints w0 a len zs) (tW : TL.TabW w0 0 4 W g o c) (hs : ∀ s ∈ W, s.length ≤ 1000)
    (hb : BH (w.alloc (.cells #[.slice a len cap, .int .i64 0] 42)) w2) (hD : DclsV w2 A cd baseD) :
    ∃ gd od, A = some ⟨gd, od, none⟩ ∧ GenD w2 ⟨w.heap.size, a, len, cap, zs, W, g, o, c, gd, od, 8, cd, baseN⟩ 0 := by
  have hB' := hB.alloc hB.size (.cells #[.slice a len cap, .int .i64 0] 42)
  exact genD_of ((strm_new hB hl hI).keep hb) (tW.tab (hB'.trans (hb.mono hB'.size)) hB.size) hs hD
end Go.Proofs.YtddfpbcdopcdhaaDoor
