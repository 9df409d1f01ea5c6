/- What telmake.AnyNode reads: the stream and the two package variables (words, strings); Next in a world where they lie. -/
import Derived.Test.YtddfpbcdopcdhaaDoorStm
import Derived.Deep.RegionHeld3
set_option linter.unusedVariables false
set_option linter.unusedSimpArgs false
namespace Go.Proofs.YtddfpbcdopcdhaaDoor
open Go.RowKit Sx

/-- a package variable (block v) holds a slice of n strings, each of them one of S -/
structure Tab (w : World) (b v n : Nat) (S : List (List UInt8)) (g o c : Nat) : Prop where
  head : w.cell? ⟨v, 0, none⟩ = some (.slice (some ⟨g, o, none⟩) n c)
  row : ∀ i : Nat, i < n → ∃ s : List UInt8, s ∈ S ∧ w.cell? ⟨g, o + i, none⟩ = some (.string ⟨s.toArray⟩)
  vb : v ≠ b
  gb : g ≠ b
  vlt : v < w.heap.size
  glt : g < w.heap.size
  pos : 0 < n ∧ n ≤ 65536

theorem Tab.keep {w w' : World} {b v n : Nat} {S : List (List UInt8)} {g o c : Nat} (h : Tab w b v n S g o c) (hg : w.grownBy w' (some b)) : Tab w' b v n S g o c :=
  ⟨(World.cell?_of_block (hg.block v h.vlt (by simp; exact h.vb))).trans h.head,
    fun i hi => by
      obtain ⟨s, hs, hc⟩ := h.row i hi
      exact ⟨s, hs, (World.cell?_of_block (hg.block g h.glt (by simp; exact h.gb))).trans hc⟩,
    h.vb, h.gb, Nat.lt_of_lt_of_le h.vlt hg.size, Nat.lt_of_lt_of_le h.glt hg.size, h.pos⟩
theorem Tab.below {w w' : World} {b v n : Nat} {S : List (List UInt8)} {g o c : Nat} (h : Tab w b v n S g o c) (hg : Below w.heap.size w w') : Tab w' b v n S g o c := h.keep (gb_below hg _)
theorem Tab.drew {w : World} {b v n : Nat} {S : List (List UInt8)} {g o c : Nat} (h : Tab w b v n S g o c) : Tab w.drew b v n S g o c := ⟨h.1, h.2, h.3, h.4, h.5, h.6, h.7⟩

theorem Strm.keep {w w' : World} {b : Nat} {a : Option Addr} {len cap : Nat} {zs : List Int} {k : Nat} (h : Strm w b a len cap zs k) (hg : Below w.heap.size w w') : Strm w' b a len cap zs k :=
  ⟨(hg.block b h.lt).trans h.1, h.2.1.keep hg.size (fun g off e hl => hg.block g hl), h.2.2⟩
theorem Strm.drew {w : World} {b : Nat} {a : Option Addr} {len cap : Nat} {zs : List Int} {k : Nat} (h : Strm w b a len cap zs k) : Strm w.drew b a len cap zs k := ⟨h.1, h.2.1, h.2.2⟩

/-- the stream and the two tables; bundle: all that AnyNode reads -/
structure Gen (w : World) (b : Nat) (a : Option Addr) (len cap : Nat) (zs : List Int) (W T : List (List UInt8)) (gw ow cw gs ot cs : Nat) : Prop where
  st : ∃ k, Strm w b a len cap zs k
  words : Tab w b 2 16 W gw ow cw
  strs : Tab w b 1 6 T gs ot cs

section
variable {w w' : World} {b : Nat} {a : Option Addr} {len cap : Nat} {zs : List Int} {W T : List (List UInt8)} {gw ow cw gs ot cs : Nat}
theorem Gen.below (h : Gen w b a len cap zs W T gw ow cw gs ot cs) (hg : Below w.heap.size w w') : Gen w' b a len cap zs W T gw ow cw gs ot cs :=
  ⟨h.st.imp fun _ hk => hk.keep hg, h.words.below hg, h.strs.below hg⟩
theorem Gen.drew (h : Gen w b a len cap zs W T gw ow cw gs ot cs) : Gen w.drew b a len cap zs W T gw ow cw gs ot cs := ⟨h.st.imp fun _ hk => hk.drew, h.words.drew, h.strs.drew⟩
theorem Gen.lt (h : Gen w b a len cap zs W T gw ow cw gs ot cs) : b < w.heap.size := h.st.elim fun _ hk => hk.lt

/-- what came in keeps it all: only blocks that came in are read -/
theorem Gen.old {w0 : World} (h0 : Gen w0 b a len cap zs W T gw ow cw gs ot cs) (h : Gen w b a len cap zs W T gw ow cw gs ot cs) (hs : w.heap.size ≤ w'.heap.size) (hk : ∀ x, x < w0.heap.size → w'.heap[x]? = w.heap[x]?) : Gen w' b a len cap zs W T gw ow cw gs ot cs := by
  have tab : ∀ {v n : Nat} {S : List (List UInt8)} {g o c : Nat}, Tab w0 b v n S g o c → Tab w b v n S g o c → Tab w' b v n S g o c := fun t0 t =>
    ⟨(World.cell?_of_block (hk _ t0.vlt)).trans t.head, fun i hi => by
      obtain ⟨s, hs, hc⟩ := t.row i hi
      exact ⟨s, hs, (World.cell?_of_block (hk _ t0.glt)).trans hc⟩, t.vb, t.gb, Nat.lt_of_lt_of_le t.vlt hs, Nat.lt_of_lt_of_le t.glt hs, t.pos⟩
  refine ⟨?_, tab h0.words h.words, tab h0.strs h.strs⟩
  obtain ⟨k, hblk, hints, hr⟩ := h.st
  obtain ⟨k0, hblk0, hints0, hr0⟩ := h0.st
  refine ⟨k, (hk b (heap_lt hblk0)).trans hblk, ?_, hr⟩
  intro hp
  obtain ⟨g, off, e, hl, hc⟩ := hints hp
  obtain ⟨g', off', e', hl', _⟩ := hints0 hp
  rw [e] at e'
  cases e'
  exact ⟨g, off, e, by omega, fun i hi => (World.cell?_of_block (hk g hl')).trans (hc i hi)⟩

/-- Next, any modulus -/
theorem next_gen (m : Int) (h : Gen w b a len cap zs W T gw ow cw gs ot cs) (hm : 0 < m) (hm2 : m ≤ 65536) :
    Calls Tryd.prog 36 #[.pointer (some ⟨b, 0, none⟩), .int .i64 m] w fun e w' => ∃ r, e = .returned (.int .i64 r) ∧ 0 ≤ r ∧ r < m ∧ Gen w' b a len cap zs W T gw ow cw gs ot cs ∧ w.grownBy w' (some b) ∧ w'.heap.size = w.heap.size := by
  obtain ⟨⟨k, hk⟩, h1, h2⟩ := h
  refine (next_det b a len cap zs k m w hk hm hm2).mono ?_
  rintro e w' ⟨he, hs, hg, hz⟩
  obtain ⟨hr0, hr1⟩ := nxt_bounds len zs k m hm
  exact ⟨_, he, hr0, hr1, ⟨⟨_, hs⟩, h1.keep hg, h2.keep hg⟩, hg, hz⟩

/-- the world behind: grown by the stream's block -/
structure Behind (w w' : World) (b : Nat) (a : Option Addr) (len cap : Nat) (zs : List Int) (W T : List (List UInt8)) (gw ow cw gs ot cs : Nat) : Prop where
  gen : Gen w' b a len cap zs W T gw ow cw gs ot cs
  gb : w.grownBy w' (some b)
  size : w'.heap.size = w.heap.size

theorem row4_after {N : Nat} {t : TypeId} {x y z u : Value} (hg : w.grownBy w' (some b)) (hN : w.heap[N]? = some (.cells #[x, y, z, u] t (0, 0))) (hne : N ≠ b) : w'.heap[N]? = some (.cells #[x, y, z, u] t (0, 0)) :=
  (hg.block N (heap_lt hN) (by simp; exact hne)).trans hN

/-- what the next draw of a table's length takes: known ahead of it -/
theorem Gen.ahead {n v g o c : Nat} {S : List (List UInt8)} (h : Gen w b a len cap zs W T gw ow cw gs ot cs) (hT : Tab w b v n S g o c) (m : Int) (hm : (n : Int) = m) :
    ∃ (r : Nat) (s : List UInt8), (0 : Int) ≤ (r : Int) ∧ (r : Int) < m ∧ s ∈ S ∧ w.cell? ⟨g, o + r, none⟩ = some (.string ⟨s.toArray⟩) ∧
      ∀ {N : Nat} {t : TypeId} {x y z u : Value} (hN : w.heap[N]? = some (.cells #[x, y, z, u] t (0, 0))) (hne : N ≠ b), Calls Tryd.prog 36 #[.pointer (some ⟨b, 0, none⟩), .int .i64 m] w.drew fun e w' => e = .returned (.int .i64 (r : Int)) ∧ 
      w'.cell? ⟨g, o + r, none⟩ = some (.string ⟨s.toArray⟩) ∧ w'.cell? ⟨v, 0, none⟩ = some (.slice (some ⟨g, o, none⟩) n c) ∧
      w'.cell? ⟨N, 0, none⟩ = some x ∧ w'.cell? ⟨N, 1, none⟩ = some y ∧ w'.cell? ⟨N, 2, none⟩ = some z ∧ w'.cell? ⟨N, 3, none⟩ = some u ∧
      w'.frozen? ⟨N, 0, none⟩ = false ∧ w'.frozen? ⟨N, 1, none⟩ = false ∧ w'.frozen? ⟨N, 2, none⟩ = false ∧ w'.frozen? ⟨N, 3, none⟩ = false ∧ Behind w w' b a len cap zs W T gw ow cw gs ot cs := by
  obtain ⟨⟨k, hk⟩, h1, h2⟩ := h
  have hp := hT.pos
  obtain ⟨hr0, hr1⟩ := nxt_bounds len zs k m (by omega)
  obtain ⟨r, hr⟩ := Int.eq_ofNat_of_zero_le hr0
  obtain ⟨s, hs, hc⟩ := hT.row r (by omega)
  refine ⟨r, s, by omega, by omega, hs, hc, ?_⟩
  intro N t x y z u hN hne
  have hG : Gen w.drew b a len cap zs W T gw ow cw gs ot cs := Gen.drew ⟨⟨k, hk⟩, h1, h2⟩
  refine (next_det b a len cap zs k m w.drew hk.drew (by omega) (by omega)).mono ?_
  rintro e w' ⟨he, hs', hg, hz⟩
  have hg' : w.grownBy w' (some b) := gb_trans (gb_drew (World.grownBy.refl _ _) ) hg
  have hT' := hT.keep hg'
  obtain ⟨d0, d1, d2, d3, y0, y1, y2, y3⟩ := row4 (row4_after hg' hN hne)
  refine ⟨by rw [he, hr], ?_, hT'.head, d0, d1, d2, d3, y0, y1, y2, y3, ⟨⟨_, hs'⟩, h1.keep hg', h2.keep hg'⟩, hg', hz⟩
  exact (World.cell?_of_block (hg'.block g hT.glt (by simp; exact hT.gb))).trans hc
end
end Go.Proofs.YtddfpbcdopcdhaaDoor
