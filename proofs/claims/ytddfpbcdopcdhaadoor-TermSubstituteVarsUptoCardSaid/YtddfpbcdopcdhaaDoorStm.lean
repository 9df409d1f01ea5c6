/- telmake.New, (*Stream).Next, (*Stream).Raw: a stream of integers that came in. -/
import Derived.Test.YtddfpbcdopcdhaaDoorMod
import Derived.Test.YtddfpbcdopcdhaaDoorFs
set_option linter.unusedVariables false
set_option linter.unusedSimpArgs false
namespace Go.Proofs.YtddfpbcdopcdhaaDoor
open Go.RowKit Sx

/-- the integers of a slice that came in, at a plain address -/
def Ints (w : World) (a : Option Addr) (len : Nat) (zs : List Int) : Prop :=
  0 < len → ∃ g off : Nat, a = some ⟨g, off, none⟩ ∧ g < w.heap.size ∧ ∀ i, i < len → w.cell? ⟨g, off + i, none⟩ = some (.int .i64 (zs.getD i 0))

theorem Ints.keep {w w' : World} {a : Option Addr} {len : Nat} {zs : List Int} (h : Ints w a len zs) (hs : w.heap.size ≤ w'.heap.size) (hk : ∀ g off, a = some ⟨g, off, none⟩ → g < w.heap.size → w'.heap[g]? = w.heap[g]?) : Ints w' a len zs := by
  intro hp
  obtain ⟨g, off, hA, hg, hc⟩ := h hp
  exact ⟨g, off, hA, by omega, fun i hi => (World.cell?_of_block (hk g off hA hg)).trans (hc i hi)⟩

/-- block b is a stream over those integers, k of them read -/
def Strm (w : World) (b : Nat) (a : Option Addr) (len cap : Nat) (zs : List Int) (k : Nat) : Prop :=
  w.heap[b]? = some (.cells #[.slice a len cap, .int .i64 (k : Int)] 42 (0, 0)) ∧ Ints w a len zs ∧ (0 < len → ∀ g off, a = some ⟨g, off, none⟩ → g ≠ b) ∧ k ≤ len ∧ len ≤ maxLen

theorem Strm.lt {w : World} {b : Nat} {a : Option Addr} {len cap : Nat} {zs : List Int} {k : Nat} (h : Strm w b a len cap zs k) : b < w.heap.size := heap_lt h.1

/-- what Next answers -/
def nxt (len : Nat) (zs : List Int) (k : Nat) (m : Int) : Int := if k < len then modI (zs.getD k 0) m else 0
/-- how many are read behind it -/
def nk (len k : Nat) : Nat := if k < len then k + 1 else k
theorem nxt_bounds (len : Nat) (zs : List Int) (k : Nat) (m : Int) (hm : 0 < m) : 0 ≤ nxt len zs k m ∧ nxt len zs k m < m := by
  unfold nxt
  split
  · exact modI_bounds _ m hm
  · omega

set_option maxHeartbeats 1000000 in
theorem next_det (b : Nat) (a : Option Addr) (len cap : Nat) (zs : List Int) (k : Nat) (m : Int) (w : World) (h : Strm w b a len cap zs k) (hm : 0 < m) (hm2 : m ≤ 65536) :
    Calls Tryd.prog 36 #[.pointer (some ⟨b, 0, none⟩), .int .i64 m] w fun e w' => e = .returned (.int .i64 (nxt len zs k m)) ∧ Strm w' b a len cap zs (nk len k) ∧ w.grownBy w' (some b) ∧ w'.heap.size = w.heap.size := by
  obtain ⟨hblk, hints, hab, hk, hl⟩ := h
  obtain ⟨c0, c1, z0, z1⟩ := row2 hblk
  have hb := heap_lt hblk
  by_cases hlt : k < len
  · obtain ⟨g, off, rfl, hg, hc⟩ := hints (by omega)
    have hgb := hab (by omega) g off rfl
    have hml : len ≤ 9223372036854775807 := by have := hl; unfold maxLen at this; omega
    have hcell := hc k hlt
    have hcell' : (w.setCell ⟨b, 1, none⟩ (.int .i64 ((k : Int) + 1))).cell? ⟨g, off + k, none⟩ = some (.int .i64 (zs.getD k 0)) := (World.cell?_of_block (heap_far hgb _)).trans hcell
    have hnx : nxt len zs k m = modI (zs.getD k 0) m := if_pos hlt
    rw [hnx]
    clear hnx
    generalize zs.getD k 0 = z at *
    obtain ⟨hr0, hr1⟩ := modI_bounds z m hm
    have hmo := fun W => mod_any z m W hm hm2
    have Hmo := Lib.hid hmo
    clear hmo
    have hw : wrap64 ((k : Int) + 1) = (k : Int) + 1 := wrap64_in (by omega) (by omega)
    have i1 : ((k : Int) + 1 - 1).toNat = k := by omega
    have t1 : decide (len ≤ k) = false := by simp; omega
    have Hc := Lib.hid hc
    clear hc
    go_enter Tryd.func36, Tryd.ntmps36
    go_wp2_with (fail)
    go_quiet (fail)
    go_wp2_with (fail)
    go_quiet ((go_at_call 8; first | exact quiet_left (Hmo.out _) | exact quiet_add_left (Hmo.out _) | exact quiet_0 (Hmo.out _)))
    go_wp2_with (fail)
    go_ret
    have hset := heap_set (i := 1) hblk (.int .i64 ((k : Int) + 1))
    rw [show nk len k = k + 1 from if_pos hlt]
    refine ⟨rfl, ⟨hset, ?_, hab, hlt, hl⟩, ?_, ?_⟩
    · exact hints.keep (by simp [size_set]) (fun g' off' e _ => heap_far (hab (by omega) g' off' e) _)
    · refine gb_drewN ?_ _
      refine gb_setCell ?_ (.inl rfl) _
      exact gb_drewN (World.grownBy.refl _ _) _
    · simp [size_set]
  · have t1 : decide (len ≤ k) = true := by simp; omega
    go_enter Tryd.func36, Tryd.ntmps36
    go_wp2_with (fail)
    go_quiet (fail)
    go_wp2_with (fail)
    go_ret
    rw [show nk len k = k from if_neg hlt]
    exact ⟨Eq.trans rfl (congrArg (fun x => Ending.returned (.int .i64 x)) (show nxt len zs k m = 0 from if_neg hlt).symm), ⟨hblk, hints, hab, hk, hl⟩, gb_drewN (World.grownBy.refl _ _) _, rfl⟩
theorem new_any (a : Option Addr) (len cap : Nat) (w : World) :
    Calls Tryd.prog 6 #[.slice a len cap] w fun e w' => e = .returned (.pointer (some ⟨w.heap.size, 0, none⟩)) ∧ w' = w.alloc (.cells #[.slice a len cap, .int .i64 0] 42) := by
  go_enter Tryd.func6, Tryd.ntmps6
  go_wp2_with (fail)
  go_ret
  exact ⟨rfl, rfl⟩
end Go.Proofs.YtddfpbcdopcdhaaDoor
