/- What sexpr.Parse returns, in two contracts: the nodes, or the fault. -/
import Derived.Test.YtpflfbfbjmoggaaDoorCheck
set_option linter.unusedVariables false
set_option linter.unusedSimpArgs false
namespace Go.Proofs.YtpflfbfbjmoggaaDoor
open Go.RowKit Sx

theorem parse_ok (s : ByteArray) (l : List UInt8) (f : Fo) (q : Nat) (w : World) (hl : s.data.toList = l) (hs : s.size ≤ maxLen) (h : parseR l = .ok f q) :
    Calls Tryd.prog 11 #[.string s] w fun e w' => ∃ A c ys, e = .returned (.tuple #[.slice A f.len c, .agg #[.int .i64 0, .int .i64 0]]) ∧ f.len ≤ c ∧ readsAt w' (fun x => w.heap.size ≤ x) A f.len ys ∧ rowOf w' (fun x => w.heap.size ≤ x) f ys ∧ Below w.heap.size w w' := by
  subst hl
  refine (parse_any s w hs).mono fun e w' hp => ?_
  unfold ParsePost at hp
  rw [h] at hp
  obtain ⟨⟨v, rfl, hsl⟩, hb⟩ := hp
  obtain ⟨A, c, ys, rfl, hc, hr, ho⟩ := hsl
  exact ⟨A, c, ys, rfl, hc, hr, ho, hb⟩
theorem parse_bad (s : ByteArray) (l : List UInt8) (k : Int) (a : Nat) (w : World) (hl : s.data.toList = l) (hs : s.size ≤ maxLen) (h : parseR l = .bad k a) :
    Calls Tryd.prog 11 #[.string s] w fun e w' => e = .returned (.tuple #[.slice none 0 0, .agg #[.int .i64 k, .int .i64 (a : Int)]]) ∧ Below w.heap.size w w' := by
  subst hl
  refine (parse_any s w hs).mono fun e w' hp => ?_
  unfold ParsePost at hp
  rw [h] at hp
  obtain ⟨rfl, hb⟩ := hp
  exact ⟨rfl, hb⟩
end Go.Proofs.YtpflfbfbjmoggaaDoor
