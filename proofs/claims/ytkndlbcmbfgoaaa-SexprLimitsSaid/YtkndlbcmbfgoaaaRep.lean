/- telmake.Repeat and telmake.Deep: a text repeated. No condition but that one letter is repeated a small number of times. -/
import Derived.Test.YtkndlbcmbfgoaaaMod
import Derived.Test.YtkndlbcmbfgoaaaRQuot
import Derived.OwnWalk
import Derived.Lib.AppendStr
set_option linter.unusedVariables false
set_option linter.unusedSimpArgs false
namespace Go.Proofs.Ytkndlbcmbfgoaaa
open Go.RowKit Sx Go.Lib

def rep (n : Nat) (c : UInt8) : ByteArray := ⟨(List.replicate n c).toArray⟩

theorem rep_size (n : Nat) (c : UInt8) : (rep n c).size = n := by simp [rep, ByteArray.size]

def RepRel (c : UInt8) (n : Nat) (w : World) (b i : Value) (wr : World) : Prop :=
  ∃ q : Nat, i = .int .i64 (q : Int) ∧ q ≤ n ∧ wr.ownsRow w.heap.size 5 1 b q (Lib.byteCells (List.replicate q c)) ∧ Below w.heap.size w wr

set_option maxHeartbeats 2000000 in
theorem repeat_any (c : UInt8) (n : Nat) (w : World) (hn : n ≤ 65537) :
    Calls Try.prog 12 #[.string ⟨#[c]⟩, .int .i64 (n : Int)] w fun e w' => e = .returned (.string (rep n c)) ∧ Below w.heap.size w w' := by
  obtain ⟨i0, hi, hz0, hz1, hz2⟩ := info_parts infoU8
  have hmx : max (n : Int) 0 = (n : Int) := by omega
  have hsz : (ByteArray.mk #[c]).size = 1 := rfl
  go_enter Try.func12, Try.ntmps12
  go_wp2_with (at_make; go_loud (refine wpList_make_own _ rfl _ _ 36 rfl w.heap.size 5 i0 (.int .u8 0) 1 Try.underlying36 hi hz0 hz1 _ _ _ n rfl rfl ?m1 ?m2 ?m3 ?m4 ?_))
  case m1 => rfl
  case m2 => rw [hz2]; omega
  case m3 => unfold maxLen; omega
  case m4 => exact Nat.le_refl _
  intro w1 hown1 hg1
  go_wp2_with (fail)
  go_loopw [5, 6] (fun b i wr => RepRel c n w b i wr) (fun _ i _ => n - (match i with | .int _ n => n.toNat | _ => 0))
  case atStart => exact ⟨0, rfl, Nat.zero_le _, hown1, below_gb hg1⟩
  case round =>
    obtain ⟨q, rfl, hq, hown, hb⟩ := hrel
    obtain ⟨A4, c4, rfl, hc4⟩ := own_shape hown
    have hbs := hb.size
    by_cases hlt : q < n
    · have hti : decide ((q : Int) < (n : Int)) = true := by simp; omega
      go_wp2_with (at_builtin; go_loud (refine wpList_append_own_string _ rfl _ _ 36 9 rfl w.heap.size 5 i0 Try.underlying36 Try.underlying9 hi hz0 hz1 hz2 _ q _ rfl (by exact hown) _ rfl ?c1 ?c2 ?c3 ?_))
      case c1 => rw [hsz]; unfold maxLen; omega
      case c2 => rw [hsz]; omega
      case c3 => exact hbs
      intro v' w2 hown2 hg2 _
      go_wp2_with (fail)
      have hcat : Lib.byteCells (List.replicate q c) ++ strCells ⟨#[c]⟩ = Lib.byteCells (List.replicate (q + 1) c) := by
        rw [List.replicate_succ']
        simp [Lib.byteCells, strCells]
      rw [hcat] at hown2
      refine ⟨⟨q + 1, by simp, hlt, hown2, ?_⟩, by simp; omega⟩
      exact ⟨hg2.os.trans hb.os, hg2.tape.trans hb.tape, hg2.output.trans hb.output, by have := hg2.size; omega,
        fun k hk => (hg2.block k (by omega) (fun e => by have := (hown.lt k e.symm).1; omega)).trans (hb.block k hk)⟩
    · have hti : decide ((q : Int) < (n : Int)) = false := by simp; omega
      have hqn : q = n := by omega
      subst hqn
      go_wp2_with (fail)
      have hlen : (List.replicate q c).length = q := List.length_replicate
      have hcv := conv_own wr wr w.heap.size (.slice A4 q c4) (List.replicate q c) (by rw [hlen]; exact hown) (fun g h => rfl)
      rw [hcv]
      simp only [Result.andThen]
      rw [Oper.upon_value]
      go_wp2_with (fail)
      go_ret
      exact ⟨rfl, hb⟩

set_option maxHeartbeats 1000000 in
theorem deep_any (n : Nat) (w : World) (hn : n ≤ 60) :
    Calls Try.prog 13 #[.int .i64 (n : Int)] w fun e w' => e = .returned (.string (rep n 40 ++ rep n 41)) ∧ Below w.heap.size w w' := by
  have s1 := rep_size n 40
  have s2 := rep_size n 41
  go_enter Try.func13, Try.ntmps13
  go_wp2_with (fail)
  refine (repeat_any 40 n _ (by omega)).mono ?_
  rintro e1 w1 ⟨rfl, hb1⟩
  go_wp2_with (fail)
  refine (repeat_any 41 n _ (by omega)).mono ?_
  rintro e2 w2 ⟨rfl, hb2⟩
  go_wp2_with (fail)
  go_ret
  exact ⟨rfl, hb1.trans (hb2.mono hb1.size)⟩
end Go.Proofs.Ytkndlbcmbfgoaaa
