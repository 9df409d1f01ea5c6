/- telref1.Quote: a string in quotes. No condition but that the string is of bounded length. -/
import Derived.Test.YtpflfbfbjmoggaaDoorConv
import Derived.Test.YtpflfbfbjmoggaaDoorTxt
import Derived.Test.YtpflfbfbjmoggaaDoorFs
import Derived.BigQuiet
set_option linter.unusedVariables false
set_option linter.unusedSimpArgs false
namespace Go.Proofs.YtpflfbfbjmoggaaDoor
open Go.RowKit Sx

def QtRel (t : List UInt8) (w : World) (b i : Value) (wr : World) : Prop :=
  ∃ (acc : List UInt8) (q : Nat), i = .int .i64 (q : Int) ∧ q ≤ t.length ∧ acc.length ≤ 2 * q + 1 ∧ acc ++ escT (t.drop q) = 34 :: escT t ∧ wr.ownsRow w.heap.size 5 1 b acc.length (Lib.byteCells acc) ∧ Below w.heap.size w wr

theorem qt_step {w wr w2 : World} {v : Value} {n : Nat} {xs : List Value} {o : Obj} {e : TypeId} {z : Nat} (hbel : Below w.heap.size w wr) (hown : wr.ownsRow w.heap.size e z v n xs) (hg2 : (wr.alloc o).grownBy w2 v.ownBlock) : Below w.heap.size w w2 := by
  have hbs := hbel.size
  exact ⟨hg2.os.trans hbel.os, hg2.tape.trans hbel.tape, hg2.output.trans hbel.output, by have := hg2.size; simp at this; omega,
        fun k hk => (hg2.block k (by simp; omega) (fun e => by have := (hown.lt k e.symm).1; omega)).trans ((Below.heap_alloc wr _ k (by omega)).trans (hbel.block k hk))⟩

set_option maxHeartbeats 2000000 in
set_option maxRecDepth 100000 in
theorem quote_any (t : List UInt8) (w : World) (hn : t.length ≤ 1073741824) :
    Calls Tryd.prog 58 #[.string ⟨t.toArray⟩] w fun e w' => e = .returned (.string ⟨(quoteB t).toArray⟩) ∧ Below w.heap.size w w' := by
  obtain ⟨i0, hi, hz0, hz1, hz2⟩ := info_parts infoU8
  obtain ⟨s, hs⟩ : ∃ s : ByteArray, s = ⟨t.toArray⟩ := ⟨_, rfl⟩
  have hsz : s.size = t.length := by rw [hs]; show t.toArray.size = _; simp
  have hst : s.data.toList = t := by rw [hs]
  rw [← hs]
  clear hs
  go_enter Tryd.func58, Tryd.ntmps58
  go_wp2_with (fail)
  go_loopw [3, 4] (fun b i wr => QtRel t w b i wr) (fun _ i _ => s.size - (match i with | .int _ n => n.toNat | _ => 0))
  case atStart =>
    refine ⟨[34], 0, rfl, Nat.zero_le _, by simp, by simp, ?_, (Below.refl _ _).alloc (Nat.le_refl _) _⟩
    exact World.ownsRow_lit (base := w.heap.size) (e := 5) (size := 1) w #[.int .u8 34] 1 (Nat.le_refl _) (by decide) (by rfl)
  case round =>
    obtain ⟨acc, q, rfl, hq, hal, hacc, hown, hbel⟩ := hrel
    obtain ⟨A4, c4, rfl, hc4⟩ := own_shape hown
    have hbs := hbel.size
    have Hacc := Lib.hid hacc
    clear hacc
    have Hst := Lib.hid hst
    clear hst
    by_cases hlt : q < s.size
    · have hget := Lib.hid (drop_at s q hlt)
      have hti : decide ((q : Int) < (s.size : Int)) = true := by simp; omega
      have b0 := byte_lo s[q]
      have b1 := byte_hi s[q]
      have hcat1 : Lib.byteCells acc ++ [Value.int .u8 (s[q].toNat : Int)] = Lib.byteCells (acc ++ [s[q]]) := by simp [Lib.byteCells]
      have hcat2 : Lib.byteCells acc ++ [Value.int .u8 92, Value.int .u8 (s[q].toNat : Int)] = Lib.byteCells (acc ++ [92, s[q]]) := by simp [Lib.byteCells]
      cases h34 : ((s[q].toNat : Int) == 34)
      · cases h92 : ((s[q].toNat : Int) == 92)
        · have hesc : escB (s[q].toNat : Int) = false := by simp [escB] at *; exact ⟨h34, h92⟩
          go_wp2_with (at_builtin; go_loud (refine wpList_append_own_at _ rfl _ _ 74 rfl w.heap.size 5 i0 (.int .u8 0) 1 1 Tryd.underlying74 hi hz0 hz1 hz2 rfl (by decide) _ _ _ rfl (World.ownsRow.alloc (by exact hown) _) ⟨wr.heap.size, 0, none⟩ 1 1 [.int .u8 (s[q].toNat : Int)] rfl rfl ?a1 ?a2 ?a3 ?a4 ?a5 ?_))
          case a1 => exact cells_new _ [_] _
          case a2 => intro u hu; simp at hu; subst hu; rfl
          case a3 => unfold maxLen; omega
          case a4 => omega
          case a5 => simp; omega
          intro v' w2 hown2 hg2 _ _
          go_wp2_with (fail)
          refine ⟨⟨acc ++ [s[q]], q + 1, by simp, by omega, by simp; omega, ?_, by simpa using hown2, qt_step hbel hown hg2⟩, by simp; omega⟩
          have h := Hacc.out
          rw [← Hst.out] at h ⊢
          rw [hget.out, escT_no hesc] at h
          simpa using h
        · have hesc : escB (s[q].toNat : Int) = true := by simp [escB] at *; exact .inr h92
          go_wp2_with (at_builtin; go_loud (refine wpList_append_own_at _ rfl _ _ 74 rfl w.heap.size 5 i0 (.int .u8 0) 1 1 Tryd.underlying74 hi hz0 hz1 hz2 rfl (by decide) _ _ _ rfl (World.ownsRow.alloc (by exact hown) _) ⟨wr.heap.size, 0, none⟩ 1 1 [.int .u8 92] rfl rfl ?a1 ?a2 ?a3 ?a4 ?a5 ?_))
          case a1 => exact cells_new _ [_] _
          case a2 => intro u hu; simp at hu; subst hu; rfl
          case a3 => unfold maxLen; omega
          case a4 => omega
          case a5 => simp; omega
          intro v' w2 hown2 hg2 _ _
          obtain ⟨A5, c5, rfl, hc5⟩ := own_shape hown2
          have hb2 := qt_step hbel hown hg2
          have hbs2 := hb2.size
          go_wp2_with (at_builtin; go_loud (refine wpList_append_own_at _ rfl _ _ 74 rfl w.heap.size 5 i0 (.int .u8 0) 1 1 Tryd.underlying74 hi hz0 hz1 hz2 rfl (by decide) _ _ _ rfl (World.ownsRow.alloc (by exact hown2) _) ⟨w2.heap.size, 0, none⟩ 1 1 [.int .u8 (s[q].toNat : Int)] rfl rfl ?b1 ?b2 ?b3 ?b4 ?b5 ?_))
          case b1 => exact cells_new _ [_] _
          case b2 => intro u hu; simp at hu; subst hu; rfl
          case b3 => unfold maxLen; omega
          case b4 => omega
          case b5 => simp; omega
          intro v'' w3 hown3 hg3 _ _
          go_wp2_with (fail)
          refine ⟨⟨acc ++ [92, s[q]], q + 1, by simp, by omega, by simp; omega, ?_, by simpa using hown3, qt_step hb2 hown2 hg3⟩, by simp; omega⟩
          have h := Hacc.out
          rw [← Hst.out] at h ⊢
          rw [hget.out, escT_yes hesc] at h
          simpa using h
      · have hesc : escB (s[q].toNat : Int) = true := by simp [escB] at *; exact .inl h34
        go_wp2_with (at_builtin; go_loud (refine wpList_append_own_at _ rfl _ _ 74 rfl w.heap.size 5 i0 (.int .u8 0) 1 1 Tryd.underlying74 hi hz0 hz1 hz2 rfl (by decide) _ _ _ rfl (World.ownsRow.alloc (by exact hown) _) ⟨wr.heap.size, 0, none⟩ 1 1 [.int .u8 92] rfl rfl ?a1 ?a2 ?a3 ?a4 ?a5 ?_))
        case a1 => exact cells_new _ [_] _
        case a2 => intro u hu; simp at hu; subst hu; rfl
        case a3 => unfold maxLen; omega
        case a4 => omega
        case a5 => simp; omega
        intro v' w2 hown2 hg2 _ _
        obtain ⟨A5, c5, rfl, hc5⟩ := own_shape hown2
        have hb2 := qt_step hbel hown hg2
        have hbs2 := hb2.size
        go_wp2_with (at_builtin; go_loud (refine wpList_append_own_at _ rfl _ _ 74 rfl w.heap.size 5 i0 (.int .u8 0) 1 1 Tryd.underlying74 hi hz0 hz1 hz2 rfl (by decide) _ _ _ rfl (World.ownsRow.alloc (by exact hown2) _) ⟨w2.heap.size, 0, none⟩ 1 1 [.int .u8 (s[q].toNat : Int)] rfl rfl ?b1 ?b2 ?b3 ?b4 ?b5 ?_))
        case b1 => exact cells_new _ [_] _
        case b2 => intro u hu; simp at hu; subst hu; rfl
        case b3 => unfold maxLen; omega
        case b4 => omega
        case b5 => simp; omega
        intro v'' w3 hown3 hg3 _ _
        go_wp2_with (fail)
        refine ⟨⟨acc ++ [92, s[q]], q + 1, by simp, by omega, by simp; omega, ?_, by simpa using hown3, qt_step hb2 hown2 hg3⟩, by simp; omega⟩
        have h := Hacc.out
        rw [← Hst.out] at h ⊢
        rw [hget.out, escT_yes hesc] at h
        simpa using h
    · have hti : decide ((q : Int) < (s.size : Int)) = false := by simp; omega
      go_wp2_with (at_builtin; go_loud (refine wpList_append_own_at _ rfl _ _ 74 rfl w.heap.size 5 i0 (.int .u8 0) 1 1 Tryd.underlying74 hi hz0 hz1 hz2 rfl (by decide) _ _ _ rfl (World.ownsRow.alloc (by exact hown) _) ⟨wr.heap.size, 0, none⟩ 1 1 [.int .u8 34] rfl rfl ?a1 ?a2 ?a3 ?a4 ?a5 ?_))
      case a1 => exact cells_new _ [_] _
      case a2 => intro u hu; simp at hu; subst hu; rfl
      case a3 => unfold maxLen; omega
      case a4 => omega
      case a5 => simp; omega
      intro v' w2 hown2 hg2 _ _
      go_wp2_with (fail)
      have hcat3 : Lib.byteCells acc ++ [Value.int .u8 34] = Lib.byteCells (acc ++ [34]) := by simp [Lib.byteCells]
      rw [hcat3] at hown2
      have hown4 : w2.ownsRow w.heap.size 5 1 v' (acc ++ [34]).length (Lib.byteCells (acc ++ [34])) := by simpa using hown2
      rw [conv_own _ w2 w.heap.size _ (acc ++ [34]) hown4 (fun g h => rfl)]
      simp only [Result.andThen]
      rw [Oper.upon_value]
      go_wp2_with (fail)
      go_ret
      have hqn : t.drop q = [] := by rw [List.drop_eq_nil_iff]; omega
      have h := Hacc.out
      rw [hqn] at h
      simp only [escT, List.append_nil] at h
      exact ⟨by rw [h]; rfl, qt_step hbel hown hg2⟩
end Go.Proofs.YtpflfbfbjmoggaaDoor
