/- tellaw1.SexprPieces answers true for every slice of integers: the text is built of pieces, then read as in SexprParse. No condition. -/
import Derived.Test.YtkndlbcmbfgoaaaPar
import Derived.Test.YtkndlbcmbfgoaaaMod
import Derived.Deep.RegionHeld3
import Derived.Deep.AppendLies
import Derived.Deep.RegionLaw
import Derived.ChangeOld
import Derived.Below
import Derived.SizedLaws
namespace Go.Proofs.Ytkndlbcmbfgoaaa.sexprPieces
open Go.ChangeShapes Go.WideShapes Go.ChangeAt Go.RowKit Sx
open Go.ChangeMaps (open_string shut_string)
set_option linter.unusedVariables false
set_option linter.unusedSimpArgs false

theorem own : ownKnob Try.prog.godebug = none := by kernel_rfl
theorem bytesI : Try.prog.bytesOf 3 = 8 := by kernel_rfl
theorem laidOut : laidOutB Try.prog = true := by kernel_rfl

/-- what is told of a slice of integers that came in -/
def IsRow (k : IntKind) (w : World) (a : Option Addr) (len cap : Nat) (zs : List Int) : Prop :=
  (a = none ∧ len = 0 ∧ cap = 0 ∧ zs = []) ∨
  ∃ x, a = some x ∧ len ≤ cap ∧ cap ≤ maxLen ∧ zs.length = cap ∧ (∀ i, i < zs.length → w.cell? (x.add i) = some (.int k (zs.getD i 0))) ∧ ∀ n ∈ zs, (Lit.int k n).wf = true

/-- the same for the elements alone, at a plain address -/
def Ints (w : World) (a : Option Addr) (len : Nat) (zs : List Int) : Prop :=
  len ≤ maxLen ∧ (0 < len → ∃ g off : Nat, a = some ⟨g, off, none⟩ ∧ g < w.heap.size ∧ ∀ i, i < len → w.cell? ⟨g, off + i, none⟩ = some (.int .i64 (zs.getD i 0)))

theorem lt_of_cell {w : World} {p : Addr} {v : Value} (h : w.cell? p = some v) : p.block < w.heap.size := by
  rcases Nat.lt_or_ge p.block w.heap.size with hh | hh
  · exact hh
  · unfold World.cell? at h
    rw [Array.getElem?_eq_none hh] at h
    split at h
    · rename_i heq; cases heq
    · cases h

theorem IsRow.ints {w : World} {a : Option Addr} {len cap : Nat} {zs : List Int} (h : IsRow .i64 w a len cap zs) : Ints w a len zs := by
  rcases h with ⟨rfl, rfl, rfl, rfl⟩ | ⟨x, rfl, hl, hm, hz, hcell, hwz⟩
  · exact ⟨Nat.zero_le _, fun h => absurd h (by omega)⟩
  · refine ⟨by omega, fun hp => ?_⟩
    obtain ⟨b, off, spot⟩ := x
    have hc := hcell 0 (by omega)
    have hspot : spot = none := by simpa [Addr.add] using World.cell?_spot hc
    subst hspot
    have e : ∀ i, (⟨b, off, none⟩ : Addr).add i = ⟨b, off + i, none⟩ := by
      intro i
      unfold Addr.add
      split
      · rename_i h; rw [h]; rfl
      · rfl
    refine ⟨b, off, rfl, ?_, fun i hi => ?_⟩
    · have := lt_of_cell hc
      rwa [blk_add] at this
    · rw [← e]
      exact hcell i (by omega)

def PRel (len : Nat) (w : World) (b i : Value) (wr : World) : Prop :=
  ∃ (acc : List UInt8), i = .int .i64 (acc.length : Int) ∧ acc.length ≤ len ∧ wr.ownsRow w.heap.size 5 1 b acc.length (Lib.byteCells acc) ∧ Below w.heap.size w wr

theorem grow_ex {w2 : World} {base : Nat} {v' : Value} {acc : List UInt8} {d : UInt8} (h : w2.ownsRow base 5 1 v' (acc.length + 1) (Lib.byteCells (acc ++ [d]))) :
    ∃ acc' : List UInt8, acc'.length = acc.length + 1 ∧ w2.ownsRow base 5 1 v' acc'.length (Lib.byteCells acc') :=
  ⟨acc ++ [d], by simp, by rw [List.length_append]; exact h⟩

set_option maxHeartbeats 2000000 in
theorem walk (a0 : Option Addr) (len0 cap0 : Nat) (z0 : List Int) (w : World) (w0 : IsRow .i64 w a0 len0 cap0 z0) (hreach : len0 * 8 ≤ 140737488351232) :
    Calls Try.prog 4 #[.slice a0 len0 cap0] w fun e w' => e = .returned (.bool true) ∧ Below w.heap.size w w' := by
  obtain ⟨hml, hints⟩ := w0.ints
  clear w0
  obtain ⟨i0, hi, hz0, hz1, hz2⟩ := info_parts infoU8
  go_enter Try.func4, Try.ntmps4
  go_wp2_with (fail)
  go_loopw [3, 4] (fun b i wr => PRel len0 w b i wr) (fun _ i _ => len0 - (match i with | .int _ n => n.toNat | _ => 0))
  case atStart => exact ⟨[], rfl, Nat.zero_le _, World.ownsRow_nil _ _ _ _, Below.refl _ _⟩
  case round =>
    obtain ⟨acc, rfl, hle, hown, hbel⟩ := hrel
    obtain ⟨A4, c4, rfl, hc4⟩ := own_shape hown
    by_cases hlt : acc.length < len0
    · obtain ⟨g, off, rfl, hg, hcell⟩ := hints (by omega)
      have hcl := (hbel.cell (p := ⟨g, off + acc.length, none⟩) hg).trans (hcell _ hlt)
      generalize z0.getD acc.length 0 = z at hcl
      have hti : decide ((acc.length : Int) < (len0 : Int)) = true := by simp; omega
      obtain ⟨hr0, hr1⟩ := modI_bounds z 17 (by omega)
      have hml2 : acc.length + 1 ≤ maxLen := by omega
      have hbs := hbel.size
      have hmo := fun W => mod_any z 17 W (by omega) (by omega)
      generalize modI z 17 = r at *
      have Hmo := Lib.hid hmo
      clear hmo
      go_wp2_with (fail)
      refine (Hmo.out _).mono ?_
      rintro e1 w1 ⟨rfl, rfl⟩
      go_wp2_with (at_builtin; go_loud (refine wpList_append_own_at _ rfl _ _ 36 rfl w.heap.size 5 i0 (.int .u8 0) 1 1 Try.underlying36 hi hz0 hz1 hz2 rfl (by decide) _ _ _ rfl (World.ownsRow.alloc (by exact hown) _) ⟨wr.heap.size, 0, none⟩ 1 1 [.int .u8 ?byt1] rfl rfl ?c1 ?c2 ?c3 ?c4 ?c5 ?_))
      case c1 => exact cells_new _ [_] _
      case c2 => intro u hu; simp at hu; subst hu; rfl
      case c3 => exact hml2
      case c4 => omega
      case c5 => simp; omega
      intro v' w2 hown2 hg2 _ _
      go_wp2_with (fail)
      have hcat : ∀ d : UInt8, Lib.byteCells acc ++ [Value.int .u8 (d.toNat : Int)] = Lib.byteCells (acc ++ [d]) := by intro d; simp [Lib.byteCells]
      rw [hcat] at hown2
      obtain ⟨acc', hal, hown3⟩ := grow_ex hown2
      refine ⟨⟨acc', by simp [hal], by omega, hown3, ?_⟩, by simp; omega⟩
      exact ⟨hg2.os.trans hbel.os, hg2.tape.trans hbel.tape, hg2.output.trans hbel.output, by have := hg2.size; simp at this; omega,
        fun k hk => (hg2.block k (by simp; omega) (fun e => by have := (hown.lt k e.symm).1; omega)).trans ((Below.heap_alloc wr _ k (by omega)).trans (hbel.block k hk))⟩
    · have hti : decide ((acc.length : Int) < (len0 : Int)) = false := by simp; omega
      obtain ⟨s0, hs0⟩ : ∃ s0 : ByteArray, s0 = ⟨acc.toArray⟩ := ⟨_, rfl⟩
      have hl0 : s0.size ≤ maxLen := by rw [hs0]; show acc.toArray.size ≤ maxLen; simp; omega
      have hs1 := Lib.hid hs0
      clear hs0
      have hsz := nodesR_size s0.data.toList
      have P1 := fun W => parse_res s0 W hl0
      have P2 := fun W => rParse_res s0 W hl0
      generalize parseR s0.data.toList = r at *
      have H1 := Lib.hid P1
      have H2 := Lib.hid P2
      clear P1 P2
      generalize nodesR r = f at *
      generalize kindR r = k at *
      generalize offR r = o at *
      go_wp2_with (fail)
      rw [conv_own _ wr w.heap.size _ acc hown (fun g h => rfl), ← hs1.out]
      simp only [Result.andThen]
      rw [Oper.upon_value]
      go_wp2_with (fail)
      refine (H1.out _).mono ?_
      rintro e1 w1 ⟨A, c, rfl, hsl1, hb1⟩
      go_wp2_with (fail)
      rw [conv_own (w1.alloc _) wr w.heap.size _ acc hown (fun g h => (Below.heap_alloc w1 _ g (by have := hb1.size; have := (hown.lt g h).2; omega)).trans (hb1.block g (hown.lt g h).2)), ← hs1.out]
      simp only [Result.andThen]
      rw [Oper.upon_value]
      go_wp2_with (fail)
      refine (H2.out _).mono ?_
      rintro e2 w2 ⟨A', c', rfl, hs2, hb2⟩
      go_wp2_with (fail)
      refine (check_any _).mono ?_
      rintro e3 w3 ⟨rfl, hb3⟩
      have B1 : Below w1.heap.size w1 (w1.alloc (.cells #[.int .i64 k, .int .i64 o] 25)) := (Below.refl _ _).alloc (Nat.le_refl _) _
      have B2 : Below w2.heap.size w2 (w2.alloc (.cells #[.int .i64 k, .int .i64 o] 25)) := (Below.refl _ _).alloc (Nat.le_refl _) _
      have l1 := hb2.size
      have l2 := hb3.size
      simp only [World.size_alloc] at l1 l2
      have hF1 : w3.heap[w1.heap.size]? = some (.cells #[.int .i64 k, .int .i64 o] 25 (0, 0)) := (hb3.block _ (by simp; omega)).trans ((B2.block _ (by omega)).trans ((hb2.block _ (by simp)).trans (heap_alloc_new _ _)))
      have hF2 : w3.heap[w2.heap.size]? = some (.cells #[.int .i64 k, .int .i64 o] 25 (0, 0)) := (hb3.block _ (by simp)).trans (heap_alloc_new _ _)
      obtain ⟨f0, f1, _, _⟩ := row2 hF1
      obtain ⟨g0, g1, _, _⟩ := row2 hF2
      go_wp2_with (fail)
      refine (fault_any k o k o _).mono ?_
      rintro e4 w4 ⟨rfl, hb4⟩
      have hfb : faultB k o k o = true := by simp [faultB]
      rw [hfb]
      go_wp2_with (fail)
      have hsa : sliceOf w4 (fun x => wr.heap.size ≤ x) f (.slice A f.len c) := (((hsl1.below B1).below (by simpa using hb2)).below B2).below hb3 |>.below hb4
      have hsb := (hs2.below B2).below hb3 |>.below hb4
      refine (same_any _ f (Nat.le_refl _) (by omega) _ _ _ _ _ hsa hsb).mono ?_
      rintro e5 w5 ⟨rfl, n, rfl⟩
      go_wp2_with (fail)
      go_ret
      refine ⟨rfl, ?_⟩
      have l0 := hb1.size
      have l3 := hb4.size
      have lw := hbel.size
      exact hbel.trans (((((((hb1.trans (B1.mono l0)).trans (hb2.mono (by simp; omega))).trans (B2.mono (by omega))).trans (hb3.mono (by simp; omega))).trans (hb4.mono (by omega))).trans (below_drewN (Below.refl _ _) n)).mono lw)

/-! ### THE ROW's STEP -/
set_option maxRecDepth 100000 in
theorem lifted (os : Os) (started : os.Started) (H : Type) (enc : TypeId × Value → H) :
    ReturnsInHanded {} Try.checked os 4 .any (Rows.sexprPiecesSpec.pre6 enc Try.prog Try.f4 Rows.sexprPiecesRow.domain false) (Rows.sexprPiecesSpec.post enc Try.prog Try.f4 false true false false) := by
  refine returnsInHanded_of_change_sized (C := Try.checked) own started (by kernel_rfl) Try.func4
    (ChangeSpec.witness6 (enc := enc) (C := Try.checked) false ⟨#[], #[.slice none 0 0], []⟩ 8 (by kernel_rfl) (by kernel_rfl) (by kernel_rfl) (by kernel_rfl)) ?_
  intro W base args ds gs before hval0 hW hcnd hsz0 _
  have hsz : (DataW.weightsEach Try.prog (Try.f4.params.toList ++ Rows.sexprPiecesSpec.plain.varTypes Try.prog) (ds ++ gs)).all (· ≤ reachBytes) = true := hsz0
  have hval : ∀ (j : Nat) t v, Try.f4.params[j]? = some t → args[j]? = some v → Value.okWide Try.prog W .any base t v := hval0
  have hW' := hW
  obtain ⟨p, q, hA0, hV, rfl, hfz, hnd⟩ := hW
  have hA : DataW.TrodAll enc Try.prog W 0 (fun _ => true) true Try.f4.params.toList args.toList ds p := hA0
  rw [Try.params4] at hA hval hsz
  obtain ⟨v0, vs0, d0, ds0, p0, q0, hargs, rfl, rfl, h0, r0⟩ := trodAll_cons hA
  obtain ⟨rfl, rfl, rfl⟩ := trodAll_nil r0
  obtain rfl : args = #[v0] := by cases args; simp_all
  obtain ⟨rfl, rfl⟩ := trodVars_none hV
  obtain ⟨a0, len0, cap0, rfl⟩ := okWide_slice Try.underlying35 (hval 0 35 v0 rfl rfl)
  have k0 := h0
  have lt0 : ∀ x ∈ p0, x.block < W.heap.size := by obtain ⟨m, hm⟩ := k0; exact DataW.trod_lt m _ _ _ hm
  obtain ⟨z0, w0, hreach⟩ : ∃ zs, IsRow .i64 W a0 len0 cap0 zs ∧ len0 * 8 ≤ 140737488351232 := by
    obtain ⟨fuel, hf⟩ := h0
    rcases open_ints Try.underlying35 Try.underlying3 (by kernel_rfl) hf with ⟨hcs, _⟩ | ⟨x, l, c, zs, hcs, _, hl, hm, hz, hd, hcell, hwz⟩
    · simp [Value.cells] at hcs
      obtain ⟨rfl, rfl, rfl⟩ := hcs
      exact ⟨[], .inl ⟨rfl, rfl, rfl, rfl⟩, by decide⟩
    · simp [Value.cells] at hcs
      obtain ⟨rfl, rfl, rfl⟩ := hcs
      refine ⟨zs, .inr ⟨_, rfl, hl, hm, by simpa using hz, hcell, hwz⟩, ?_⟩
      have hd1 := (Prod.mk.inj hd).1
      subst hd1
      have := sized_slice hsz (j := 0) (t := 35) (e := 3) rfl rfl Try.underlying35
      rw [bytesI] at this
      simp only [lits, List.length_map, List.length_take, List.length_drop, reachBytes] at this
      simp at hz
      omega
  clear hA0 hval0
  refine (walk a0 len0 cap0 z0 W w0 hreach).mono fun e W' ⟨he, bel⟩ => ?_
  subst he
  exact ⟨_, rfl, _, _, _, [], _, [], hW', trodAll_mk1 (shut_bool Try.underlying4 _), (trodAll_cons_mk (Below.trod laidOut (by kernel_rfl) (of_decide_eq_true (by kernel_rfl)) k0 bel lt0) trodAll_mk0), rfl, bel.frame _, fun h => by cases h⟩

theorem over : Rows.sexprPiecesRow.holds Try.pinned (OpenSpec.ofChange Rows.sexprPiecesSpec) :=
  OpenClaim.holds_of_wide 4 Try.f4 rfl rfl rfl rfl rfl rfl rfl ⟨rfl, rfl, rfl, rfl, rfl⟩ rfl rfl rfl rfl rfl (by kernel_rfl) Try.func4 (by kernel_rfl)
    (of_decide_eq_true (by kernel_rfl)) (by unfold Func.isWrapper; first | (rw [if_pos (by decide +kernel)]; kernel_rfl) | (rw [if_neg (by decide +kernel)]; exact ⟨rfl, rfl⟩))
    (fun os started H enc _ => lifted os started H enc)

/-- the statement -/
theorem proved : Rows.SexprPiecesSaid := over
end Go.Proofs.Ytkndlbcmbfgoaaa.sexprPieces
