/- tellaw1.SexprParse answers true for every string: sexpr.Parse returns the nodes, or the fault, that the specification's own reader returns. No condition. -/
import Derived.Test.YtkndlbcmbfgoaaaRows
import Derived.Test.YtkndlbcmbfgoaaaPost
import Derived.ProofKit
import Derived.OpenShut
import Derived.ShutString
namespace Go.Proofs.Ytkndlbcmbfgoaaa.sexprParse
open Go.ChangeShapes Go.WideShapes Go.ChangeAt Go.RowKit Sx
open Go.ChangeMaps (open_string shut_string)
set_option linter.unusedVariables false
set_option linter.unusedSimpArgs false

theorem own : ownKnob Try.prog.godebug = none := by kernel_rfl

set_option maxHeartbeats 2000000 in
theorem walk (a0 : ByteArray) (w0 : a0.size ≤ maxLen) (w : World) :
    Calls Try.prog 3 #[.string a0] w fun e w' => e = .returned (.bool true) ∧ Below w.heap.size w w' := by
  have hsz := nodesR_size a0.data.toList
  have P1 := fun W => parse_res a0 W w0
  have P2 := fun W => rParse_res a0 W w0
  generalize parseR a0.data.toList = r at *
  have H1 := Lib.hid P1
  have H2 := Lib.hid P2
  clear P1 P2
  generalize nodesR r = f at *
  generalize kindR r = k at *
  generalize offR r = o at *
  go_enter Try.func3, Try.ntmps3
  go_wp2_with (fail)
  refine (H1.out _).mono ?_
  rintro e1 w1 ⟨A, c, rfl, hs1, hb1⟩
  go_wp2_with (fail)
  refine (H2.out _).mono ?_
  rintro e2 w2 ⟨A', c', rfl, hs2, hb2⟩
  go_wp2_with (fail)
  refine (check_any _).mono ?_
  rintro e3 w3 ⟨rfl, hb3⟩
  have B1 : Below w1.heap.size w1 (w1.alloc (.cells #[.int .i64 k, .int .i64 o] 25)) := (Below.refl _ _).alloc (Nat.le_refl _) _
  have B2 : Below w2.heap.size w2 (w2.alloc (.cells #[.int .i64 k, .int .i64 o] 25)) := (Below.refl _ _).alloc (Nat.le_refl _) _
  have l1 := hb2.size
  have l2 := hb3.size
  simp only [World.size_alloc] at l1 l2
  have hF1 : w3.heap[w1.heap.size]? = some (.cells #[.int .i64 k, .int .i64 o] 25 (0, 0)) := (hb3.block _ (by simp; omega)).trans ((B2.block _ (by omega)).trans ((hb2.block _ (by simp)).trans (heap_alloc_new _ _)))
  have hF2 : w3.heap[w2.heap.size]? = some (.cells #[.int .i64 k, .int .i64 o] 25 (0, 0)) := (hb3.block _ (by simp)).trans (heap_alloc_new _ _)
  obtain ⟨f0, f1, _, _⟩ := row2 hF1
  obtain ⟨g0, g1, _, _⟩ := row2 hF2
  go_wp2_with (fail)
  refine (fault_any k o k o _).mono ?_
  rintro e4 w4 ⟨rfl, hb4⟩
  have hfb : faultB k o k o = true := by simp [faultB]
  rw [hfb]
  go_wp2_with (fail)
  have hsa : sliceOf w4 (fun x => w.heap.size ≤ x) f (.slice A f.len c) := (((hs1.below B1).below (by simpa using hb2)).below B2).below hb3 |>.below hb4
  have hsb := (hs2.below B2).below hb3 |>.below hb4
  refine (same_any _ f (Nat.le_refl _) (by omega) _ _ _ _ _ hsa hsb).mono ?_
  rintro e5 w5 ⟨rfl, n, rfl⟩
  go_wp2_with (fail)
  go_ret
  refine ⟨rfl, ?_⟩
  have l0 := hb1.size
  have l3 := hb4.size
  exact (((((hb1.trans (B1.mono l0)).trans (hb2.mono (by simp; omega))).trans (B2.mono (by omega))).trans (hb3.mono (by simp; omega))).trans (hb4.mono (by omega))).trans (below_drewN (Below.refl _ _) n)

/-! ### THE ROW's STEP -/
set_option maxRecDepth 100000 in
theorem lifted (os : Os) (started : os.Started) (H : Type) (enc : TypeId × Value → H) :
    ReturnsInHanded {} Try.checked os 3 .any (Rows.sexprParseSpec.pre6 enc Try.prog Try.f3 Rows.sexprParseRow.domain false) (Rows.sexprParseSpec.post enc Try.prog Try.f3 false true false false) := by
  refine returnsInHanded_of_change (C := Try.checked) own started (by kernel_rfl) Try.func3
    (ChangeSpec.witness6 (enc := enc) (C := Try.checked) false ⟨#[], #[.string ByteArray.empty], []⟩ 8 (by kernel_rfl) (by kernel_rfl) (by kernel_rfl) (by kernel_rfl)) ?_
  intro W base args ds gs before hval0 hW hcnd _
  have hval : ∀ (j : Nat) t v, Try.f3.params[j]? = some t → args[j]? = some v → Value.okWide Try.prog W .any base t v := hval0
  have hW' := hW
  obtain ⟨p, q, hA0, hV, rfl, hfz, hnd⟩ := hW
  have hA : DataW.TrodAll enc Try.prog W 0 (fun _ => true) true Try.f3.params.toList args.toList ds p := hA0
  rw [Try.params3] at hA hval
  obtain ⟨v0, vs0, d0, ds0, p0, q0, hargs, rfl, rfl, h0, r0⟩ := trodAll_cons hA
  obtain ⟨rfl, rfl, rfl⟩ := trodAll_nil r0
  obtain rfl : args = #[v0] := by cases args; simp_all
  obtain ⟨rfl, rfl⟩ := trodVars_none hV
  obtain ⟨a0, rfl, rfl, rfl, w0⟩ := open_string Try.underlying9 (hval 0 9 v0 rfl rfl) h0
  clear hA0 hval0
  simp only [List.append_nil] at hW'
  refine (walk a0 w0 W).mono fun e W' ⟨he, bel⟩ => ?_
  subst he
  exact ⟨_, rfl, _, _, _, [], _, [], hW', trodAll_mk1 (shut_bool Try.underlying4 _), (trodAll_cons_mk (shut_string Try.underlying9 w0) trodAll_mk0), rfl, bel.frame _, fun h => by cases h⟩

theorem over : Rows.sexprParseRow.holds Try.pinned (OpenSpec.ofChange Rows.sexprParseSpec) :=
  OpenClaim.holds_of_wide 3 Try.f3 rfl rfl rfl rfl rfl rfl rfl ⟨rfl, rfl, rfl, rfl, rfl⟩ rfl rfl rfl rfl rfl (by kernel_rfl) Try.func3 (by kernel_rfl)
    (of_decide_eq_true (by kernel_rfl)) (by unfold Func.isWrapper; first | (rw [if_pos (by decide +kernel)]; kernel_rfl) | (rw [if_neg (by decide +kernel)]; exact ⟨rfl, rfl⟩))
    (fun os started H enc _ => lifted os started H enc)

/-- the statement -/
theorem proved : Rows.SexprParseSaid :=
  over
end Go.Proofs.Ytkndlbcmbfgoaaa.sexprParse
