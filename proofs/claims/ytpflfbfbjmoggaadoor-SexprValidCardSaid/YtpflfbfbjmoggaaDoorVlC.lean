/- tellaw1.SexprValid answers true for every input. What is laid: the package variables words and strings hold what the program's text gives them; the card ties them. No other condition. -/
import Derived.Test.YtpflfbfbjmoggaaDoorCards
import Derived.Test.YtpflfbfbjmoggaaDoorTie
import Derived.Test.YtpflfbfbjmoggaaDoorVlW
import Derived.ProofKit
import Derived.ChangeOld
import Derived.OpenShut
import Derived.Deep.DeepHandedRow
import Derived.Deep.DeepWitnessRowRef
namespace Go.Proofs.YtpflfbfbjmoggaaDoor.sexprValid
open Go.ChangeShapes Go.WideShapes Go.ChangeAt Go.RowKit Sx Go.Lib
set_option linter.unusedVariables false
set_option linter.unusedSimpArgs false

theorem own : ownKnob Tryd.prog.godebug = none := by kernel_rfl
theorem laidOut : laidOutB Tryd.prog = true := by kernel_rfl
theorem gWords : Tryd.prog.globalNamed "telpher/telmake.words" = some 2 := by kernel_rfl
theorem yWords : (Tryd.prog.globals[2]?).map (·.type) = some 57 := by kernel_rfl
theorem gStrs : Tryd.prog.globalNamed "telpher/telmake.strings" = some 1 := by kernel_rfl
theorem yStrs : (Tryd.prog.globals[1]?).map (·.type) = some 57 := by kernel_rfl
theorem cellsStr : Tryd.prog.cellsOf 9 = 1 := by kernel_rfl

def wordsL : List (List UInt8) := [[97], [120, 49], [45, 55], [48], [66, 111, 120], [97, 100, 100], [108, 101, 116], [116, 114, 117, 101], [110, 105, 108], [65], [65, 110, 121], [116, 117, 112, 108, 101], [97, 45, 98], [101, 120, 105, 115, 116, 115], [116, 97, 115, 107], [50, 49, 52, 55, 52, 56, 51, 54, 52, 56]]
def strsL : List (List UInt8) := [[], [97, 32, 98], [113, 117, 111, 116, 101, 32, 34, 32, 97, 110, 100, 32, 92], [126], [40, 110, 111, 116, 32, 97, 32, 108, 105, 115, 116, 41], [59, 32, 110, 111, 32, 99, 111, 109, 109, 101, 110, 116]]
theorem wordsOk : ∀ u ∈ wordsL, okW u = true := by decide
theorem strsOk : ∀ u ∈ strsL, okS u = true := by decide


theorem tabs {W : World} (h : laidMetH Tryd.prog Rows.sexprValidRow.laid W) :
    (∃ g o c, TabW W 2 16 wordsL g o c) ∧ (∃ g o c, TabW W 1 6 strsL g o c) := by
  have h' : laidMet Tryd.prog [("telpher/telmake.words", Rows.laid_telpher_telmake_words), ("telpher/telmake.strings", Rows.laid_telpher_telmake_strings)] W := h
  have r1 : VarReads Tryd.prog W "telpher/telmake.words" (strsData wordsL) := Lib.laidMet.reads h' (.head _)
  have r2 : VarReads Tryd.prog W "telpher/telmake.strings" (strsData strsL) := Lib.laidMet.reads h' (.tail _ (.head _))
  obtain ⟨g1, o1, c1, h1, h1'⟩ := strTab_of_reads gWords yWords Tryd.underlying57 Tryd.underlying9 cellsStr (by decide) r1
  obtain ⟨g2, o2, c2, h2, h2'⟩ := strTab_of_reads gStrs yStrs Tryd.underlying57 Tryd.underlying9 cellsStr (by decide) r2
  exact ⟨⟨g1, o1, c1, h1, h1', by decide⟩, ⟨g2, o2, c2, h2, h2', by decide⟩⟩

set_option maxRecDepth 100000 in
/-- what the walk gives, for every argument and every world that holds the tables -/
theorem contract (H : Type) (enc : TypeId × Value → H) (W : World) (base : Nat) (args : Array Value) (ds gs : List (DataW H)) (before : List MemPlace)
    (hval0 : ∀ (j : Nat) t v, Tryd.f5.params[j]? = some t → args[j]? = some v → Value.okWide Tryd.prog W .any base t v)
    (hW : DataW.Whole enc Tryd.prog Tryd.f5.params.toList Rows.sexprValidSpec.vars false W args.toList ds gs before) (hL : laidMetH Tryd.prog Rows.sexprValidRow.laid W) :
    Calls Tryd.prog 5 args W fun e W' => ∃ v, e = .returned v ∧ Rows.sexprValidSpec.post enc Tryd.prog Tryd.f5 false true false false W args v W' := by
  have hval : ∀ (j : Nat) t v, Tryd.f5.params[j]? = some t → args[j]? = some v → Value.okWide Tryd.prog W .any base t v := hval0
  have hW' := hW
  obtain ⟨p, q, hA0, hV, rfl, hfz, hnd⟩ := hW
  have hA : DataW.TrodAll enc Tryd.prog W 0 (fun _ => true) true Tryd.f5.params.toList args.toList ds p := hA0
  rw [Tryd.params5] at hA hval
  obtain ⟨v0, vs0, d0, ds0, p0, q0, hargs0, rfl, rfl, h0, r0⟩ := trodAll_cons hA
  obtain ⟨v1, vs1, d1, ds1, p1, q1, hargs1, rfl, rfl, h1, r1⟩ := trodAll_cons r0
  obtain ⟨rfl, rfl, rfl⟩ := trodAll_nil r1
  obtain rfl : args = #[v0, v1] := by cases args; simp_all
  obtain ⟨rfl, rfl⟩ := trodVars_none hV
  obtain ⟨a0, len0, cap0, rfl⟩ := okWide_slice Tryd.underlying36 (hval 0 36 v0 rfl rfl)
  have k0 := h0
  have lt0 : ∀ x ∈ p0, x.block < W.heap.size := by obtain ⟨m, hm⟩ := k0; exact DataW.trod_lt m _ _ _ hm
  obtain ⟨z0, w0⟩ : ∃ zs, IsRow .i64 W a0 len0 cap0 zs := by
    obtain ⟨fuel, hf⟩ := h0
    rcases open_ints Tryd.underlying36 Tryd.underlying3 (by kernel_rfl) hf with ⟨hcs, _⟩ | ⟨x, l, c, zs, hcs, _, hl, hm, hz, hd, hcell, hwz⟩
    · simp [Value.cells] at hcs
      obtain ⟨rfl, rfl, rfl⟩ := hcs
      exact ⟨[], .inl ⟨rfl, rfl, rfl, rfl⟩⟩
    · simp [Value.cells] at hcs
      obtain ⟨rfl, rfl, rfl⟩ := hcs
      exact ⟨zs, .inr ⟨_, rfl, hl, hm, by simpa using hz, hcell, hwz⟩⟩
  obtain ⟨a1, rfl, rfl, rfl, w1⟩ := open_int Tryd.underlying3 (hval 1 3 v1 rfl rfl) h1
  clear hA0 hval0
  obtain ⟨⟨gw, ow, cw, tW⟩, ⟨gs, ot, cs, tT⟩⟩ := tabs hL
  refine (valid_walk a0 len0 cap0 z0 a1 W w0.ints.1 w0.ints.2 wordsL strsL wordsOk strsOk gw ow cw gs ot cs tW tT).mono fun e W' ⟨he, bel⟩ => ?_
  subst he
  exact ⟨_, rfl, _, _, _, [], _, [], hW', trodAll_mk1 (shut_bool Tryd.underlying4 _), (trodAll_cons_mk (Below.trod laidOut (by kernel_rfl) (of_decide_eq_true (by kernel_rfl)) k0 bel lt0) (trodAll_cons_mk (shut_int Tryd.underlying3 w1) trodAll_mk0)), rfl, bel.frame _, fun h => by cases h⟩

/-- a world for the witness: the settled one, the variables holding what the text lays -/
noncomputable def laidWorld (os : Os) : World :=
  let N := (World.settled Tryd.prog os).heap.size
  let w0 := World.holding Tryd.prog os ⟨#[.cells (wordsL.map fun s => Value.string ⟨s.toArray⟩).toArray 9, .cells (strsL.map fun s => Value.string ⟨s.toArray⟩).toArray 9], #[], []⟩
  let put (h : Array Obj) (g : Nat) (cs : Array Value) : Array Obj := h.modify g fun
    | .cells _ t frozen => .cells cs t frozen
    | o => o
  let h1 := put w0.heap 2 #[.slice (some ⟨N, 0, none⟩) 16 16]
  let h2 := put h1 1 #[.slice (some ⟨N + 1, 0, none⟩) 6 6]

  { w0 with heap := h2 }
theorem laid_met (os : Os) : laidMet Tryd.prog Rows.sexprValidRow.laid ((laidWorld os).forCall (fun _ _ => 0) ⟨#[], #[.slice none 0 0, .int .i64 0], []⟩).memory :=
  laidMet_of_run' 8 (by kernel_rfl) (by kernel_rfl)
theorem reads (os : Os) {H : Type} (enc : TypeId × Value → H) : ∃ places, DataW.whole enc Tryd.prog ((laidWorld os).forCall (fun _ _ => 0) ⟨#[], #[.slice none 0 0, .int .i64 0], []⟩).memory Tryd.f5.params.toList Rows.sexprValidSpec.vars false (#[.slice none 0 0, .int .i64 0] : Array Value).toList 8 = some ([.nil, .lit (.int .i64 0)], [], places) :=
  ⟨[], by kernel_rfl⟩

set_option maxRecDepth 100000 in
theorem lifted (os : Os) (started : os.Started) (H : Type) (enc : TypeId × Value → H) (F : Stop.Interp) :
    ReturnsInHanded {} Tryd.checked os 5 .any ((OpenSpec.ofChange Rows.sexprValidSpec).preRow enc Tryd.prog Tryd.f5 Rows.sexprValidRow.domain false Rows.sexprValidRow.laid) (((OpenSpec.ofChange Rows.sexprValidSpec).at F).post enc Tryd.prog Tryd.f5 false true false false) := by
  obtain ⟨places, hx⟩ := reads os enc
  refine returnsInHanded_of_row (C := Tryd.checked) (s := OpenSpec.ofChange Rows.sexprValidSpec) own started (by kernel_rfl) Tryd.func5
    (witness_row_atRef (enc := enc) (C := Tryd.checked) false (laidWorld os) #[.slice none 0 0, .int .i64 0] rfl (by kernel_rfl) (by kernel_rfl) (by kernel_rfl)
      (OpenSpec.preRow_of_cond 8 hx (by kernel_rfl) (fun k hk => by cases hk) (by kernel_rfl) (laid_met os))) ?_
  intro W base args ds gs before hval hW _ _ _ hL _ _
  exact contract H enc W base args ds gs before hval hW hL

theorem said : Rows.SexprValidSaid :=
  OpenClaim.holds_of_cond 5 Tryd.f5 rfl rfl rfl rfl rfl rfl rfl ⟨rfl, rfl, rfl, rfl, rfl⟩ rfl rfl rfl rfl rfl (by kernel_rfl) Tryd.func5 (by kernel_rfl)
    (of_decide_eq_true (by kernel_rfl)) (by unfold Func.isWrapper; first | (rw [if_pos (by decide +kernel)]; kernel_rfl) | (rw [if_neg (by decide +kernel)]; exact ⟨rfl, rfl⟩))
    (fun os started H enc _ F => by rw [OpenClaim.pre_eq_preRow]; exact lifted os started H enc F)

theorem noStandS : Tryd.prog.wantsStandIn 36 = false := by kernel_rfl
theorem noStandI : Tryd.prog.wantsStandIn 3 = false := by kernel_rfl
theorem plain (f : FuncId) (fn : Func) (hf : Tryd.pinned.checked.prog.funcNamed "telpher/tellaw1.SexprValid" = some f) (hfn : Tryd.pinned.checked.prog.funcs[f]? = some fn) :
    true = Tryd.pinned.checked.prog.looks [] ∧ ∀ (j : Nat) t, fn.params[j]? = some t → Tryd.pinned.checked.prog.wantsStandIn t = false := by
  obtain rfl : f = 5 := Option.some.inj ((show Tryd.prog.funcNamed "telpher/tellaw1.SexprValid" = some 5 by kernel_rfl).symm.trans hf) |>.symm
  obtain rfl : fn = Tryd.f5 := (Option.some.inj (Tryd.func5.symm.trans hfn)).symm
  refine ⟨by kernel_rfl, fun j t ht => ?_⟩
  rw [Tryd.params5] at ht
  have hm := Array.mem_of_getElem? ht
  have ht' : t = 36 ∨ t = 3 := by
    simp at hm
    first | omega | exact .inl hm | exact hm
  rcases ht' with rfl | rfl
  · exact noStandS
  · exact noStandI

/-- the card -/
theorem proved : Rows.SexprValidCardSaid :=
  Claim7.holds_tied_plain_at .later [] _ _ _ _ said (fun _ h => by cases h) (by kernel_rfl) (fun _ h => by cases h) sexprValid_row_tie rfl ⟨rfl, rfl⟩ (by kernel_rfl) rfl plain (by kernel_rfl)
end Go.Proofs.YtpflfbfbjmoggaaDoor.sexprValid
