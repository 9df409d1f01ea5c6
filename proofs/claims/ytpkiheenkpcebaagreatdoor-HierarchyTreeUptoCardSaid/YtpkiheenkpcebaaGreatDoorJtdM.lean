/- tellaw3.HierarchyTree answers true for every input of bulk at most 1048576. What is laid: the package variables extraNames, leafNames hold what the program's text gives them; the card ties them. -/
import Derived.Test.YtpkiheenkpcebaaGreatDoorCards
import Derived.Test.YtpkiheenkpcebaaGreatDoorTie
import Derived.Test.YtpkiheenkpcebaaGreatDoorQaj
import Derived.ProofKit
import Derived.ChangeOld
import Derived.OpenShut
import Derived.ChangeMaps5
import Derived.Deep.DeepHandedRow
import Derived.Deep.DeepWitnessRowRef
namespace Go.Proofs.YtpkiheenkpcebaaGreatDoor.hierarchyTree
open Go.ChangeShapes Go.WideShapes Go.ChangeAt Go.RowKit Sx Go.Lib
set_option linter.unusedVariables false
set_option linter.unusedSimpArgs false

theorem own : ownKnob Tryz.prog.godebug = none := by kernel_rfl
theorem laidOut : laidOutB Tryz.prog = true := by kernel_rfl
theorem cellsStr : Tryz.prog.cellsOf 9 = 1 := by kernel_rfl
theorem g_extraNames : Tryz.prog.globalNamed "telpher/telmake.extraNames" = some 0 := by kernel_rfl
theorem y_extraNames : (Tryz.prog.globals[0]?).map (·.type) = some 65 := by kernel_rfl
def extraNamesL : List (List UInt8) := [[88, 97], [88, 98], [88, 99], [88, 100]]
theorem g_leafNames : Tryz.prog.globalNamed "telpher/telmake.leafNames" = some 1 := by kernel_rfl
theorem y_leafNames : (Tryz.prog.globals[1]?).map (·.type) = some 65 := by kernel_rfl
def leafNamesL : List (List UInt8) := [[73, 110, 116], [66, 111, 111, 108], [83, 116, 114, 105, 110, 103], [78, 105, 108]]

theorem tabs {W : World} (h : laidMetH Tryz.prog Rows.hierarchyTreeUptoRow.laid W) : (∃ g o c, TL.TabW W 0 4 extraNamesL g o c) ∧ (∃ g o c, TL.TabW W 1 4 leafNamesL g o c) := by
  have h' : laidMet Tryz.prog [("telpher/telmake.extraNames", Rows.laid_telpher_telmake_extraNames), ("telpher/telmake.leafNames", Rows.laid_telpher_telmake_leafNames)] W := h
  have r0 : VarReads Tryz.prog W "telpher/telmake.extraNames" (strsData extraNamesL) := Lib.laidMet.reads h' (.head _)
  obtain ⟨g0, o0, c0, x0, y0⟩ := strTab_of_reads g_extraNames y_extraNames Tryz.underlying65 Tryz.underlying9 cellsStr (by decide) r0
  have r1 : VarReads Tryz.prog W "telpher/telmake.leafNames" (strsData leafNamesL) := Lib.laidMet.reads h' (.tail _ (.head _))
  obtain ⟨g1, o1, c1, x1, y1⟩ := strTab_of_reads g_leafNames y_leafNames Tryz.underlying65 Tryz.underlying9 cellsStr (by decide) r1
  exact ⟨⟨g0, o0, c0, x0, y0, by decide⟩, ⟨g1, o1, c1, x1, y1, by decide⟩⟩

theorem lits_bulk {H : Type} (k : IntKind) (l : List Int) : l.length ≤ Rows.uptoBulkAll (lits (H := H) k l) := by
  induction l with
  | nil => exact Nat.zero_le _
  | cons z r ih =>
    simp only [lits, List.map_cons, Rows.uptoBulkAll, Rows.uptoBulk, List.length_cons] at ih ⊢
    omega

set_option maxRecDepth 100000 in
/-- what the walk gives, for every argument and every world that holds the tables -/
theorem contract (H : Type) (enc : TypeId × Value → H) (W : World) (base : Nat) (args : Array Value) (ds gs : List (DataW H)) (before : List MemPlace)
    (hval0 : ∀ (j : Nat) t v, Tryz.f8.params[j]? = some t → args[j]? = some v → Value.okWide Tryz.prog W .any base t v)
    (hW : DataW.Whole enc Tryz.prog Tryz.f8.params.toList Rows.hierarchyTreeSpec.vars false W args.toList ds gs before) (hL : laidMetH Tryz.prog Rows.hierarchyTreeUptoRow.laid W) (hk : Rows.uptoSmall H (ds ++ gs) = true) :
    Calls Tryz.prog 8 args W fun e W' => ∃ v, e = .returned v ∧ Rows.hierarchyTreeSpec.post enc Tryz.prog Tryz.f8 false true false false W args v W' := by
  have hval : ∀ (j : Nat) t v, Tryz.f8.params[j]? = some t → args[j]? = some v → Value.okWide Tryz.prog W .any base t v := hval0
  have hW' := hW
  obtain ⟨p, q, hA0, hV, rfl, hfz, hnd⟩ := hW
  have hA : DataW.TrodAll enc Tryz.prog W 0 (fun _ => true) true Tryz.f8.params.toList args.toList ds p := hA0
  rw [Tryz.params8] at hA hval
  obtain ⟨v0, vs0, d0, ds0, p0, q0, hargs0, rfl, rfl, h0, r0⟩ := trodAll_cons hA
  obtain ⟨v1, vs1, d1, ds1, p1, q1, hargs1, rfl, rfl, h1, r1⟩ := trodAll_cons r0
  obtain ⟨v2, vs2, d2, ds2, p2, q2, hargs2, rfl, rfl, h2, r2⟩ := trodAll_cons r1
  obtain ⟨v3, vs3, d3, ds3, p3, q3, hargs3, rfl, rfl, h3, r3⟩ := trodAll_cons r2
  obtain ⟨rfl, rfl, rfl⟩ := trodAll_nil r3
  obtain rfl : args = #[v0, v1, v2, v3] := by cases args; simp_all
  obtain ⟨rfl, rfl⟩ := trodVars_none hV
  have k0 := h0
  have lt0 : ∀ x ∈ p0, x.block < W.heap.size := by obtain ⟨m, hm⟩ := k0; exact DataW.trod_lt m _ _ _ hm
  obtain ⟨a0, len0, cap0, rfl⟩ := okWide_slice Tryz.underlying42 (hval 0 42 v0 rfl rfl)
  obtain ⟨z0, w0, u0b⟩ : ∃ zs, TL.IsRow .i64 W a0 len0 cap0 zs ∧ len0 ≤ Rows.uptoBulk d0 := by
    obtain ⟨fuel, hf⟩ := h0
    rcases open_ints Tryz.underlying42 Tryz.underlying3 (by kernel_rfl) hf with ⟨hcs, _⟩ | ⟨x, l, c, zs, hcs, _, hl, hm, hz, hd, hcell, hwz⟩
    · simp [Value.cells] at hcs
      obtain ⟨rfl, rfl, rfl⟩ := hcs
      exact ⟨[], .inl ⟨rfl, rfl, rfl, rfl⟩, Nat.zero_le _⟩
    · simp [Value.cells] at hcs
      obtain ⟨rfl, rfl, rfl⟩ := hcs
      refine ⟨zs, .inr ⟨_, rfl, hl, hm, by simpa using hz, hcell, hwz⟩, ?_⟩
      have hd' := (Prod.mk.inj hd).1
      subst hd'
      have hzl : zs.length = cap0 := by simpa using hz
      have h1 := lits_bulk (H := H) .i64 (zs.take len0)
      rw [List.length_take] at h1
      simp only [Rows.uptoBulk]
      omega
  have k1 := h1
  have lt1 : ∀ x ∈ p1, x.block < W.heap.size := by obtain ⟨m, hm⟩ := k1; exact DataW.trod_lt m _ _ _ hm
  obtain ⟨a1, len1, cap1, rfl⟩ := okWide_slice Tryz.underlying42 (hval 1 42 v1 rfl rfl)
  obtain ⟨z1, w1, u1b⟩ : ∃ zs, TL.IsRow .i64 W a1 len1 cap1 zs ∧ len1 ≤ Rows.uptoBulk d1 := by
    obtain ⟨fuel, hf⟩ := h1
    rcases open_ints Tryz.underlying42 Tryz.underlying3 (by kernel_rfl) hf with ⟨hcs, _⟩ | ⟨x, l, c, zs, hcs, _, hl, hm, hz, hd, hcell, hwz⟩
    · simp [Value.cells] at hcs
      obtain ⟨rfl, rfl, rfl⟩ := hcs
      exact ⟨[], .inl ⟨rfl, rfl, rfl, rfl⟩, Nat.zero_le _⟩
    · simp [Value.cells] at hcs
      obtain ⟨rfl, rfl, rfl⟩ := hcs
      refine ⟨zs, .inr ⟨_, rfl, hl, hm, by simpa using hz, hcell, hwz⟩, ?_⟩
      have hd' := (Prod.mk.inj hd).1
      subst hd'
      have hzl : zs.length = cap1 := by simpa using hz
      have h1 := lits_bulk (H := H) .i64 (zs.take len1)
      rw [List.length_take] at h1
      simp only [Rows.uptoBulk]
      omega
  have k2 := h2
  have lt2 : ∀ x ∈ p2, x.block < W.heap.size := by obtain ⟨m, hm⟩ := k2; exact DataW.trod_lt m _ _ _ hm
  obtain ⟨n2, rfl, rfl, rfl, wn2⟩ := open_int Tryz.underlying3 (hval 2 3 v2 rfl rfl) h2
  have k3 := h3
  have lt3 : ∀ x ∈ p3, x.block < W.heap.size := by obtain ⟨m, hm⟩ := k3; exact DataW.trod_lt m _ _ _ hm
  obtain ⟨n3, rfl, rfl, rfl, wn3⟩ := open_int Tryz.underlying3 (hval 3 3 v3 rfl rfl) h3
  clear hA0 hval0
  obtain ⟨⟨gextraNames, oextraNames, cextraNames, textraNames⟩, ⟨gleafNames, oleafNames, cleafNames, tleafNames⟩⟩ := tabs hL
  have hb := of_decide_eq_true (show decide (Rows.uptoBulkAll _ ≤ 1048576) = true from hk)
  simp only [List.append_nil, Rows.uptoBulkAll, Rows.uptoBulk] at hb
  have hwalk := JT.tree_walk a0 len0 cap0 z0 a1 len1 cap1 z1 n2 n3 W w0 w1 (by omega) (by omega) leafNamesL gleafNames oleafNames cleafNames tleafNames (by decide) extraNamesL gextraNames oextraNames cextraNames textraNames (by decide)
  refine hwalk.mono fun e W' ⟨he, bel⟩ => ?_
  subst he
  exact ⟨_, rfl, _, _, _, [], _, [], hW', trodAll_mk1 (shut_bool Tryz.underlying4 _), (trodAll_cons_mk (Below.trod laidOut (by kernel_rfl) (of_decide_eq_true (by kernel_rfl)) k0 bel lt0) (trodAll_cons_mk (Below.trod laidOut (by kernel_rfl) (of_decide_eq_true (by kernel_rfl)) k1 bel lt1) (trodAll_cons_mk (Below.trod laidOut (by kernel_rfl) (of_decide_eq_true (by kernel_rfl)) k2 bel lt2) (trodAll_cons_mk (Below.trod laidOut (by kernel_rfl) (of_decide_eq_true (by kernel_rfl)) k3 bel lt3) trodAll_mk0)))), rfl, bel.frame _, fun h => by cases h⟩

/-- a world for the witness: the settled one, the variables holding what the text lays -/
noncomputable def laidWorld (os : Os) : World :=
  let N := (World.settled Tryz.prog os).heap.size
  let w0 := World.holding Tryz.prog os ⟨#[.cells (extraNamesL.map fun s => Value.string ⟨s.toArray⟩).toArray 9, .cells (leafNamesL.map fun s => Value.string ⟨s.toArray⟩).toArray 9], #[], []⟩
  let put (h : Array Obj) (g : Nat) (cs : Array Value) : Array Obj := h.modify g fun
    | .cells _ t frozen => .cells cs t frozen
    | o => o
  let h0 := put w0.heap 0 #[.slice (some ⟨N + 0, 0, none⟩) 4 4]
  let h1 := put h0 1 #[.slice (some ⟨N + 1, 0, none⟩) 4 4]
  { w0 with heap := h1 }
theorem laid_met (os : Os) : laidMet Tryz.prog Rows.hierarchyTreeUptoRow.laid ((laidWorld os).forCall (fun _ _ => 0) ⟨#[], #[.slice none 0 0, .slice none 0 0, .int .i64 0, .int .i64 0], []⟩).memory :=
  laidMet_of_run' 8 (by kernel_rfl) (by kernel_rfl)
theorem reads (os : Os) {H : Type} (enc : TypeId × Value → H) : ∃ places, DataW.whole enc Tryz.prog ((laidWorld os).forCall (fun _ _ => 0) ⟨#[], #[.slice none 0 0, .slice none 0 0, .int .i64 0, .int .i64 0], []⟩).memory Tryz.f8.params.toList Rows.hierarchyTreeSpec.vars false (#[.slice none 0 0, .slice none 0 0, .int .i64 0, .int .i64 0] : Array Value).toList 8 = some ([.nil, .nil, .lit (.int .i64 0), .lit (.int .i64 0)], [], places) :=
  ⟨[], by kernel_rfl⟩

set_option maxRecDepth 100000 in
theorem lifted (os : Os) (started : os.Started) (H : Type) (enc : TypeId × Value → H) (F : Stop.Interp) :
    ReturnsInHanded {} Tryz.checked os 8 .any ((Rows.OpenSpec.upto Rows.hierarchyTreeSpec).preRow enc Tryz.prog Tryz.f8 Rows.hierarchyTreeUptoRow.domain false Rows.hierarchyTreeUptoRow.laid) (((Rows.OpenSpec.upto Rows.hierarchyTreeSpec).at F).post enc Tryz.prog Tryz.f8 false true false false) := by
  obtain ⟨places, hx⟩ := reads os enc
  refine returnsInHanded_of_row (C := Tryz.checked) (s := Rows.OpenSpec.upto Rows.hierarchyTreeSpec) own started (by kernel_rfl) Tryz.func8
    (witness_row_atRef (enc := enc) (C := Tryz.checked) false (laidWorld os) #[.slice none 0 0, .slice none 0 0, .int .i64 0, .int .i64 0] rfl (by kernel_rfl) (by kernel_rfl) (by kernel_rfl)
      (OpenSpec.preRow_of_cond 8 hx (by kernel_rfl) (fun k hk => by cases hk; kernel_rfl) (by kernel_rfl) (laid_met os))) ?_
  intro W base args ds gs before hval hW _ hcond _ hL _ _
  exact contract H enc W base args ds gs before hval hW hL (hcond _ rfl)

theorem said : Rows.HierarchyTreeUptoSaid :=
  OpenClaim.holds_of_cond 8 Tryz.f8 rfl rfl rfl rfl rfl rfl rfl ⟨rfl, rfl, rfl, rfl, rfl⟩ rfl rfl rfl rfl rfl (by kernel_rfl) Tryz.func8 (by kernel_rfl)
    (of_decide_eq_true (by kernel_rfl)) (by unfold Func.isWrapper; first | (rw [if_pos (by decide +kernel)]; kernel_rfl) | (rw [if_neg (by decide +kernel)]; exact ⟨rfl, rfl⟩))
    (fun os started H enc _ F => by rw [OpenClaim.pre_eq_preRow]; exact lifted os started H enc F)

theorem noStands : Tryz.prog.wantsStandIn 42 = false := by kernel_rfl
theorem noStandi : Tryz.prog.wantsStandIn 3 = false := by kernel_rfl
theorem plain (f : FuncId) (fn : Func) (hf : Tryz.pinned.checked.prog.funcNamed "telpher/tellaw3.HierarchyTree" = some f) (hfn : Tryz.pinned.checked.prog.funcs[f]? = some fn) :
    false = Tryz.pinned.checked.prog.looks [] ∧ ∀ (j : Nat) t, fn.params[j]? = some t → Tryz.pinned.checked.prog.wantsStandIn t = false := by
  obtain rfl : f = 8 := Option.some.inj ((show Tryz.prog.funcNamed "telpher/tellaw3.HierarchyTree" = some 8 by kernel_rfl).symm.trans hf) |>.symm
  obtain rfl : fn = Tryz.f8 := (Option.some.inj (Tryz.func8.symm.trans hfn)).symm
  refine ⟨by kernel_rfl, fun j t ht => ?_⟩
  rw [Tryz.params8] at ht
  have hm := Array.mem_of_getElem? ht
  have ht' : t = 42 ∨ t = 3 := by
    have key : ∀ t ∈ ([42, 42, 3, 3] : List TypeId), t = 42 ∨ t = 3 := by decide
    exact key t (by simpa using hm)
  rcases ht' with rfl | rfl
  · exact noStands
  · exact noStandi

/-- the card -/
theorem proved : Rows.HierarchyTreeUptoCardSaid :=
  Claim7.holds_tied_plain_at .later [] _ _ _ _ said (fun _ h => by cases h) (by kernel_rfl) (fun _ h => by cases h) hierarchyTreeUpto_row_tie rfl ⟨rfl, rfl⟩ (by kernel_rfl) rfl plain (by kernel_rfl)
end Go.Proofs.YtpkiheenkpcebaaGreatDoor.hierarchyTree
