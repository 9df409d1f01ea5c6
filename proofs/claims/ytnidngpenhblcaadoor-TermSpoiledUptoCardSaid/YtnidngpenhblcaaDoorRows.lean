/-
  NARROWER THAN 'FOR EVERY INPUT', by the rows' own cells (each row's printed sentence says how): TermMeasures: laid · TermValidate: laid · TermSpoiled: laid · TermSubstitute: laid · TermSubstituteVars: laid · TermCompare: laid.
  DERIVED. THE GIVEN ROWS OF THIS SEAT. 6 by the template 'for every input the law returns true; each argument reads behind the call as it read before'; 0 by the template 'total and deterministic' (their statements: YtnidngpenhblcaaDoorTotals.lean).
  GIVEN WITH THE SEED: the statements are not yours to turn. If you find one false, say at which input.
  Laid BY PROGRAM, IN A SANDBOX (cutbox-rows.mjs): the forced cells as the released guide's own fill.sh prints them over the translation 9ad3b51d1754361c… (all of the seat's roots in one cut). By AI agents, Wed Nov 11 2026. No macro, syntax, notation, axiom, sorry.
-/
import Derived.Test.YtnidngpenhblcaaDoorChecked
import GoSem.Claim
import GoSem.ClaimJoined
import GoSem.ClaimMapViews
import Derived.JoinedTies
import Derived.KernelRfl
namespace Go.Proofs.YtnidngpenhblcaaDoor
/- THE CELL 'sum', in the pinned program and in every row, IS THE sha256 OF THE DUMP (.gsa) THAT YtnidngpenhblcaaDoorProg.lean LOADS. Nothing in Lean hashes anything: it is a label: what it is worth is what the hold of that sum in a sandbox is worth. -/
noncomputable def Tryd.pinned : Pinned := { name := "ytnidngpenhblcaadoor", sum := "9ad3b51d1754361c0d79f17cab94b2a5640ea397965fa6d88c00e5979dbc224a", checked := Tryd.checked }
namespace Rows
def none {H : Type} : Left H := { results := [], args := [] }

/- WHAT THE LISTED PACKAGE-LEVEL VARIABLES READ AS WHEN THE CALL BEGINS. Each datum BY PROGRAM (the guide's laid-datum.mjs) off the statement by which the dump's own 'gosem.cut.vars' lays the variable. In a bare row this is a premise. The card (YtnidngpenhblcaaDoorCards.lean) ties it to the program's text. -/
def laid_telpher_telmake_anyNames {H : Type} : DataW H := .slice [.lit (.string [66, 111, 120]), .lit (.string [73, 110, 116]), .lit (.string [80, 97, 105, 114]), .lit (.string [65]), .lit (.string [120, 95, 49]), .lit (.string []), .lit (.string [116, 117, 112, 108, 101]), .lit (.string [65, 110, 121]), .lit (.string [49, 120]), .lit (.string [97, 45, 98]), .lit (.string [97, 98, 99, 100, 101, 102, 103, 104, 105, 106, 107, 108, 109, 110, 111, 112, 113, 114, 115, 116, 117, 118, 119, 120, 121])] []
def laid_telpher_telmake_leafNames {H : Type} : DataW H := .slice [.lit (.string [73, 110, 116]), .lit (.string [66, 111, 111, 108]), .lit (.string [83, 116, 114, 105, 110, 103]), .lit (.string [78, 105, 108])] []

/-- 'tellaw2.TermMeasures': WHATEVER THE INPUT: true; the input reads as it did. -/
def termMeasuresSpec : ChangeSpec := { name := "termMeasures", fn := fun _ => fun
  | [d] => { results := [.lit (.bool true)], args := [d] }
  | _ => none }
def termMeasuresRow : OpenClaim := { program := "ytnidngpenhblcaadoor", sum := "9ad3b51d1754361c0d79f17cab94b2a5640ea397965fa6d88c00e5979dbc224a", func := "telpher/tellaw2.TermMeasures", spec := "termMeasures", recurses := true, named := ["telpher/telmake.anyNames"], apart := false, laid := [("telpher/telmake.anyNames", laid_telpher_telmake_anyNames)] }
def TermMeasuresSaid : Prop := termMeasuresRow.holds Tryd.pinned (OpenSpec.ofChange termMeasuresSpec)

/-- ITS FALSE NEIGHBOUR: 'it returns false'. Refute it at one input. -/
def termMeasuresWrong : ChangeSpec := { name := "termMeasures", fn := fun _ => fun
  | [d] => { results := [.lit (.bool false)], args := [d] }
  | _ => none }
def TermMeasuresWrongFalsely : Prop := termMeasuresRow.holds Tryd.pinned (OpenSpec.ofChange termMeasuresWrong)

/-- 'tellaw2.TermValidate': WHATEVER THE INPUT: true; the input reads as it did. -/
def termValidateSpec : ChangeSpec := { name := "termValidate", fn := fun _ => fun
  | [d] => { results := [.lit (.bool true)], args := [d] }
  | _ => none }
def termValidateRow : OpenClaim := { program := "ytnidngpenhblcaadoor", sum := "9ad3b51d1754361c0d79f17cab94b2a5640ea397965fa6d88c00e5979dbc224a", func := "telpher/tellaw2.TermValidate", spec := "termValidate", recurses := true, named := ["telpher/telmake.anyNames"], apart := false, laid := [("telpher/telmake.anyNames", laid_telpher_telmake_anyNames)] }
def TermValidateSaid : Prop := termValidateRow.holds Tryd.pinned (OpenSpec.ofChange termValidateSpec)

/-- ITS FALSE NEIGHBOUR: 'it returns false'. Refute it at one input. -/
def termValidateWrong : ChangeSpec := { name := "termValidate", fn := fun _ => fun
  | [d] => { results := [.lit (.bool false)], args := [d] }
  | _ => none }
def TermValidateWrongFalsely : Prop := termValidateRow.holds Tryd.pinned (OpenSpec.ofChange termValidateWrong)

/-- 'tellaw2.TermSpoiled': WHATEVER THE INPUT: true; the input reads as it did. -/
def termSpoiledSpec : ChangeSpec := { name := "termSpoiled", fn := fun _ => fun
  | [d1, d2, d3, d4, d5] => { results := [.lit (.bool true)], args := [d1, d2, d3, d4, d5] }
  | _ => none }
def termSpoiledRow : OpenClaim := { program := "ytnidngpenhblcaadoor", sum := "9ad3b51d1754361c0d79f17cab94b2a5640ea397965fa6d88c00e5979dbc224a", func := "telpher/tellaw2.TermSpoiled", spec := "termSpoiled", recurses := true, named := ["telpher/telmake.leafNames"], apart := false, laid := [("telpher/telmake.leafNames", laid_telpher_telmake_leafNames)] }
def TermSpoiledSaid : Prop := termSpoiledRow.holds Tryd.pinned (OpenSpec.ofChange termSpoiledSpec)

/-- ITS FALSE NEIGHBOUR: 'it returns false'. Refute it at one input. -/
def termSpoiledWrong : ChangeSpec := { name := "termSpoiled", fn := fun _ => fun
  | [d1, d2, d3, d4, d5] => { results := [.lit (.bool false)], args := [d1, d2, d3, d4, d5] }
  | _ => none }
def TermSpoiledWrongFalsely : Prop := termSpoiledRow.holds Tryd.pinned (OpenSpec.ofChange termSpoiledWrong)

/-- 'tellaw2.TermSubstitute': WHATEVER THE INPUT: true; the input reads as it did. -/
def termSubstituteSpec : ChangeSpec := { name := "termSubstitute", fn := fun _ => fun
  | [d1, d2, d3] => { results := [.lit (.bool true)], args := [d1, d2, d3] }
  | _ => none }
def termSubstituteRow : OpenClaim := { program := "ytnidngpenhblcaadoor", sum := "9ad3b51d1754361c0d79f17cab94b2a5640ea397965fa6d88c00e5979dbc224a", func := "telpher/tellaw2.TermSubstitute", spec := "termSubstitute", inPlace := ["internal/bytealg.abigen_runtime_cmpstring"], unfollowed := true, recurses := true, named := ["telpher/telmake.leafNames"], apart := false, laid := [("telpher/telmake.leafNames", laid_telpher_telmake_leafNames)] }
def TermSubstituteSaid : Prop := termSubstituteRow.holds Tryd.pinned (OpenSpec.ofChange termSubstituteSpec)

/-- ITS FALSE NEIGHBOUR: 'it returns false'. Refute it at one input. -/
def termSubstituteWrong : ChangeSpec := { name := "termSubstitute", fn := fun _ => fun
  | [d1, d2, d3] => { results := [.lit (.bool false)], args := [d1, d2, d3] }
  | _ => none }
def TermSubstituteWrongFalsely : Prop := termSubstituteRow.holds Tryd.pinned (OpenSpec.ofChange termSubstituteWrong)

/-- 'tellaw2.TermSubstituteVars': WHATEVER THE INPUT: true; the input reads as it did. -/
def termSubstituteVarsSpec : ChangeSpec := { name := "termSubstituteVars", fn := fun _ => fun
  | [d1, d2, d3] => { results := [.lit (.bool true)], args := [d1, d2, d3] }
  | _ => none }
def termSubstituteVarsRow : OpenClaim := { program := "ytnidngpenhblcaadoor", sum := "9ad3b51d1754361c0d79f17cab94b2a5640ea397965fa6d88c00e5979dbc224a", func := "telpher/tellaw2.TermSubstituteVars", spec := "termSubstituteVars", inPlace := ["internal/bytealg.abigen_runtime_cmpstring"], unfollowed := true, recurses := true, named := ["telpher/telmake.leafNames"], apart := false, laid := [("telpher/telmake.leafNames", laid_telpher_telmake_leafNames)] }
def TermSubstituteVarsSaid : Prop := termSubstituteVarsRow.holds Tryd.pinned (OpenSpec.ofChange termSubstituteVarsSpec)

/-- ITS FALSE NEIGHBOUR: 'it returns false'. Refute it at one input. -/
def termSubstituteVarsWrong : ChangeSpec := { name := "termSubstituteVars", fn := fun _ => fun
  | [d1, d2, d3] => { results := [.lit (.bool false)], args := [d1, d2, d3] }
  | _ => none }
def TermSubstituteVarsWrongFalsely : Prop := termSubstituteVarsRow.holds Tryd.pinned (OpenSpec.ofChange termSubstituteVarsWrong)

/-- 'tellaw2.TermCompare': WHATEVER THE INPUT: true; the input reads as it did. -/
def termCompareSpec : ChangeSpec := { name := "termCompare", fn := fun _ => fun
  | [d1, d2, d3] => { results := [.lit (.bool true)], args := [d1, d2, d3] }
  | _ => none }
def termCompareRow : OpenClaim := { program := "ytnidngpenhblcaadoor", sum := "9ad3b51d1754361c0d79f17cab94b2a5640ea397965fa6d88c00e5979dbc224a", func := "telpher/tellaw2.TermCompare", spec := "termCompare", inPlace := ["internal/bytealg.abigen_runtime_cmpstring"], recurses := true, named := ["telpher/telmake.leafNames"], apart := false, laid := [("telpher/telmake.leafNames", laid_telpher_telmake_leafNames)] }
def TermCompareSaid : Prop := termCompareRow.holds Tryd.pinned (OpenSpec.ofChange termCompareSpec)

/-- ITS FALSE NEIGHBOUR: 'it returns false'. Refute it at one input. -/
def termCompareWrong : ChangeSpec := { name := "termCompare", fn := fun _ => fun
  | [d1, d2, d3] => { results := [.lit (.bool false)], args := [d1, d2, d3] }
  | _ => none }
def TermCompareWrongFalsely : Prop := termCompareRow.holds Tryd.pinned (OpenSpec.ofChange termCompareWrong)

/- THE SECOND FORM. 'bulk': how many values and letters a reading holds, each counted each time it is reached (what is shared counts as often as it is met; a slice's spare places count too). A statement '..UptoSaid' is the law's where the arguments, and the package variables that the reading takes, are together of bulk at most 1048576: NARROWER than '..Said'. Prove '..Said' where nothing that the law and all that it calls make is longer than what came in: it says more and counts as full. Else prove '..UptoSaid'. A law counts once. -/
mutual
def uptoBulk {H : Type} : DataW H → Nat
  | .lit (.string bytes) => bytes.length + 1
  | .lit _ => 1
  | .nil => 1
  | .ptr d => uptoBulk d + 1
  | .slice elems spare => uptoBulkAll elems + uptoBulkAll spare + 1
  | .agg parts => uptoBulkAll parts + 1
  | .iface _ d => uptoBulk d + 1
  | .map entries => uptoBulkEntries entries + 1
  | .held _ => 1
def uptoBulkAll {H : Type} : List (DataW H) → Nat
  | [] => 0
  | d :: r => uptoBulk d + uptoBulkAll r
def uptoBulkEntries {H : Type} : List (Lit × DataW H) → Nat
  | [] => 0
  | x :: r => uptoBulkEntry x + uptoBulkEntries r
def uptoBulkEntry {H : Type} : Lit × DataW H → Nat
  | (.string bytes, d) => bytes.length + uptoBulk d + 1
  | (_, d) => uptoBulk d + 1
 end
def uptoSmall : (H : Type) → List (DataW H) → Bool := fun _ ds => decide (uptoBulkAll ds ≤ 1048576)
def OpenSpec.upto (s : _root_.Go.ChangeSpec) : _root_.Go.OpenSpec := { _root_.Go.OpenSpec.ofChange s with cond := some uptoSmall }

/-- 'tellaw2.TermMeasures', WHERE WHAT IT READS IS OF BULK AT MOST 1048576: true; the input reads as it did. -/
def termMeasuresUptoRow : OpenClaim := { program := "ytnidngpenhblcaadoor", sum := "9ad3b51d1754361c0d79f17cab94b2a5640ea397965fa6d88c00e5979dbc224a", func := "telpher/tellaw2.TermMeasures", spec := "termMeasures", recurses := true, named := ["telpher/telmake.anyNames"], apart := false, laid := [("telpher/telmake.anyNames", laid_telpher_telmake_anyNames)], narrowed := true }
def TermMeasuresUptoSaid : Prop := termMeasuresUptoRow.holds Tryd.pinned (OpenSpec.upto termMeasuresSpec)

/-- 'tellaw2.TermValidate', WHERE WHAT IT READS IS OF BULK AT MOST 1048576: true; the input reads as it did. -/
def termValidateUptoRow : OpenClaim := { program := "ytnidngpenhblcaadoor", sum := "9ad3b51d1754361c0d79f17cab94b2a5640ea397965fa6d88c00e5979dbc224a", func := "telpher/tellaw2.TermValidate", spec := "termValidate", recurses := true, named := ["telpher/telmake.anyNames"], apart := false, laid := [("telpher/telmake.anyNames", laid_telpher_telmake_anyNames)], narrowed := true }
def TermValidateUptoSaid : Prop := termValidateUptoRow.holds Tryd.pinned (OpenSpec.upto termValidateSpec)

/-- 'tellaw2.TermSpoiled', WHERE WHAT IT READS IS OF BULK AT MOST 1048576: true; the input reads as it did. -/
def termSpoiledUptoRow : OpenClaim := { program := "ytnidngpenhblcaadoor", sum := "9ad3b51d1754361c0d79f17cab94b2a5640ea397965fa6d88c00e5979dbc224a", func := "telpher/tellaw2.TermSpoiled", spec := "termSpoiled", recurses := true, named := ["telpher/telmake.leafNames"], apart := false, laid := [("telpher/telmake.leafNames", laid_telpher_telmake_leafNames)], narrowed := true }
def TermSpoiledUptoSaid : Prop := termSpoiledUptoRow.holds Tryd.pinned (OpenSpec.upto termSpoiledSpec)

/-- 'tellaw2.TermSubstitute', WHERE WHAT IT READS IS OF BULK AT MOST 1048576: true; the input reads as it did. -/
def termSubstituteUptoRow : OpenClaim := { program := "ytnidngpenhblcaadoor", sum := "9ad3b51d1754361c0d79f17cab94b2a5640ea397965fa6d88c00e5979dbc224a", func := "telpher/tellaw2.TermSubstitute", spec := "termSubstitute", inPlace := ["internal/bytealg.abigen_runtime_cmpstring"], unfollowed := true, recurses := true, named := ["telpher/telmake.leafNames"], apart := false, laid := [("telpher/telmake.leafNames", laid_telpher_telmake_leafNames)], narrowed := true }
def TermSubstituteUptoSaid : Prop := termSubstituteUptoRow.holds Tryd.pinned (OpenSpec.upto termSubstituteSpec)

/-- 'tellaw2.TermSubstituteVars', WHERE WHAT IT READS IS OF BULK AT MOST 1048576: true; the input reads as it did. -/
def termSubstituteVarsUptoRow : OpenClaim := { program := "ytnidngpenhblcaadoor", sum := "9ad3b51d1754361c0d79f17cab94b2a5640ea397965fa6d88c00e5979dbc224a", func := "telpher/tellaw2.TermSubstituteVars", spec := "termSubstituteVars", inPlace := ["internal/bytealg.abigen_runtime_cmpstring"], unfollowed := true, recurses := true, named := ["telpher/telmake.leafNames"], apart := false, laid := [("telpher/telmake.leafNames", laid_telpher_telmake_leafNames)], narrowed := true }
def TermSubstituteVarsUptoSaid : Prop := termSubstituteVarsUptoRow.holds Tryd.pinned (OpenSpec.upto termSubstituteVarsSpec)

/-- 'tellaw2.TermCompare', WHERE WHAT IT READS IS OF BULK AT MOST 1048576: true; the input reads as it did. -/
def termCompareUptoRow : OpenClaim := { program := "ytnidngpenhblcaadoor", sum := "9ad3b51d1754361c0d79f17cab94b2a5640ea397965fa6d88c00e5979dbc224a", func := "telpher/tellaw2.TermCompare", spec := "termCompare", inPlace := ["internal/bytealg.abigen_runtime_cmpstring"], recurses := true, named := ["telpher/telmake.leafNames"], apart := false, laid := [("telpher/telmake.leafNames", laid_telpher_telmake_leafNames)], narrowed := true }
def TermCompareUptoSaid : Prop := termCompareUptoRow.holds Tryd.pinned (OpenSpec.upto termCompareSpec)

end Rows
end Go.Proofs.YtnidngpenhblcaaDoor
