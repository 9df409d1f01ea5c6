/-
  NARROWER THAN 'FOR EVERY INPUT', by the rows' own cells (each row's printed sentence says how): TermSubstitute: laid · TermSubstituteVars: laid.
  DERIVED. THE GIVEN ROWS OF THIS SEAT. 2 by the template 'for every input the law returns true; each argument reads behind the call as it read before'; 0 by the template 'total and deterministic' (their statements: YtddfpbcdopcdhaaDoorTotals.lean).
  GIVEN WITH THE SEED: the statements are not yours to turn. If you find one false, say at which input.
  Laid BY PROGRAM, IN A SANDBOX (cutbox-rows.mjs): the forced cells as the released guide's own fill.sh prints them over the translation 35b6f46b27a0469e… (all of the seat's roots in one cut). By AI agents, Wed Nov 11 2026. No macro, syntax, notation, axiom, sorry.
-/
import Derived.Test.YtddfpbcdopcdhaaDoorChecked
import GoSem.Claim
import GoSem.ClaimJoined
import GoSem.ClaimMapViews
import Derived.JoinedTies
import Derived.KernelRfl
namespace Go.Proofs.YtddfpbcdopcdhaaDoor
/- THE CELL 'sum', in the pinned program and in every row, IS THE sha256 OF THE DUMP (.gsa) THAT YtddfpbcdopcdhaaDoorProg.lean LOADS. Nothing in Lean hashes anything: it is a label: what it is worth is what the hold of that sum in a sandbox is worth. -/
noncomputable def Tryd.pinned : Pinned := { name := "ytddfpbcdopcdhaadoor", sum := "35b6f46b27a0469eec74ceeee6239396aa23f37ff160bfb79e6f9309b0842a24", checked := Tryd.checked }
namespace Rows
def none {H : Type} : Left H := { results := [], args := [] }

/- WHAT THE LISTED PACKAGE-LEVEL VARIABLES READ AS WHEN THE CALL BEGINS. Each datum BY PROGRAM (the guide's laid-datum.mjs) off the statement by which the dump's own 'gosem.cut.vars' lays the variable. In a bare row this is a premise. The card (YtddfpbcdopcdhaaDoorCards.lean) ties it to the program's text. -/
def laid_telpher_telmake_leafNames {H : Type} : DataW H := .slice [.lit (.string [73, 110, 116]), .lit (.string [66, 111, 111, 108]), .lit (.string [83, 116, 114, 105, 110, 103]), .lit (.string [78, 105, 108])] []

/-- 'tellaw2.TermSubstitute': WHATEVER THE INPUT: true; the input reads as it did. -/
def termSubstituteSpec : ChangeSpec := { name := "termSubstitute", fn := fun _ => fun
  | [d1, d2, d3] => { results := [.lit (.bool true)], args := [d1, d2, d3] }
  | _ => none }
def termSubstituteRow : OpenClaim := { program := "ytddfpbcdopcdhaadoor", sum := "35b6f46b27a0469eec74ceeee6239396aa23f37ff160bfb79e6f9309b0842a24", func := "telpher/tellaw2.TermSubstitute", spec := "termSubstitute", inPlace := ["internal/bytealg.abigen_runtime_cmpstring"], unfollowed := true, recurses := true, named := ["telpher/telmake.leafNames"], apart := false, laid := [("telpher/telmake.leafNames", laid_telpher_telmake_leafNames)] }
def TermSubstituteSaid : Prop := termSubstituteRow.holds Tryd.pinned (OpenSpec.ofChange termSubstituteSpec)

/-- ITS FALSE NEIGHBOUR: 'it returns false'. Refute it at one input. -/
def termSubstituteWrong : ChangeSpec := { name := "termSubstitute", fn := fun _ => fun
  | [d1, d2, d3] => { results := [.lit (.bool false)], args := [d1, d2, d3] }
  | _ => none }
def TermSubstituteWrongFalsely : Prop := termSubstituteRow.holds Tryd.pinned (OpenSpec.ofChange termSubstituteWrong)

/-- 'tellaw2.TermSubstituteVars': WHATEVER THE INPUT: true; the input reads as it did. -/
def termSubstituteVarsSpec : ChangeSpec := { name := "termSubstituteVars", fn := fun _ => fun
  | [d1, d2, d3] => { results := [.lit (.bool true)], args := [d1, d2, d3] }
  | _ => none }
def termSubstituteVarsRow : OpenClaim := { program := "ytddfpbcdopcdhaadoor", sum := "35b6f46b27a0469eec74ceeee6239396aa23f37ff160bfb79e6f9309b0842a24", func := "telpher/tellaw2.TermSubstituteVars", spec := "termSubstituteVars", inPlace := ["internal/bytealg.abigen_runtime_cmpstring"], unfollowed := true, recurses := true, named := ["telpher/telmake.leafNames"], apart := false, laid := [("telpher/telmake.leafNames", laid_telpher_telmake_leafNames)] }
def TermSubstituteVarsSaid : Prop := termSubstituteVarsRow.holds Tryd.pinned (OpenSpec.ofChange termSubstituteVarsSpec)

/-- ITS FALSE NEIGHBOUR: 'it returns false'. Refute it at one input. -/
def termSubstituteVarsWrong : ChangeSpec := { name := "termSubstituteVars", fn := fun _ => fun
  | [d1, d2, d3] => { results := [.lit (.bool false)], args := [d1, d2, d3] }
  | _ => none }
def TermSubstituteVarsWrongFalsely : Prop := termSubstituteVarsRow.holds Tryd.pinned (OpenSpec.ofChange termSubstituteVarsWrong)

/- THE SECOND FORM. 'bulk': how many values and letters a reading holds, each counted each time it is reached (what is shared counts as often as it is met; a slice's spare places count too). A statement '..UptoSaid' is the law's where the arguments, and the package variables that the reading takes, are together of bulk at most 1048576: NARROWER than '..Said'. Prove '..Said' where nothing that the law and all that it calls make is longer than what came in: it says more and counts as full. Else prove '..UptoSaid'. A law counts once. -/
mutual
def uptoBulk {H : Type} : DataW H → Nat
  | .lit (.string bytes) => bytes.length + 1
  | .lit _ => 1
  | .nil => 1
  | .ptr d => uptoBulk d + 1
  | .slice elems spare => uptoBulkAll elems + uptoBulkAll spare + 1
  | .agg parts => uptoBulkAll parts + 1
  | .iface _ d => uptoBulk d + 1
  | .map entries => uptoBulkEntries entries + 1
  | .held _ => 1
def uptoBulkAll {H : Type} : List (DataW H) → Nat
  | [] => 0
  | d :: r => uptoBulk d + uptoBulkAll r
def uptoBulkEntries {H : Type} : List (Lit × DataW H) → Nat
  | [] => 0
  | x :: r => uptoBulkEntry x + uptoBulkEntries r
def uptoBulkEntry {H : Type} : Lit × DataW H → Nat
  | (.string bytes, d) => bytes.length + uptoBulk d + 1
  | (_, d) => uptoBulk d + 1
 end
def uptoSmall : (H : Type) → List (DataW H) → Bool := fun _ ds => decide (uptoBulkAll ds ≤ 1048576)
def OpenSpec.upto (s : _root_.Go.ChangeSpec) : _root_.Go.OpenSpec := { _root_.Go.OpenSpec.ofChange s with cond := some uptoSmall }

/-- 'tellaw2.TermSubstitute', WHERE WHAT IT READS IS OF BULK AT MOST 1048576: true; the input reads as it did. -/
def termSubstituteUptoRow : OpenClaim := { program := "ytddfpbcdopcdhaadoor", sum := "35b6f46b27a0469eec74ceeee6239396aa23f37ff160bfb79e6f9309b0842a24", func := "telpher/tellaw2.TermSubstitute", spec := "termSubstitute", inPlace := ["internal/bytealg.abigen_runtime_cmpstring"], unfollowed := true, recurses := true, named := ["telpher/telmake.leafNames"], apart := false, laid := [("telpher/telmake.leafNames", laid_telpher_telmake_leafNames)], narrowed := true }
def TermSubstituteUptoSaid : Prop := termSubstituteUptoRow.holds Tryd.pinned (OpenSpec.upto termSubstituteSpec)

/-- 'tellaw2.TermSubstituteVars', WHERE WHAT IT READS IS OF BULK AT MOST 1048576: true; the input reads as it did. -/
def termSubstituteVarsUptoRow : OpenClaim := { program := "ytddfpbcdopcdhaadoor", sum := "35b6f46b27a0469eec74ceeee6239396aa23f37ff160bfb79e6f9309b0842a24", func := "telpher/tellaw2.TermSubstituteVars", spec := "termSubstituteVars", inPlace := ["internal/bytealg.abigen_runtime_cmpstring"], unfollowed := true, recurses := true, named := ["telpher/telmake.leafNames"], apart := false, laid := [("telpher/telmake.leafNames", laid_telpher_telmake_leafNames)], narrowed := true }
def TermSubstituteVarsUptoSaid : Prop := termSubstituteVarsUptoRow.holds Tryd.pinned (OpenSpec.upto termSubstituteVarsSpec)

end Rows
end Go.Proofs.YtddfpbcdopcdhaaDoor
