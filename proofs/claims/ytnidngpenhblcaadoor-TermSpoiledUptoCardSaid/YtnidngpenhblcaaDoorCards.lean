/-
  DERIVED. GIVEN WITH THE SEED: THE CARDS: each row of YtnidngpenhblcaaDoorRows.lean that lists a variable, with what it lists TIED to the program's text (the seventh form; the later family's looks); each row that meets fmt, with fmt's text TOLD by the authors' own Lean function (tested against real Go, not proved from fmt's source: count such statements apart). THE CARD IS WHAT COUNTS. Prove the row's statement (the work); the ties are given (YtnidngpenhblcaaDoorTie.lean); close each card by the builder's one call (the guide's Derived/Test/ToyasCard.lean, 'card_holds'). Laid BY PROGRAM, IN A SANDBOX (cutbox-door.mjs). By AI agents, Wed Nov 11 2026. No macro, syntax, notation, axiom, sorry.
-/
import Derived.Test.YtnidngpenhblcaaDoorRows
import GoSem.ClaimSeven
namespace Go.Proofs.YtnidngpenhblcaaDoor
namespace Rows

/-- THE TIED CARD OF 'tellaw2.TermMeasures'. -/
def termMeasuresCard : Claim7 := { stood := { row := termMeasuresRow, standIns := [], harness := (true, "07a2f4dc73cbcaffea8f20aa9029c94a1e4963df5a79c9bf382303cd92275b73"), looks := false }, kinds := [], alts := [], laidByText := true, laidKinds := [.data], laidTests := true, laidLooks := .later }
def TermMeasuresCardSaid : Prop := Claim7.holds Tryd.pinned (.plain (OpenSpec.ofChange termMeasuresSpec)) termMeasuresCard

/-- THE TIED CARD OF 'tellaw2.TermValidate'. -/
def termValidateCard : Claim7 := { stood := { row := termValidateRow, standIns := [], harness := (true, "07a2f4dc73cbcaffea8f20aa9029c94a1e4963df5a79c9bf382303cd92275b73"), looks := false }, kinds := [], alts := [], laidByText := true, laidKinds := [.data], laidTests := true, laidLooks := .later }
def TermValidateCardSaid : Prop := Claim7.holds Tryd.pinned (.plain (OpenSpec.ofChange termValidateSpec)) termValidateCard

/-- THE TIED CARD OF 'tellaw2.TermSpoiled'. -/
def termSpoiledCard : Claim7 := { stood := { row := termSpoiledRow, standIns := [], harness := (true, "07a2f4dc73cbcaffea8f20aa9029c94a1e4963df5a79c9bf382303cd92275b73"), looks := false }, kinds := [], alts := [], laidByText := true, laidKinds := [.data], laidTests := true, laidLooks := .later }
def TermSpoiledCardSaid : Prop := Claim7.holds Tryd.pinned (.plain (OpenSpec.ofChange termSpoiledSpec)) termSpoiledCard

/-- THE TIED CARD OF 'tellaw2.TermSubstitute'. -/
def termSubstituteCard : Claim7 := { stood := { row := termSubstituteRow, standIns := [], harness := (true, "07a2f4dc73cbcaffea8f20aa9029c94a1e4963df5a79c9bf382303cd92275b73"), looks := false }, kinds := [], alts := [], laidByText := true, laidKinds := [.data], laidTests := true, laidLooks := .later }
def TermSubstituteCardSaid : Prop := Claim7.holds Tryd.pinned (.plain (OpenSpec.ofChange termSubstituteSpec)) termSubstituteCard

/-- THE TIED CARD OF 'tellaw2.TermSubstituteVars'. -/
def termSubstituteVarsCard : Claim7 := { stood := { row := termSubstituteVarsRow, standIns := [], harness := (true, "07a2f4dc73cbcaffea8f20aa9029c94a1e4963df5a79c9bf382303cd92275b73"), looks := false }, kinds := [], alts := [], laidByText := true, laidKinds := [.data], laidTests := true, laidLooks := .later }
def TermSubstituteVarsCardSaid : Prop := Claim7.holds Tryd.pinned (.plain (OpenSpec.ofChange termSubstituteVarsSpec)) termSubstituteVarsCard

/-- THE TIED CARD OF 'tellaw2.TermCompare'. -/
def termCompareCard : Claim7 := { stood := { row := termCompareRow, standIns := [], harness := (true, "07a2f4dc73cbcaffea8f20aa9029c94a1e4963df5a79c9bf382303cd92275b73"), looks := false }, kinds := [], alts := [], laidByText := true, laidKinds := [.data], laidTests := true, laidLooks := .later }
def TermCompareCardSaid : Prop := Claim7.holds Tryd.pinned (.plain (OpenSpec.ofChange termCompareSpec)) termCompareCard

/-- THE SECOND FORM's CARD OF 'tellaw2.TermMeasures'. -/
def termMeasuresUptoCard : Claim7 := { stood := { row := termMeasuresUptoRow, standIns := [], harness := (true, "07a2f4dc73cbcaffea8f20aa9029c94a1e4963df5a79c9bf382303cd92275b73"), looks := false }, kinds := [], alts := [], laidByText := true, laidKinds := [.data], laidTests := true, laidLooks := .later }
def TermMeasuresUptoCardSaid : Prop := Claim7.holds Tryd.pinned (.plain (OpenSpec.upto termMeasuresSpec)) termMeasuresUptoCard

/-- THE SECOND FORM's CARD OF 'tellaw2.TermValidate'. -/
def termValidateUptoCard : Claim7 := { stood := { row := termValidateUptoRow, standIns := [], harness := (true, "07a2f4dc73cbcaffea8f20aa9029c94a1e4963df5a79c9bf382303cd92275b73"), looks := false }, kinds := [], alts := [], laidByText := true, laidKinds := [.data], laidTests := true, laidLooks := .later }
def TermValidateUptoCardSaid : Prop := Claim7.holds Tryd.pinned (.plain (OpenSpec.upto termValidateSpec)) termValidateUptoCard

/-- THE SECOND FORM's CARD OF 'tellaw2.TermSpoiled'. -/
def termSpoiledUptoCard : Claim7 := { stood := { row := termSpoiledUptoRow, standIns := [], harness := (true, "07a2f4dc73cbcaffea8f20aa9029c94a1e4963df5a79c9bf382303cd92275b73"), looks := false }, kinds := [], alts := [], laidByText := true, laidKinds := [.data], laidTests := true, laidLooks := .later }
def TermSpoiledUptoCardSaid : Prop := Claim7.holds Tryd.pinned (.plain (OpenSpec.upto termSpoiledSpec)) termSpoiledUptoCard

/-- THE SECOND FORM's CARD OF 'tellaw2.TermSubstitute'. -/
def termSubstituteUptoCard : Claim7 := { stood := { row := termSubstituteUptoRow, standIns := [], harness := (true, "07a2f4dc73cbcaffea8f20aa9029c94a1e4963df5a79c9bf382303cd92275b73"), looks := false }, kinds := [], alts := [], laidByText := true, laidKinds := [.data], laidTests := true, laidLooks := .later }
def TermSubstituteUptoCardSaid : Prop := Claim7.holds Tryd.pinned (.plain (OpenSpec.upto termSubstituteSpec)) termSubstituteUptoCard

/-- THE SECOND FORM's CARD OF 'tellaw2.TermSubstituteVars'. -/
def termSubstituteVarsUptoCard : Claim7 := { stood := { row := termSubstituteVarsUptoRow, standIns := [], harness := (true, "07a2f4dc73cbcaffea8f20aa9029c94a1e4963df5a79c9bf382303cd92275b73"), looks := false }, kinds := [], alts := [], laidByText := true, laidKinds := [.data], laidTests := true, laidLooks := .later }
def TermSubstituteVarsUptoCardSaid : Prop := Claim7.holds Tryd.pinned (.plain (OpenSpec.upto termSubstituteVarsSpec)) termSubstituteVarsUptoCard

/-- THE SECOND FORM's CARD OF 'tellaw2.TermCompare'. -/
def termCompareUptoCard : Claim7 := { stood := { row := termCompareUptoRow, standIns := [], harness := (true, "07a2f4dc73cbcaffea8f20aa9029c94a1e4963df5a79c9bf382303cd92275b73"), looks := false }, kinds := [], alts := [], laidByText := true, laidKinds := [.data], laidTests := true, laidLooks := .later }
def TermCompareUptoCardSaid : Prop := Claim7.holds Tryd.pinned (.plain (OpenSpec.upto termCompareSpec)) termCompareUptoCard
end Rows
end Go.Proofs.YtnidngpenhblcaaDoor
