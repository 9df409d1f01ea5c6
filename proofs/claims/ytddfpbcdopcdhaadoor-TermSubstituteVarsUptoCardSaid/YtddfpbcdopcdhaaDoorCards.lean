/-
  DERIVED. GIVEN WITH THE SEED: THE CARDS: each row of YtddfpbcdopcdhaaDoorRows.lean that lists a variable, with what it lists TIED to the program's text (the seventh form; the later family's looks); each row that meets fmt, with fmt's text TOLD by the authors' own Lean function (tested against real Go, not proved from fmt's source: count such statements apart). THE CARD IS WHAT COUNTS. Prove the row's statement (the work); the ties are given (YtddfpbcdopcdhaaDoorTie.lean); close each card by the builder's one call (the guide's Derived/Test/ToyasCard.lean, 'card_holds'). Laid BY PROGRAM, IN A SANDBOX (cutbox-door.mjs). By AI agents, Wed Nov 11 2026. No macro, syntax, notation, axiom, sorry.
-/
import Derived.Test.YtddfpbcdopcdhaaDoorRows
import GoSem.ClaimSeven
namespace Go.Proofs.YtddfpbcdopcdhaaDoor
namespace Rows

/-- THE TIED CARD OF 'tellaw2.TermSubstitute'. -/
def termSubstituteCard : Claim7 := { stood := { row := termSubstituteRow, standIns := [], harness := (true, "699f0a37f8db58e2be48bb1c1d0e153ab7c127801c448b44a151a85acca355d2"), looks := false }, kinds := [], alts := [], laidByText := true, laidKinds := [.data], laidTests := true, laidLooks := .later }
def TermSubstituteCardSaid : Prop := Claim7.holds Tryd.pinned (.plain (OpenSpec.ofChange termSubstituteSpec)) termSubstituteCard

/-- THE TIED CARD OF 'tellaw2.TermSubstituteVars'. -/
def termSubstituteVarsCard : Claim7 := { stood := { row := termSubstituteVarsRow, standIns := [], harness := (true, "699f0a37f8db58e2be48bb1c1d0e153ab7c127801c448b44a151a85acca355d2"), looks := false }, kinds := [], alts := [], laidByText := true, laidKinds := [.data], laidTests := true, laidLooks := .later }
def TermSubstituteVarsCardSaid : Prop := Claim7.holds Tryd.pinned (.plain (OpenSpec.ofChange termSubstituteVarsSpec)) termSubstituteVarsCard

/-- THE SECOND FORM's CARD OF 'tellaw2.TermSubstitute'. -/
def termSubstituteUptoCard : Claim7 := { stood := { row := termSubstituteUptoRow, standIns := [], harness := (true, "699f0a37f8db58e2be48bb1c1d0e153ab7c127801c448b44a151a85acca355d2"), looks := false }, kinds := [], alts := [], laidByText := true, laidKinds := [.data], laidTests := true, laidLooks := .later }
def TermSubstituteUptoCardSaid : Prop := Claim7.holds Tryd.pinned (.plain (OpenSpec.upto termSubstituteSpec)) termSubstituteUptoCard

/-- THE SECOND FORM's CARD OF 'tellaw2.TermSubstituteVars'. -/
def termSubstituteVarsUptoCard : Claim7 := { stood := { row := termSubstituteVarsUptoRow, standIns := [], harness := (true, "699f0a37f8db58e2be48bb1c1d0e153ab7c127801c448b44a151a85acca355d2"), looks := false }, kinds := [], alts := [], laidByText := true, laidKinds := [.data], laidTests := true, laidLooks := .later }
def TermSubstituteVarsUptoCardSaid : Prop := Claim7.holds Tryd.pinned (.plain (OpenSpec.upto termSubstituteVarsSpec)) termSubstituteVarsUptoCard
end Rows
end Go.Proofs.YtddfpbcdopcdhaaDoor
