/-
  DERIVED. GIVEN WITH THE SEED: THE CARDS: each row of YtmhjcnnocllniaaDoorRows.lean that lists a variable, with what it lists TIED to the program's text (the seventh form; the later family's looks); each row that meets fmt, with fmt's text TOLD by the authors' own Lean function (tested against real Go, not proved from fmt's source: count such statements apart). THE CARD IS WHAT COUNTS. Prove the row's statement (the work); the ties are given (YtmhjcnnocllniaaDoorTie.lean); close each card by the builder's one call (the guide's Derived/Test/ToyasCard.lean, 'card_holds'). Laid BY PROGRAM, IN A SANDBOX (cutbox-door.mjs). By AI agents, Wed Nov 11 2026. No macro, syntax, notation, axiom, sorry.
-/
import Derived.Test.YtmhjcnnocllniaaDoorRows
import GoSem.ClaimSeven
namespace Go.Proofs.YtmhjcnnocllniaaDoor
namespace Rows

/-- THE TIED CARD OF 'metronomelaw05.ShowExprs'. -/
def showExprsCard : Claim7 := { stood := { row := showExprsRow, standIns := [], harness := (true, "c23e2421f326c67722ee1730fd12525e0618388ea99880828f5eb440b1a9ba5d"), looks := false }, kinds := [], alts := [], laidByText := true, laidKinds := [.data, .data, .data, .data], laidTests := true, laidLooks := .later }
def ShowExprsCardSaid : Prop := Claim7.holds Tryd.pinned (.plain (OpenSpec.ofChange showExprsSpec)) showExprsCard

/-- THE TIED CARD OF 'metronomelaw05.ShowVars'. -/
def showVarsCard : Claim7 := { stood := { row := showVarsRow, standIns := [], harness := (true, "c23e2421f326c67722ee1730fd12525e0618388ea99880828f5eb440b1a9ba5d"), looks := false }, kinds := [], alts := [], laidByText := true, laidKinds := [.data, .data, .data, .data], laidTests := true, laidLooks := .later }
def ShowVarsCardSaid : Prop := Claim7.holds Tryd.pinned (.plain (OpenSpec.ofChange showVarsSpec)) showVarsCard

/-- THE SECOND FORM's CARD OF 'metronomelaw05.ShowExprs'. -/
def showExprsUptoCard : Claim7 := { stood := { row := showExprsUptoRow, standIns := [], harness := (true, "c23e2421f326c67722ee1730fd12525e0618388ea99880828f5eb440b1a9ba5d"), looks := false }, kinds := [], alts := [], laidByText := true, laidKinds := [.data, .data, .data, .data], laidTests := true, laidLooks := .later }
def ShowExprsUptoCardSaid : Prop := Claim7.holds Tryd.pinned (.plain (OpenSpec.upto showExprsSpec)) showExprsUptoCard

/-- THE SECOND FORM's CARD OF 'metronomelaw05.ShowVars'. -/
def showVarsUptoCard : Claim7 := { stood := { row := showVarsUptoRow, standIns := [], harness := (true, "c23e2421f326c67722ee1730fd12525e0618388ea99880828f5eb440b1a9ba5d"), looks := false }, kinds := [], alts := [], laidByText := true, laidKinds := [.data, .data, .data, .data], laidTests := true, laidLooks := .later }
def ShowVarsUptoCardSaid : Prop := Claim7.holds Tryd.pinned (.plain (OpenSpec.upto showVarsSpec)) showVarsUptoCard
end Rows
end Go.Proofs.YtmhjcnnocllniaaDoor
