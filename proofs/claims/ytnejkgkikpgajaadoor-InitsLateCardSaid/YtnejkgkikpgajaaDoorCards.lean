/-
  DERIVED. GIVEN WITH THE SEED: THE CARDS: each row of YtnejkgkikpgajaaDoorRows.lean that lists a variable, with what it lists TIED to the program's text (the seventh form; the later family's looks); each row that meets fmt, with fmt's text TOLD by the authors' own Lean function (tested against real Go, not proved from fmt's source: count such statements apart). THE CARD IS WHAT COUNTS. Prove the row's statement (the work); the ties are given (YtnejkgkikpgajaaDoorTie.lean); close each card by the builder's one call (the guide's Derived/Test/ToyasCard.lean, 'card_holds'). Laid BY PROGRAM, IN A SANDBOX (cutbox-door.mjs). By AI agents, Wed Nov 11 2026. No macro, syntax, notation, axiom, sorry.
-/
import Derived.Test.YtnejkgkikpgajaaDoorRows
import GoSem.ClaimSeven
namespace Go.Proofs.YtnejkgkikpgajaaDoor
namespace Rows

/-- THE TIED CARD OF 'metronomelaw09.ClocksWhens'. -/
def clocksWhensCard : Claim7 := { stood := { row := clocksWhensRow, standIns := [], harness := (true, "8eb505309f8f65300bfd126ed1257587e84ff347df908b44b9996bcf0d1c44ef"), looks := true }, kinds := [], alts := [], laidByText := true, laidKinds := [.handle], laidTests := true, laidLooks := .later }
def ClocksWhensCardSaid : Prop := Claim7.holds Tryd.pinned (.plain (OpenSpec.ofChange clocksWhensSpec)) clocksWhensCard

/-- THE TIED CARD OF 'metronomelaw10.InitsLate'. -/
def initsLateCard : Claim7 := { stood := { row := initsLateRow, standIns := [], harness := (true, "8eb505309f8f65300bfd126ed1257587e84ff347df908b44b9996bcf0d1c44ef"), looks := true }, kinds := [], alts := [], laidByText := true, laidKinds := [.handle], laidTests := true, laidLooks := .later }
def InitsLateCardSaid : Prop := Claim7.holds Tryd.pinned (.plain (OpenSpec.ofChange initsLateSpec)) initsLateCard

/-- THE SECOND FORM's CARD OF 'metronomelaw09.ClocksWhens'. -/
def clocksWhensUptoCard : Claim7 := { stood := { row := clocksWhensUptoRow, standIns := [], harness := (true, "8eb505309f8f65300bfd126ed1257587e84ff347df908b44b9996bcf0d1c44ef"), looks := true }, kinds := [], alts := [], laidByText := true, laidKinds := [.handle], laidTests := true, laidLooks := .later }
def ClocksWhensUptoCardSaid : Prop := Claim7.holds Tryd.pinned (.plain (OpenSpec.upto clocksWhensSpec)) clocksWhensUptoCard

/-- THE SECOND FORM's CARD OF 'metronomelaw10.InitsLate'. -/
def initsLateUptoCard : Claim7 := { stood := { row := initsLateUptoRow, standIns := [], harness := (true, "8eb505309f8f65300bfd126ed1257587e84ff347df908b44b9996bcf0d1c44ef"), looks := true }, kinds := [], alts := [], laidByText := true, laidKinds := [.handle], laidTests := true, laidLooks := .later }
def InitsLateUptoCardSaid : Prop := Claim7.holds Tryd.pinned (.plain (OpenSpec.upto initsLateSpec)) initsLateUptoCard
end Rows
end Go.Proofs.YtnejkgkikpgajaaDoor
