/-
  DERIVED. GIVEN WITH THE SEED: THE CARDS: each row of YtfmkicagpcmpnaaDoorRows.lean that lists a variable, with what it lists TIED to the program's text (the seventh form; the later family's looks); each row that meets fmt, with fmt's text TOLD by the authors' own Lean function (tested against real Go, not proved from fmt's source: count such statements apart). THE CARD IS WHAT COUNTS. Prove the row's statement (the work); the ties are given (YtfmkicagpcmpnaaDoorTie.lean); close each card by the builder's one call (the guide's Derived/Test/ToyasCard.lean, 'card_holds'). Laid BY PROGRAM, IN A SANDBOX (cutbox-door.mjs). By AI agents, Wed Nov 11 2026. No macro, syntax, notation, axiom, sorry.
-/
import Derived.Test.YtfmkicagpcmpnaaDoorRows
import GoSem.ClaimSeven
namespace Go.Proofs.YtfmkicagpcmpnaaDoor
namespace Rows

/-- THE TIED CARD OF 'metronomelaw09.ClocksSame'. -/
def clocksSameCard : Claim7 := { stood := { row := clocksSameRow, standIns := [], harness := (true, "7cb57485ae51cae44df5cef98fc2e039e533e2382461b0b759fe26e1386ab1dc"), looks := true }, kinds := [], alts := [], laidByText := true, laidKinds := [.handle], laidTests := true, laidLooks := .later }
def ClocksSameCardSaid : Prop := Claim7.holds Tryd.pinned (.plain (OpenSpec.ofChange clocksSameSpec)) clocksSameCard

/-- THE TIED CARD OF 'metronomelaw09.ClocksWhens'. -/
def clocksWhensCard : Claim7 := { stood := { row := clocksWhensRow, standIns := [], harness := (true, "7cb57485ae51cae44df5cef98fc2e039e533e2382461b0b759fe26e1386ab1dc"), looks := true }, kinds := [], alts := [], laidByText := true, laidKinds := [.handle], laidTests := true, laidLooks := .later }
def ClocksWhensCardSaid : Prop := Claim7.holds Tryd.pinned (.plain (OpenSpec.ofChange clocksWhensSpec)) clocksWhensCard

/-- THE SECOND FORM's CARD OF 'metronomelaw09.ClocksSame'. -/
def clocksSameUptoCard : Claim7 := { stood := { row := clocksSameUptoRow, standIns := [], harness := (true, "7cb57485ae51cae44df5cef98fc2e039e533e2382461b0b759fe26e1386ab1dc"), looks := true }, kinds := [], alts := [], laidByText := true, laidKinds := [.handle], laidTests := true, laidLooks := .later }
def ClocksSameUptoCardSaid : Prop := Claim7.holds Tryd.pinned (.plain (OpenSpec.upto clocksSameSpec)) clocksSameUptoCard

/-- THE SECOND FORM's CARD OF 'metronomelaw09.ClocksWhens'. -/
def clocksWhensUptoCard : Claim7 := { stood := { row := clocksWhensUptoRow, standIns := [], harness := (true, "7cb57485ae51cae44df5cef98fc2e039e533e2382461b0b759fe26e1386ab1dc"), looks := true }, kinds := [], alts := [], laidByText := true, laidKinds := [.handle], laidTests := true, laidLooks := .later }
def ClocksWhensUptoCardSaid : Prop := Claim7.holds Tryd.pinned (.plain (OpenSpec.upto clocksWhensSpec)) clocksWhensUptoCard
end Rows
end Go.Proofs.YtfmkicagpcmpnaaDoor
