/-
  DERIVED. GIVEN WITH THE SEED: THE CARDS: each row of YtdbieelknploaaaDoorRows.lean that lists a variable, with what it lists TIED to the program's text (the seventh form; the later family's looks); each row that meets fmt, with fmt's text TOLD by the authors' own Lean function (tested against real Go, not proved from fmt's source: count such statements apart). THE CARD IS WHAT COUNTS. Prove the row's statement (the work); the ties are given (YtdbieelknploaaaDoorTie.lean); close each card by the builder's one call (the guide's Derived/Test/ToyasCard.lean, 'card_holds'). Laid BY PROGRAM, IN A SANDBOX (cutbox-door.mjs). By AI agents, Wed Nov 11 2026. No macro, syntax, notation, axiom, sorry.
-/
import Derived.Test.YtdbieelknploaaaDoorRows
import GoSem.ClaimSeven
namespace Go.Proofs.YtdbieelknploaaaDoor
namespace Rows

/-- THE TIED CARD OF 'metronomelaw02.NumsWords'. -/
def numsWordsCard : Claim7 := { stood := { row := numsWordsRow, standIns := [], harness := (true, "7fc7b7575fe637f597c824d2fa2295a62fa6b9e03efb5f8b24ad75ab1613d4ce"), looks := false }, kinds := [], alts := [], laidByText := true, laidKinds := [.data], laidTests := true, laidLooks := .later }
def NumsWordsCardSaid : Prop := Claim7.holds Tryd.pinned (.plain (OpenSpec.ofChange numsWordsSpec)) numsWordsCard

/-- THE SECOND FORM's CARD OF 'metronomelaw02.NumsWords'. -/
def numsWordsUptoCard : Claim7 := { stood := { row := numsWordsUptoRow, standIns := [], harness := (true, "7fc7b7575fe637f597c824d2fa2295a62fa6b9e03efb5f8b24ad75ab1613d4ce"), looks := false }, kinds := [], alts := [], laidByText := true, laidKinds := [.data], laidTests := true, laidLooks := .later }
def NumsWordsUptoCardSaid : Prop := Claim7.holds Tryd.pinned (.plain (OpenSpec.upto numsWordsSpec)) numsWordsUptoCard
end Rows
end Go.Proofs.YtdbieelknploaaaDoor
