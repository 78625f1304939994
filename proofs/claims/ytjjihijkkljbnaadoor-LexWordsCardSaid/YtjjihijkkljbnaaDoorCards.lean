/-
  DERIVED. GIVEN WITH THE SEED: THE CARDS: each row of YtjjihijkkljbnaaDoorRows.lean that lists a variable, with what it lists TIED to the program's text (the seventh form; the later family's looks); each row that meets fmt, with fmt's text TOLD by the authors' own Lean function (tested against real Go, not proved from fmt's source: count such statements apart). THE CARD IS WHAT COUNTS. Prove the row's statement (the work); the ties are given (YtjjihijkkljbnaaDoorTie.lean); close each card by the builder's one call (the guide's Derived/Test/ToyasCard.lean, 'card_holds'). Laid BY PROGRAM, IN A SANDBOX (cutbox-door.mjs). By AI agents, Wed Nov 11 2026. No macro, syntax, notation, axiom, sorry.
-/
import Derived.Test.YtjjihijkkljbnaaDoorRows
import GoSem.ClaimSeven
namespace Go.Proofs.YtjjihijkkljbnaaDoor
namespace Rows

/-- THE TIED CARD OF 'metronomelaw01.FaultsPlain'. -/
def faultsPlainCard : Claim7 := { stood := { row := faultsPlainRow, standIns := [], harness := (true, "7c973fc4a17ece96b1331a3e81967f154e212f66897c70732b4df2c1d12ff7d4"), looks := true }, kinds := [], alts := [], laidByText := true, laidKinds := [.handle], laidTests := true, laidLooks := .later }
def FaultsPlainCardSaid : Prop := Claim7.holds Tryd.pinned (.plain (OpenSpec.ofChange faultsPlainSpec)) faultsPlainCard

/-- THE TIED CARD OF 'metronomelaw01.FaultsNone'. -/
def faultsNoneCard : Claim7 := { stood := { row := faultsNoneRow, standIns := [], harness := (true, "7c973fc4a17ece96b1331a3e81967f154e212f66897c70732b4df2c1d12ff7d4"), looks := true }, kinds := [], alts := [], laidByText := true, laidKinds := [.data, .data, .data, .handle], laidTests := true, laidLooks := .later }
def FaultsNoneCardSaid : Prop := Claim7.holds Tryd.pinned (.plain (OpenSpec.ofChange faultsNoneSpec)) faultsNoneCard

/-- THE TIED CARD OF 'metronomelaw01.FaultsFirst'. -/
def faultsFirstCard : Claim7 := { stood := { row := faultsFirstRow, standIns := [], harness := (true, "7c973fc4a17ece96b1331a3e81967f154e212f66897c70732b4df2c1d12ff7d4"), looks := true }, kinds := [], alts := [], laidByText := true, laidKinds := [.handle], laidTests := true, laidLooks := .later }
def FaultsFirstCardSaid : Prop := Claim7.holds Tryd.pinned (.plain (OpenSpec.ofChange faultsFirstSpec)) faultsFirstCard

/-- THE TIED CARD OF 'metronomelaw01.FaultsOdd'. -/
def faultsOddCard : Claim7 := { stood := { row := faultsOddRow, standIns := [], harness := (true, "7c973fc4a17ece96b1331a3e81967f154e212f66897c70732b4df2c1d12ff7d4"), looks := true }, kinds := [], alts := [], laidByText := true, laidKinds := [.handle], laidTests := true, laidLooks := .later }
def FaultsOddCardSaid : Prop := Claim7.holds Tryd.pinned (.plain (OpenSpec.ofChange faultsOddSpec)) faultsOddCard

/-- THE TIED CARD OF 'metronomelaw03.LexWords'. -/
def lexWordsCard : Claim7 := { stood := { row := lexWordsRow, standIns := [], harness := (true, "7c973fc4a17ece96b1331a3e81967f154e212f66897c70732b4df2c1d12ff7d4"), looks := true }, kinds := [], alts := [], laidByText := true, laidKinds := [.handle, .data], laidTests := true, laidLooks := .later }
def LexWordsCardSaid : Prop := Claim7.holds Tryd.pinned (.plain (OpenSpec.ofChange lexWordsSpec)) lexWordsCard

/-- THE TIED CARD OF 'metronomelaw03.LexNumbers'. -/
def lexNumbersCard : Claim7 := { stood := { row := lexNumbersRow, standIns := [], harness := (true, "7c973fc4a17ece96b1331a3e81967f154e212f66897c70732b4df2c1d12ff7d4"), looks := true }, kinds := [], alts := [], laidByText := true, laidKinds := [.handle, .data], laidTests := true, laidLooks := .later }
def LexNumbersCardSaid : Prop := Claim7.holds Tryd.pinned (.plain (OpenSpec.ofChange lexNumbersSpec)) lexNumbersCard

/-- THE TIED CARD OF 'metronomelaw03.LexLimits'. -/
def lexLimitsCard : Claim7 := { stood := { row := lexLimitsRow, standIns := [], harness := (true, "7c973fc4a17ece96b1331a3e81967f154e212f66897c70732b4df2c1d12ff7d4"), looks := true }, kinds := [], alts := [], laidByText := true, laidKinds := [.handle, .data], laidTests := true, laidLooks := .later }
def LexLimitsCardSaid : Prop := Claim7.holds Tryd.pinned (.plain (OpenSpec.ofChange lexLimitsSpec)) lexLimitsCard

/-- THE TIED CARD OF 'metronomelaw03.LexCuts'. -/
def lexCutsCard : Claim7 := { stood := { row := lexCutsRow, standIns := [], harness := (true, "7c973fc4a17ece96b1331a3e81967f154e212f66897c70732b4df2c1d12ff7d4"), looks := true }, kinds := [], alts := [], laidByText := true, laidKinds := [.handle, .data], laidTests := true, laidLooks := .later }
def LexCutsCardSaid : Prop := Claim7.holds Tryd.pinned (.plain (OpenSpec.ofChange lexCutsSpec)) lexCutsCard

/-- THE SECOND FORM's CARD OF 'metronomelaw01.FaultsPlain'. -/
def faultsPlainUptoCard : Claim7 := { stood := { row := faultsPlainUptoRow, standIns := [], harness := (true, "7c973fc4a17ece96b1331a3e81967f154e212f66897c70732b4df2c1d12ff7d4"), looks := true }, kinds := [], alts := [], laidByText := true, laidKinds := [.handle], laidTests := true, laidLooks := .later }
def FaultsPlainUptoCardSaid : Prop := Claim7.holds Tryd.pinned (.plain (OpenSpec.upto faultsPlainSpec)) faultsPlainUptoCard

/-- THE SECOND FORM's CARD OF 'metronomelaw01.FaultsNone'. -/
def faultsNoneUptoCard : Claim7 := { stood := { row := faultsNoneUptoRow, standIns := [], harness := (true, "7c973fc4a17ece96b1331a3e81967f154e212f66897c70732b4df2c1d12ff7d4"), looks := true }, kinds := [], alts := [], laidByText := true, laidKinds := [.data, .data, .data, .handle], laidTests := true, laidLooks := .later }
def FaultsNoneUptoCardSaid : Prop := Claim7.holds Tryd.pinned (.plain (OpenSpec.upto faultsNoneSpec)) faultsNoneUptoCard

/-- THE SECOND FORM's CARD OF 'metronomelaw01.FaultsFirst'. -/
def faultsFirstUptoCard : Claim7 := { stood := { row := faultsFirstUptoRow, standIns := [], harness := (true, "7c973fc4a17ece96b1331a3e81967f154e212f66897c70732b4df2c1d12ff7d4"), looks := true }, kinds := [], alts := [], laidByText := true, laidKinds := [.handle], laidTests := true, laidLooks := .later }
def FaultsFirstUptoCardSaid : Prop := Claim7.holds Tryd.pinned (.plain (OpenSpec.upto faultsFirstSpec)) faultsFirstUptoCard

/-- THE SECOND FORM's CARD OF 'metronomelaw01.FaultsOdd'. -/
def faultsOddUptoCard : Claim7 := { stood := { row := faultsOddUptoRow, standIns := [], harness := (true, "7c973fc4a17ece96b1331a3e81967f154e212f66897c70732b4df2c1d12ff7d4"), looks := true }, kinds := [], alts := [], laidByText := true, laidKinds := [.handle], laidTests := true, laidLooks := .later }
def FaultsOddUptoCardSaid : Prop := Claim7.holds Tryd.pinned (.plain (OpenSpec.upto faultsOddSpec)) faultsOddUptoCard

/-- THE SECOND FORM's CARD OF 'metronomelaw03.LexWords'. -/
def lexWordsUptoCard : Claim7 := { stood := { row := lexWordsUptoRow, standIns := [], harness := (true, "7c973fc4a17ece96b1331a3e81967f154e212f66897c70732b4df2c1d12ff7d4"), looks := true }, kinds := [], alts := [], laidByText := true, laidKinds := [.handle, .data], laidTests := true, laidLooks := .later }
def LexWordsUptoCardSaid : Prop := Claim7.holds Tryd.pinned (.plain (OpenSpec.upto lexWordsSpec)) lexWordsUptoCard

/-- THE SECOND FORM's CARD OF 'metronomelaw03.LexNumbers'. -/
def lexNumbersUptoCard : Claim7 := { stood := { row := lexNumbersUptoRow, standIns := [], harness := (true, "7c973fc4a17ece96b1331a3e81967f154e212f66897c70732b4df2c1d12ff7d4"), looks := true }, kinds := [], alts := [], laidByText := true, laidKinds := [.handle, .data], laidTests := true, laidLooks := .later }
def LexNumbersUptoCardSaid : Prop := Claim7.holds Tryd.pinned (.plain (OpenSpec.upto lexNumbersSpec)) lexNumbersUptoCard

/-- THE SECOND FORM's CARD OF 'metronomelaw03.LexLimits'. -/
def lexLimitsUptoCard : Claim7 := { stood := { row := lexLimitsUptoRow, standIns := [], harness := (true, "7c973fc4a17ece96b1331a3e81967f154e212f66897c70732b4df2c1d12ff7d4"), looks := true }, kinds := [], alts := [], laidByText := true, laidKinds := [.handle, .data], laidTests := true, laidLooks := .later }
def LexLimitsUptoCardSaid : Prop := Claim7.holds Tryd.pinned (.plain (OpenSpec.upto lexLimitsSpec)) lexLimitsUptoCard

/-- THE SECOND FORM's CARD OF 'metronomelaw03.LexCuts'. -/
def lexCutsUptoCard : Claim7 := { stood := { row := lexCutsUptoRow, standIns := [], harness := (true, "7c973fc4a17ece96b1331a3e81967f154e212f66897c70732b4df2c1d12ff7d4"), looks := true }, kinds := [], alts := [], laidByText := true, laidKinds := [.handle, .data], laidTests := true, laidLooks := .later }
def LexCutsUptoCardSaid : Prop := Claim7.holds Tryd.pinned (.plain (OpenSpec.upto lexCutsSpec)) lexCutsUptoCard
end Rows
end Go.Proofs.YtjjihijkkljbnaaDoor
