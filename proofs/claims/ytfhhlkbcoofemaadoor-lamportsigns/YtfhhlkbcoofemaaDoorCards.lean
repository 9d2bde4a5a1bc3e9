/-
  DERIVED. GIVEN WITH THE SEED: THE CARDS: each row of YtfhhlkbcoofemaaDoorRows.lean that lists a variable, with what it lists TIED to the program's text (the seventh form; the later family's looks); each row that meets fmt, with fmt's text TOLD by the authors' own Lean function (tested against real Go, not proved from fmt's source: count such statements apart). THE CARD IS WHAT COUNTS. Prove the row's statement (the work); the ties are given (YtfhhlkbcoofemaaDoorTie.lean); close each card by the builder's one call (the guide's Derived/Test/ToyasCard.lean, 'card_holds'). Laid BY PROGRAM, IN A SANDBOX (cutbox-door.mjs). By AI agents, Wed Nov 11 2026. No macro, syntax, notation, axiom, sorry.
-/
import Derived.Test.YtfhhlkbcoofemaaDoorRows
import GoSem.ClaimSeven
namespace Go.Proofs.YtfhhlkbcoofemaaDoor
namespace Rows

/-- THE TIED CARD OF 'syngraphlaw05.LamportSigns'. -/
def lamportSignsCard : Claim7 := { stood := { row := lamportSignsRow, standIns := [], harness := (true, "9276d9cf4dd3382ba35d0ed48e0fc22481ee9db25e736080d7cec49c0ab354f5"), looks := false }, kinds := [], alts := [], laidByText := true, laidKinds := [.data], laidTests := true, laidLooks := .later }
def LamportSignsCardSaid : Prop := Claim7.holds Tryd.pinned (.plain (OpenSpec.ofChange lamportSignsSpec)) lamportSignsCard

/-- THE TIED CARD OF 'syngraphlaw05.LamportRecovers'. -/
def lamportRecoversCard : Claim7 := { stood := { row := lamportRecoversRow, standIns := [], harness := (true, "9276d9cf4dd3382ba35d0ed48e0fc22481ee9db25e736080d7cec49c0ab354f5"), looks := false }, kinds := [], alts := [], laidByText := true, laidKinds := [.data], laidTests := true, laidLooks := .later }
def LamportRecoversCardSaid : Prop := Claim7.holds Tryd.pinned (.plain (OpenSpec.ofChange lamportRecoversSpec)) lamportRecoversCard

/-- THE TIED CARD OF 'syngraphlaw05.LamportOthers'. -/
def lamportOthersCard : Claim7 := { stood := { row := lamportOthersRow, standIns := [], harness := (true, "9276d9cf4dd3382ba35d0ed48e0fc22481ee9db25e736080d7cec49c0ab354f5"), looks := false }, kinds := [], alts := [], laidByText := true, laidKinds := [.data], laidTests := true, laidLooks := .later }
def LamportOthersCardSaid : Prop := Claim7.holds Tryd.pinned (.plain (OpenSpec.ofChange lamportOthersSpec)) lamportOthersCard

/-- THE SECOND FORM's CARD OF 'syngraphlaw05.LamportSigns'. -/
def lamportSignsUptoCard : Claim7 := { stood := { row := lamportSignsUptoRow, standIns := [], harness := (true, "9276d9cf4dd3382ba35d0ed48e0fc22481ee9db25e736080d7cec49c0ab354f5"), looks := false }, kinds := [], alts := [], laidByText := true, laidKinds := [.data], laidTests := true, laidLooks := .later }
def LamportSignsUptoCardSaid : Prop := Claim7.holds Tryd.pinned (.plain (OpenSpec.upto lamportSignsSpec)) lamportSignsUptoCard

/-- THE SECOND FORM's CARD OF 'syngraphlaw05.LamportRecovers'. -/
def lamportRecoversUptoCard : Claim7 := { stood := { row := lamportRecoversUptoRow, standIns := [], harness := (true, "9276d9cf4dd3382ba35d0ed48e0fc22481ee9db25e736080d7cec49c0ab354f5"), looks := false }, kinds := [], alts := [], laidByText := true, laidKinds := [.data], laidTests := true, laidLooks := .later }
def LamportRecoversUptoCardSaid : Prop := Claim7.holds Tryd.pinned (.plain (OpenSpec.upto lamportRecoversSpec)) lamportRecoversUptoCard

/-- THE SECOND FORM's CARD OF 'syngraphlaw05.LamportOthers'. -/
def lamportOthersUptoCard : Claim7 := { stood := { row := lamportOthersUptoRow, standIns := [], harness := (true, "9276d9cf4dd3382ba35d0ed48e0fc22481ee9db25e736080d7cec49c0ab354f5"), looks := false }, kinds := [], alts := [], laidByText := true, laidKinds := [.data], laidTests := true, laidLooks := .later }
def LamportOthersUptoCardSaid : Prop := Claim7.holds Tryd.pinned (.plain (OpenSpec.upto lamportOthersSpec)) lamportOthersUptoCard
end Rows
end Go.Proofs.YtfhhlkbcoofemaaDoor
