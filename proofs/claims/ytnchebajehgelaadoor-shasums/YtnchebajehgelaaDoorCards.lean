/-
  DERIVED. GIVEN WITH THE SEED: THE CARDS: each row of YtnchebajehgelaaDoorRows.lean that lists a variable, with what it lists TIED to the program's text (the seventh form; the later family's looks); each row that meets fmt, with fmt's text TOLD by the authors' own Lean function (tested against real Go, not proved from fmt's source: count such statements apart). THE CARD IS WHAT COUNTS. Prove the row's statement (the work); the ties are given (YtnchebajehgelaaDoorTie.lean); close each card by the builder's one call (the guide's Derived/Test/ToyasCard.lean, 'card_holds'). Laid BY PROGRAM, IN A SANDBOX (cutbox-door.mjs). By AI agents, Wed Nov 11 2026. No macro, syntax, notation, axiom, sorry.
-/
import Derived.Test.YtnchebajehgelaaDoorRows
import GoSem.ClaimSeven
namespace Go.Proofs.YtnchebajehgelaaDoor
namespace Rows

/-- THE TIED CARD OF 'syngraphlaw01.ShaSums'. -/
def shaSumsCard : Claim7 := { stood := { row := shaSumsRow, standIns := [], harness := (true, "37caede36c65fbac5a5943f24c12456ffbc443ab5f007992dce749ee91c36d57"), looks := false }, kinds := [], alts := [], laidByText := true, laidKinds := [.data], laidTests := true, laidLooks := .later }
def ShaSumsCardSaid : Prop := Claim7.holds Tryd.pinned (.plain (OpenSpec.ofChange shaSumsSpec)) shaSumsCard

/-- THE TIED CARD OF 'syngraphlaw01.ShaParts'. -/
def shaPartsCard : Claim7 := { stood := { row := shaPartsRow, standIns := [], harness := (true, "37caede36c65fbac5a5943f24c12456ffbc443ab5f007992dce749ee91c36d57"), looks := false }, kinds := [], alts := [], laidByText := true, laidKinds := [.data], laidTests := true, laidLooks := .later }
def ShaPartsCardSaid : Prop := Claim7.holds Tryd.pinned (.plain (OpenSpec.ofChange shaPartsSpec)) shaPartsCard

/-- THE TIED CARD OF 'syngraphlaw01.ShaCopies'. -/
def shaCopiesCard : Claim7 := { stood := { row := shaCopiesRow, standIns := [], harness := (true, "37caede36c65fbac5a5943f24c12456ffbc443ab5f007992dce749ee91c36d57"), looks := false }, kinds := [], alts := [], laidByText := true, laidKinds := [.data], laidTests := true, laidLooks := .later }
def ShaCopiesCardSaid : Prop := Claim7.holds Tryd.pinned (.plain (OpenSpec.ofChange shaCopiesSpec)) shaCopiesCard

/-- THE TIED CARD OF 'syngraphlaw01.ShaTexts'. -/
def shaTextsCard : Claim7 := { stood := { row := shaTextsRow, standIns := [], harness := (true, "37caede36c65fbac5a5943f24c12456ffbc443ab5f007992dce749ee91c36d57"), looks := false }, kinds := [], alts := [], laidByText := true, laidKinds := [.data], laidTests := true, laidLooks := .later }
def ShaTextsCardSaid : Prop := Claim7.holds Tryd.pinned (.plain (OpenSpec.ofChange shaTextsSpec)) shaTextsCard

/-- THE TIED CARD OF 'syngraphlaw01.ShaParses'. -/
def shaParsesCard : Claim7 := { stood := { row := shaParsesRow, standIns := [], harness := (true, "37caede36c65fbac5a5943f24c12456ffbc443ab5f007992dce749ee91c36d57"), looks := false }, kinds := [], alts := [], laidByText := true, laidKinds := [.data], laidTests := true, laidLooks := .later }
def ShaParsesCardSaid : Prop := Claim7.holds Tryd.pinned (.plain (OpenSpec.ofChange shaParsesSpec)) shaParsesCard

/-- THE TIED CARD OF 'syngraphlaw01.ShaOrders'. -/
def shaOrdersCard : Claim7 := { stood := { row := shaOrdersRow, standIns := [], harness := (true, "37caede36c65fbac5a5943f24c12456ffbc443ab5f007992dce749ee91c36d57"), looks := false }, kinds := [], alts := [], laidByText := true, laidKinds := [.data], laidTests := true, laidLooks := .later }
def ShaOrdersCardSaid : Prop := Claim7.holds Tryd.pinned (.plain (OpenSpec.ofChange shaOrdersSpec)) shaOrdersCard

/-- THE SECOND FORM's CARD OF 'syngraphlaw01.ShaSums'. -/
def shaSumsUptoCard : Claim7 := { stood := { row := shaSumsUptoRow, standIns := [], harness := (true, "37caede36c65fbac5a5943f24c12456ffbc443ab5f007992dce749ee91c36d57"), looks := false }, kinds := [], alts := [], laidByText := true, laidKinds := [.data], laidTests := true, laidLooks := .later }
def ShaSumsUptoCardSaid : Prop := Claim7.holds Tryd.pinned (.plain (OpenSpec.upto shaSumsSpec)) shaSumsUptoCard

/-- THE SECOND FORM's CARD OF 'syngraphlaw01.ShaParts'. -/
def shaPartsUptoCard : Claim7 := { stood := { row := shaPartsUptoRow, standIns := [], harness := (true, "37caede36c65fbac5a5943f24c12456ffbc443ab5f007992dce749ee91c36d57"), looks := false }, kinds := [], alts := [], laidByText := true, laidKinds := [.data], laidTests := true, laidLooks := .later }
def ShaPartsUptoCardSaid : Prop := Claim7.holds Tryd.pinned (.plain (OpenSpec.upto shaPartsSpec)) shaPartsUptoCard

/-- THE SECOND FORM's CARD OF 'syngraphlaw01.ShaCopies'. -/
def shaCopiesUptoCard : Claim7 := { stood := { row := shaCopiesUptoRow, standIns := [], harness := (true, "37caede36c65fbac5a5943f24c12456ffbc443ab5f007992dce749ee91c36d57"), looks := false }, kinds := [], alts := [], laidByText := true, laidKinds := [.data], laidTests := true, laidLooks := .later }
def ShaCopiesUptoCardSaid : Prop := Claim7.holds Tryd.pinned (.plain (OpenSpec.upto shaCopiesSpec)) shaCopiesUptoCard

/-- THE SECOND FORM's CARD OF 'syngraphlaw01.ShaTexts'. -/
def shaTextsUptoCard : Claim7 := { stood := { row := shaTextsUptoRow, standIns := [], harness := (true, "37caede36c65fbac5a5943f24c12456ffbc443ab5f007992dce749ee91c36d57"), looks := false }, kinds := [], alts := [], laidByText := true, laidKinds := [.data], laidTests := true, laidLooks := .later }
def ShaTextsUptoCardSaid : Prop := Claim7.holds Tryd.pinned (.plain (OpenSpec.upto shaTextsSpec)) shaTextsUptoCard

/-- THE SECOND FORM's CARD OF 'syngraphlaw01.ShaParses'. -/
def shaParsesUptoCard : Claim7 := { stood := { row := shaParsesUptoRow, standIns := [], harness := (true, "37caede36c65fbac5a5943f24c12456ffbc443ab5f007992dce749ee91c36d57"), looks := false }, kinds := [], alts := [], laidByText := true, laidKinds := [.data], laidTests := true, laidLooks := .later }
def ShaParsesUptoCardSaid : Prop := Claim7.holds Tryd.pinned (.plain (OpenSpec.upto shaParsesSpec)) shaParsesUptoCard

/-- THE SECOND FORM's CARD OF 'syngraphlaw01.ShaOrders'. -/
def shaOrdersUptoCard : Claim7 := { stood := { row := shaOrdersUptoRow, standIns := [], harness := (true, "37caede36c65fbac5a5943f24c12456ffbc443ab5f007992dce749ee91c36d57"), looks := false }, kinds := [], alts := [], laidByText := true, laidKinds := [.data], laidTests := true, laidLooks := .later }
def ShaOrdersUptoCardSaid : Prop := Claim7.holds Tryd.pinned (.plain (OpenSpec.upto shaOrdersSpec)) shaOrdersUptoCard
end Rows
end Go.Proofs.YtnchebajehgelaaDoor
