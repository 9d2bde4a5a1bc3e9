/-
  DERIVED. GIVEN WITH THE SEED: THE CARDS: each row of YtnanipeapjpkfaaDoorRows.lean that lists a variable, with what it lists TIED to the program's text (the seventh form; the later family's looks); each row that meets fmt, with fmt's text TOLD by the authors' own Lean function (tested against real Go, not proved from fmt's source: count such statements apart). THE CARD IS WHAT COUNTS. Prove the row's statement (the work); the ties are given (YtnanipeapjpkfaaDoorTie.lean); close each card by the builder's one call (the guide's Derived/Test/ToyasCard.lean, 'card_holds'). Laid BY PROGRAM, IN A SANDBOX (cutbox-door.mjs). By AI agents, Wed Nov 11 2026. No macro, syntax, notation, axiom, sorry.
-/
import Derived.Test.YtnanipeapjpkfaaDoorRows
import GoSem.ClaimSeven
namespace Go.Proofs.YtnanipeapjpkfaaDoor
namespace Rows

/-- THE TIED CARD OF 'syngraphlaw06.MssSigns'. -/
def mssSignsCard : Claim7 := { stood := { row := mssSignsRow, standIns := [], harness := (true, "7e7a725fe1177b06327bbd27bca3d7a723654011b0af8156bb9e9132bac54810"), looks := false }, kinds := [], alts := [], laidByText := true, laidKinds := [.data], laidTests := true, laidLooks := .later }
def MssSignsCardSaid : Prop := Claim7.holds Tryd.pinned (.plain (OpenSpec.ofChange mssSignsSpec)) mssSignsCard

/-- THE TIED CARD OF 'syngraphlaw06.MssVerifies'. -/
def mssVerifiesCard : Claim7 := { stood := { row := mssVerifiesRow, standIns := [], harness := (true, "7e7a725fe1177b06327bbd27bca3d7a723654011b0af8156bb9e9132bac54810"), looks := false }, kinds := [], alts := [], laidByText := true, laidKinds := [.data], laidTests := true, laidLooks := .later }
def MssVerifiesCardSaid : Prop := Claim7.holds Tryd.pinned (.plain (OpenSpec.ofChange mssVerifiesSpec)) mssVerifiesCard

/-- THE TIED CARD OF 'syngraphlaw06.MssBytes'. -/
def mssBytesCard : Claim7 := { stood := { row := mssBytesRow, standIns := [], harness := (true, "7e7a725fe1177b06327bbd27bca3d7a723654011b0af8156bb9e9132bac54810"), looks := false }, kinds := [], alts := [], laidByText := true, laidKinds := [.data], laidTests := true, laidLooks := .later }
def MssBytesCardSaid : Prop := Claim7.holds Tryd.pinned (.plain (OpenSpec.ofChange mssBytesSpec)) mssBytesCard

/-- THE TIED CARD OF 'syngraphlaw06.MssParses'. -/
def mssParsesCard : Claim7 := { stood := { row := mssParsesRow, standIns := [], harness := (true, "7e7a725fe1177b06327bbd27bca3d7a723654011b0af8156bb9e9132bac54810"), looks := false }, kinds := [], alts := [], laidByText := true, laidKinds := [.data], laidTests := true, laidLooks := .later }
def MssParsesCardSaid : Prop := Claim7.holds Tryd.pinned (.plain (OpenSpec.ofChange mssParsesSpec)) mssParsesCard

/-- THE TIED CARD OF 'syngraphlaw06.MssOnce'. -/
def mssOnceCard : Claim7 := { stood := { row := mssOnceRow, standIns := [], harness := (true, "7e7a725fe1177b06327bbd27bca3d7a723654011b0af8156bb9e9132bac54810"), looks := false }, kinds := [], alts := [], laidByText := true, laidKinds := [.data], laidTests := true, laidLooks := .later }
def MssOnceCardSaid : Prop := Claim7.holds Tryd.pinned (.plain (OpenSpec.ofChange mssOnceSpec)) mssOnceCard

/-- THE SECOND FORM's CARD OF 'syngraphlaw06.MssSigns'. -/
def mssSignsUptoCard : Claim7 := { stood := { row := mssSignsUptoRow, standIns := [], harness := (true, "7e7a725fe1177b06327bbd27bca3d7a723654011b0af8156bb9e9132bac54810"), looks := false }, kinds := [], alts := [], laidByText := true, laidKinds := [.data], laidTests := true, laidLooks := .later }
def MssSignsUptoCardSaid : Prop := Claim7.holds Tryd.pinned (.plain (OpenSpec.upto mssSignsSpec)) mssSignsUptoCard

/-- THE SECOND FORM's CARD OF 'syngraphlaw06.MssVerifies'. -/
def mssVerifiesUptoCard : Claim7 := { stood := { row := mssVerifiesUptoRow, standIns := [], harness := (true, "7e7a725fe1177b06327bbd27bca3d7a723654011b0af8156bb9e9132bac54810"), looks := false }, kinds := [], alts := [], laidByText := true, laidKinds := [.data], laidTests := true, laidLooks := .later }
def MssVerifiesUptoCardSaid : Prop := Claim7.holds Tryd.pinned (.plain (OpenSpec.upto mssVerifiesSpec)) mssVerifiesUptoCard

/-- THE SECOND FORM's CARD OF 'syngraphlaw06.MssBytes'. -/
def mssBytesUptoCard : Claim7 := { stood := { row := mssBytesUptoRow, standIns := [], harness := (true, "7e7a725fe1177b06327bbd27bca3d7a723654011b0af8156bb9e9132bac54810"), looks := false }, kinds := [], alts := [], laidByText := true, laidKinds := [.data], laidTests := true, laidLooks := .later }
def MssBytesUptoCardSaid : Prop := Claim7.holds Tryd.pinned (.plain (OpenSpec.upto mssBytesSpec)) mssBytesUptoCard

/-- THE SECOND FORM's CARD OF 'syngraphlaw06.MssParses'. -/
def mssParsesUptoCard : Claim7 := { stood := { row := mssParsesUptoRow, standIns := [], harness := (true, "7e7a725fe1177b06327bbd27bca3d7a723654011b0af8156bb9e9132bac54810"), looks := false }, kinds := [], alts := [], laidByText := true, laidKinds := [.data], laidTests := true, laidLooks := .later }
def MssParsesUptoCardSaid : Prop := Claim7.holds Tryd.pinned (.plain (OpenSpec.upto mssParsesSpec)) mssParsesUptoCard

/-- THE SECOND FORM's CARD OF 'syngraphlaw06.MssOnce'. -/
def mssOnceUptoCard : Claim7 := { stood := { row := mssOnceUptoRow, standIns := [], harness := (true, "7e7a725fe1177b06327bbd27bca3d7a723654011b0af8156bb9e9132bac54810"), looks := false }, kinds := [], alts := [], laidByText := true, laidKinds := [.data], laidTests := true, laidLooks := .later }
def MssOnceUptoCardSaid : Prop := Claim7.holds Tryd.pinned (.plain (OpenSpec.upto mssOnceSpec)) mssOnceUptoCard
end Rows
end Go.Proofs.YtnanipeapjpkfaaDoor
