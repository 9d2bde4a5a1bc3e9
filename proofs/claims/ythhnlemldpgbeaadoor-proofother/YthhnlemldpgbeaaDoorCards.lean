/-
  DERIVED. GIVEN WITH THE SEED: THE CARDS: each row of YthhnlemldpgbeaaDoorRows.lean that lists a variable, with what it lists TIED to the program's text (the seventh form; the later family's looks); each row that meets fmt, with fmt's text TOLD by the authors' own Lean function (tested against real Go, not proved from fmt's source: count such statements apart). THE CARD IS WHAT COUNTS. Prove the row's statement (the work); the ties are given (YthhnlemldpgbeaaDoorTie.lean); close each card by the builder's one call (the guide's Derived/Test/ToyasCard.lean, 'card_holds'). Laid BY PROGRAM, IN A SANDBOX (cutbox-door.mjs). By AI agents, Wed Nov 11 2026. No macro, syntax, notation, axiom, sorry.
-/
import Derived.Test.YthhnlemldpgbeaaDoorRows
import GoSem.ClaimSeven
namespace Go.Proofs.YthhnlemldpgbeaaDoor
namespace Rows

/-- THE TIED CARD OF 'syngraphlaw08.ProofLeads'. -/
def proofLeadsCard : Claim7 := { stood := { row := proofLeadsRow, standIns := [], harness := (true, "33ca28fcc1ea29b5ac9c8972964513caec2777a08de8bb106f0d691773ee04a6"), looks := false }, kinds := [], alts := [], laidByText := true, laidKinds := [.data], laidTests := true, laidLooks := .later }
def ProofLeadsCardSaid : Prop := Claim7.holds Tryd.pinned (.plain (OpenSpec.ofChange proofLeadsSpec)) proofLeadsCard

/-- THE TIED CARD OF 'syngraphlaw08.ProofBoth'. -/
def proofBothCard : Claim7 := { stood := { row := proofBothRow, standIns := [], harness := (true, "33ca28fcc1ea29b5ac9c8972964513caec2777a08de8bb106f0d691773ee04a6"), looks := false }, kinds := [], alts := [], laidByText := true, laidKinds := [.data], laidTests := true, laidLooks := .later }
def ProofBothCardSaid : Prop := Claim7.holds Tryd.pinned (.plain (OpenSpec.ofChange proofBothSpec)) proofBothCard

/-- THE TIED CARD OF 'syngraphlaw08.ProofRight'. -/
def proofRightCard : Claim7 := { stood := { row := proofRightRow, standIns := [], harness := (true, "33ca28fcc1ea29b5ac9c8972964513caec2777a08de8bb106f0d691773ee04a6"), looks := false }, kinds := [], alts := [], laidByText := true, laidKinds := [.data], laidTests := true, laidLooks := .later }
def ProofRightCardSaid : Prop := Claim7.holds Tryd.pinned (.plain (OpenSpec.ofChange proofRightSpec)) proofRightCard

/-- THE TIED CARD OF 'syngraphlaw08.ProofOther'. -/
def proofOtherCard : Claim7 := { stood := { row := proofOtherRow, standIns := [], harness := (true, "33ca28fcc1ea29b5ac9c8972964513caec2777a08de8bb106f0d691773ee04a6"), looks := false }, kinds := [], alts := [], laidByText := true, laidKinds := [.data], laidTests := true, laidLooks := .later }
def ProofOtherCardSaid : Prop := Claim7.holds Tryd.pinned (.plain (OpenSpec.ofChange proofOtherSpec)) proofOtherCard

/-- THE TIED CARD OF 'syngraphlaw08.ProofGrows'. -/
def proofGrowsCard : Claim7 := { stood := { row := proofGrowsRow, standIns := [], harness := (true, "33ca28fcc1ea29b5ac9c8972964513caec2777a08de8bb106f0d691773ee04a6"), looks := false }, kinds := [], alts := [], laidByText := true, laidKinds := [.data], laidTests := true, laidLooks := .later }
def ProofGrowsCardSaid : Prop := Claim7.holds Tryd.pinned (.plain (OpenSpec.ofChange proofGrowsSpec)) proofGrowsCard

/-- THE SECOND FORM's CARD OF 'syngraphlaw08.ProofLeads'. -/
def proofLeadsUptoCard : Claim7 := { stood := { row := proofLeadsUptoRow, standIns := [], harness := (true, "33ca28fcc1ea29b5ac9c8972964513caec2777a08de8bb106f0d691773ee04a6"), looks := false }, kinds := [], alts := [], laidByText := true, laidKinds := [.data], laidTests := true, laidLooks := .later }
def ProofLeadsUptoCardSaid : Prop := Claim7.holds Tryd.pinned (.plain (OpenSpec.upto proofLeadsSpec)) proofLeadsUptoCard

/-- THE SECOND FORM's CARD OF 'syngraphlaw08.ProofBoth'. -/
def proofBothUptoCard : Claim7 := { stood := { row := proofBothUptoRow, standIns := [], harness := (true, "33ca28fcc1ea29b5ac9c8972964513caec2777a08de8bb106f0d691773ee04a6"), looks := false }, kinds := [], alts := [], laidByText := true, laidKinds := [.data], laidTests := true, laidLooks := .later }
def ProofBothUptoCardSaid : Prop := Claim7.holds Tryd.pinned (.plain (OpenSpec.upto proofBothSpec)) proofBothUptoCard

/-- THE SECOND FORM's CARD OF 'syngraphlaw08.ProofRight'. -/
def proofRightUptoCard : Claim7 := { stood := { row := proofRightUptoRow, standIns := [], harness := (true, "33ca28fcc1ea29b5ac9c8972964513caec2777a08de8bb106f0d691773ee04a6"), looks := false }, kinds := [], alts := [], laidByText := true, laidKinds := [.data], laidTests := true, laidLooks := .later }
def ProofRightUptoCardSaid : Prop := Claim7.holds Tryd.pinned (.plain (OpenSpec.upto proofRightSpec)) proofRightUptoCard

/-- THE SECOND FORM's CARD OF 'syngraphlaw08.ProofOther'. -/
def proofOtherUptoCard : Claim7 := { stood := { row := proofOtherUptoRow, standIns := [], harness := (true, "33ca28fcc1ea29b5ac9c8972964513caec2777a08de8bb106f0d691773ee04a6"), looks := false }, kinds := [], alts := [], laidByText := true, laidKinds := [.data], laidTests := true, laidLooks := .later }
def ProofOtherUptoCardSaid : Prop := Claim7.holds Tryd.pinned (.plain (OpenSpec.upto proofOtherSpec)) proofOtherUptoCard

/-- THE SECOND FORM's CARD OF 'syngraphlaw08.ProofGrows'. -/
def proofGrowsUptoCard : Claim7 := { stood := { row := proofGrowsUptoRow, standIns := [], harness := (true, "33ca28fcc1ea29b5ac9c8972964513caec2777a08de8bb106f0d691773ee04a6"), looks := false }, kinds := [], alts := [], laidByText := true, laidKinds := [.data], laidTests := true, laidLooks := .later }
def ProofGrowsUptoCardSaid : Prop := Claim7.holds Tryd.pinned (.plain (OpenSpec.upto proofGrowsSpec)) proofGrowsUptoCard
end Rows
end Go.Proofs.YthhnlemldpgbeaaDoor
