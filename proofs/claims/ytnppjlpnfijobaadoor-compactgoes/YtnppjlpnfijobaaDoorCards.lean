/-
  DERIVED. GIVEN WITH THE SEED: THE CARDS: each row of YtnppjlpnfijobaaDoorRows.lean that lists a variable, with what it lists TIED to the program's text (the seventh form; the later family's looks); each row that meets fmt, with fmt's text TOLD by the authors' own Lean function (tested against real Go, not proved from fmt's source: count such statements apart). THE CARD IS WHAT COUNTS. Prove the row's statement (the work); the ties are given (YtnppjlpnfijobaaDoorTie.lean); close each card by the builder's one call (the guide's Derived/Test/ToyasCard.lean, 'card_holds'). Laid BY PROGRAM, IN A SANDBOX (cutbox-door.mjs). By AI agents, Wed Nov 11 2026. No macro, syntax, notation, axiom, sorry.
-/
import Derived.Test.YtnppjlpnfijobaaDoorRows
import GoSem.ClaimSeven
namespace Go.Proofs.YtnppjlpnfijobaaDoor
namespace Rows

/-- THE TIED CARD OF 'syngraphlaw09.CompactGrows'. -/
def compactGrowsCard : Claim7 := { stood := { row := compactGrowsRow, standIns := [], harness := (true, "13e7176ff9ea865f5bb72421d870ca16f0288449a633f90bb58ddaf593055b12"), looks := false }, kinds := [], alts := [], laidByText := true, laidKinds := [.data, .data, .data], laidTests := true, laidLooks := .later }
def CompactGrowsCardSaid : Prop := Claim7.holds Tryd.pinned (.plain (OpenSpec.ofChange compactGrowsSpec)) compactGrowsCard

/-- THE TIED CARD OF 'syngraphlaw09.CompactParses'. -/
def compactParsesCard : Claim7 := { stood := { row := compactParsesRow, standIns := [], harness := (true, "13e7176ff9ea865f5bb72421d870ca16f0288449a633f90bb58ddaf593055b12"), looks := false }, kinds := [], alts := [], laidByText := true, laidKinds := [.data, .data, .data], laidTests := true, laidLooks := .later }
def CompactParsesCardSaid : Prop := Claim7.holds Tryd.pinned (.plain (OpenSpec.ofChange compactParsesSpec)) compactParsesCard

/-- THE TIED CARD OF 'syngraphlaw09.CompactGoes'. -/
def compactGoesCard : Claim7 := { stood := { row := compactGoesRow, standIns := [], harness := (true, "13e7176ff9ea865f5bb72421d870ca16f0288449a633f90bb58ddaf593055b12"), looks := false }, kinds := [], alts := [], laidByText := true, laidKinds := [.data, .data, .data], laidTests := true, laidLooks := .later }
def CompactGoesCardSaid : Prop := Claim7.holds Tryd.pinned (.plain (OpenSpec.ofChange compactGoesSpec)) compactGoesCard

/-- THE TIED CARD OF 'syngraphlaw09.CompactFull'. -/
def compactFullCard : Claim7 := { stood := { row := compactFullRow, standIns := [], harness := (true, "13e7176ff9ea865f5bb72421d870ca16f0288449a633f90bb58ddaf593055b12"), looks := false }, kinds := [], alts := [], laidByText := true, laidKinds := [.data, .data, .data], laidTests := true, laidLooks := .later }
def CompactFullCardSaid : Prop := Claim7.holds Tryd.pinned (.plain (OpenSpec.ofChange compactFullSpec)) compactFullCard

/-- THE SECOND FORM's CARD OF 'syngraphlaw09.CompactGrows'. -/
def compactGrowsUptoCard : Claim7 := { stood := { row := compactGrowsUptoRow, standIns := [], harness := (true, "13e7176ff9ea865f5bb72421d870ca16f0288449a633f90bb58ddaf593055b12"), looks := false }, kinds := [], alts := [], laidByText := true, laidKinds := [.data, .data, .data], laidTests := true, laidLooks := .later }
def CompactGrowsUptoCardSaid : Prop := Claim7.holds Tryd.pinned (.plain (OpenSpec.upto compactGrowsSpec)) compactGrowsUptoCard

/-- THE SECOND FORM's CARD OF 'syngraphlaw09.CompactParses'. -/
def compactParsesUptoCard : Claim7 := { stood := { row := compactParsesUptoRow, standIns := [], harness := (true, "13e7176ff9ea865f5bb72421d870ca16f0288449a633f90bb58ddaf593055b12"), looks := false }, kinds := [], alts := [], laidByText := true, laidKinds := [.data, .data, .data], laidTests := true, laidLooks := .later }
def CompactParsesUptoCardSaid : Prop := Claim7.holds Tryd.pinned (.plain (OpenSpec.upto compactParsesSpec)) compactParsesUptoCard

/-- THE SECOND FORM's CARD OF 'syngraphlaw09.CompactGoes'. -/
def compactGoesUptoCard : Claim7 := { stood := { row := compactGoesUptoRow, standIns := [], harness := (true, "13e7176ff9ea865f5bb72421d870ca16f0288449a633f90bb58ddaf593055b12"), looks := false }, kinds := [], alts := [], laidByText := true, laidKinds := [.data, .data, .data], laidTests := true, laidLooks := .later }
def CompactGoesUptoCardSaid : Prop := Claim7.holds Tryd.pinned (.plain (OpenSpec.upto compactGoesSpec)) compactGoesUptoCard

/-- THE SECOND FORM's CARD OF 'syngraphlaw09.CompactFull'. -/
def compactFullUptoCard : Claim7 := { stood := { row := compactFullUptoRow, standIns := [], harness := (true, "13e7176ff9ea865f5bb72421d870ca16f0288449a633f90bb58ddaf593055b12"), looks := false }, kinds := [], alts := [], laidByText := true, laidKinds := [.data, .data, .data], laidTests := true, laidLooks := .later }
def CompactFullUptoCardSaid : Prop := Claim7.holds Tryd.pinned (.plain (OpenSpec.upto compactFullSpec)) compactFullUptoCard
end Rows
end Go.Proofs.YtnppjlpnfijobaaDoor
