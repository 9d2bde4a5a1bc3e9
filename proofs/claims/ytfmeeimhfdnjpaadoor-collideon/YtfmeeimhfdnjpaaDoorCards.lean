/-
  DERIVED. GIVEN WITH THE SEED: THE CARDS: each row of YtfmeeimhfdnjpaaDoorRows.lean that lists a variable, with what it lists TIED to the program's text (the seventh form; the later family's looks); each row that meets fmt, with fmt's text TOLD by the authors' own Lean function (tested against real Go, not proved from fmt's source: count such statements apart). THE CARD IS WHAT COUNTS. Prove the row's statement (the work); the ties are given (YtfmeeimhfdnjpaaDoorTie.lean); close each card by the builder's one call (the guide's Derived/Test/ToyasCard.lean, 'card_holds'). Laid BY PROGRAM, IN A SANDBOX (cutbox-door.mjs). By AI agents, Wed Nov 11 2026. No macro, syntax, notation, axiom, sorry.
-/
import Derived.Test.YtfmeeimhfdnjpaaDoorRows
import GoSem.ClaimSeven
namespace Go.Proofs.YtfmeeimhfdnjpaaDoor
namespace Rows

/-- THE TIED CARD OF 'syngraphlaw10.CollideRight'. -/
def collideRightCard : Claim7 := { stood := { row := collideRightRow, standIns := [], harness := (true, "3c76e53fccbd76e4964bb77c9794fb408083b71d33229a838e5adfc28255cd87"), looks := false }, kinds := [], alts := [], laidByText := true, laidKinds := [.data], laidTests := true, laidLooks := .later }
def CollideRightCardSaid : Prop := Claim7.holds Tryd.pinned (.plain (OpenSpec.ofChange collideRightSpec)) collideRightCard

/-- THE TIED CARD OF 'syngraphlaw10.CollideLists'. -/
def collideListsCard : Claim7 := { stood := { row := collideListsRow, standIns := [], harness := (true, "3c76e53fccbd76e4964bb77c9794fb408083b71d33229a838e5adfc28255cd87"), looks := false }, kinds := [], alts := [], laidByText := true, laidKinds := [.data], laidTests := true, laidLooks := .later }
def CollideListsCardSaid : Prop := Claim7.holds Tryd.pinned (.plain (OpenSpec.ofChange collideListsSpec)) collideListsCard

/-- THE TIED CARD OF 'syngraphlaw10.CollideIn'. -/
def collideInCard : Claim7 := { stood := { row := collideInRow, standIns := [], harness := (true, "3c76e53fccbd76e4964bb77c9794fb408083b71d33229a838e5adfc28255cd87"), looks := false }, kinds := [], alts := [], laidByText := true, laidKinds := [.data], laidTests := true, laidLooks := .later }
def CollideInCardSaid : Prop := Claim7.holds Tryd.pinned (.plain (OpenSpec.ofChange collideInSpec)) collideInCard

/-- THE TIED CARD OF 'syngraphlaw10.CollideOn'. -/
def collideOnCard : Claim7 := { stood := { row := collideOnRow, standIns := [], harness := (true, "3c76e53fccbd76e4964bb77c9794fb408083b71d33229a838e5adfc28255cd87"), looks := false }, kinds := [], alts := [], laidByText := true, laidKinds := [.data], laidTests := true, laidLooks := .later }
def CollideOnCardSaid : Prop := Claim7.holds Tryd.pinned (.plain (OpenSpec.ofChange collideOnSpec)) collideOnCard

/-- THE TIED CARD OF 'syngraphlaw10.CollideTrue'. -/
def collideTrueCard : Claim7 := { stood := { row := collideTrueRow, standIns := [], harness := (true, "3c76e53fccbd76e4964bb77c9794fb408083b71d33229a838e5adfc28255cd87"), looks := false }, kinds := [], alts := [], laidByText := true, laidKinds := [.data], laidTests := true, laidLooks := .later }
def CollideTrueCardSaid : Prop := Claim7.holds Tryd.pinned (.plain (OpenSpec.ofChange collideTrueSpec)) collideTrueCard

/-- THE SECOND FORM's CARD OF 'syngraphlaw10.CollideRight'. -/
def collideRightUptoCard : Claim7 := { stood := { row := collideRightUptoRow, standIns := [], harness := (true, "3c76e53fccbd76e4964bb77c9794fb408083b71d33229a838e5adfc28255cd87"), looks := false }, kinds := [], alts := [], laidByText := true, laidKinds := [.data], laidTests := true, laidLooks := .later }
def CollideRightUptoCardSaid : Prop := Claim7.holds Tryd.pinned (.plain (OpenSpec.upto collideRightSpec)) collideRightUptoCard

/-- THE SECOND FORM's CARD OF 'syngraphlaw10.CollideLists'. -/
def collideListsUptoCard : Claim7 := { stood := { row := collideListsUptoRow, standIns := [], harness := (true, "3c76e53fccbd76e4964bb77c9794fb408083b71d33229a838e5adfc28255cd87"), looks := false }, kinds := [], alts := [], laidByText := true, laidKinds := [.data], laidTests := true, laidLooks := .later }
def CollideListsUptoCardSaid : Prop := Claim7.holds Tryd.pinned (.plain (OpenSpec.upto collideListsSpec)) collideListsUptoCard

/-- THE SECOND FORM's CARD OF 'syngraphlaw10.CollideIn'. -/
def collideInUptoCard : Claim7 := { stood := { row := collideInUptoRow, standIns := [], harness := (true, "3c76e53fccbd76e4964bb77c9794fb408083b71d33229a838e5adfc28255cd87"), looks := false }, kinds := [], alts := [], laidByText := true, laidKinds := [.data], laidTests := true, laidLooks := .later }
def CollideInUptoCardSaid : Prop := Claim7.holds Tryd.pinned (.plain (OpenSpec.upto collideInSpec)) collideInUptoCard

/-- THE SECOND FORM's CARD OF 'syngraphlaw10.CollideOn'. -/
def collideOnUptoCard : Claim7 := { stood := { row := collideOnUptoRow, standIns := [], harness := (true, "3c76e53fccbd76e4964bb77c9794fb408083b71d33229a838e5adfc28255cd87"), looks := false }, kinds := [], alts := [], laidByText := true, laidKinds := [.data], laidTests := true, laidLooks := .later }
def CollideOnUptoCardSaid : Prop := Claim7.holds Tryd.pinned (.plain (OpenSpec.upto collideOnSpec)) collideOnUptoCard

/-- THE SECOND FORM's CARD OF 'syngraphlaw10.CollideTrue'. -/
def collideTrueUptoCard : Claim7 := { stood := { row := collideTrueUptoRow, standIns := [], harness := (true, "3c76e53fccbd76e4964bb77c9794fb408083b71d33229a838e5adfc28255cd87"), looks := false }, kinds := [], alts := [], laidByText := true, laidKinds := [.data], laidTests := true, laidLooks := .later }
def CollideTrueUptoCardSaid : Prop := Claim7.holds Tryd.pinned (.plain (OpenSpec.upto collideTrueSpec)) collideTrueUptoCard
end Rows
end Go.Proofs.YtfmeeimhfdnjpaaDoor
