/-
  DERIVED. GIVEN WITH THE SEED: THE CARDS: each row of YtiebjpdjcgefhaaDoorRows.lean that lists a variable, with what it lists TIED to the program's text (the seventh form; the later family's looks); each row that meets fmt, with fmt's text TOLD by the authors' own Lean function (tested against real Go, not proved from fmt's source: count such statements apart). THE CARD IS WHAT COUNTS. Prove the row's statement (the work); the ties are given (YtiebjpdjcgefhaaDoorTie.lean); close each card by the builder's one call (the guide's Derived/Test/ToyasCard.lean, 'card_holds'). Laid BY PROGRAM, IN A SANDBOX (cutbox-door.mjs). By AI agents, Wed Nov 11 2026. No macro, syntax, notation, axiom, sorry.
-/
import Derived.Test.YtiebjpdjcgefhaaDoorRows
import GoSem.ClaimSeven
namespace Go.Proofs.YtiebjpdjcgefhaaDoor
namespace Rows

/-- THE TIED CARD OF 'syngraphlaw02.TagBytes'. -/
def tagBytesCard : Claim7 := { stood := { row := tagBytesRow, standIns := [], harness := (true, "33276260f0fdb9941605528f92035b2938c703f91ecf6e3df9f19bad6db69aeb"), looks := false }, kinds := [], alts := [], laidByText := true, laidKinds := [.data], laidTests := true, laidLooks := .later }
def TagBytesCardSaid : Prop := Claim7.holds Tryd.pinned (.plain (OpenSpec.ofChange tagBytesSpec)) tagBytesCard

/-- THE TIED CARD OF 'syngraphlaw02.TagHashes'. -/
def tagHashesCard : Claim7 := { stood := { row := tagHashesRow, standIns := [], harness := (true, "33276260f0fdb9941605528f92035b2938c703f91ecf6e3df9f19bad6db69aeb"), looks := false }, kinds := [], alts := [], laidByText := true, laidKinds := [.data], laidTests := true, laidLooks := .later }
def TagHashesCardSaid : Prop := Claim7.holds Tryd.pinned (.plain (OpenSpec.ofChange tagHashesSpec)) tagHashesCard

/-- THE TIED CARD OF 'syngraphlaw02.TagInputs'. -/
def tagInputsCard : Claim7 := { stood := { row := tagInputsRow, standIns := [], harness := (true, "33276260f0fdb9941605528f92035b2938c703f91ecf6e3df9f19bad6db69aeb"), looks := false }, kinds := [], alts := [], laidByText := true, laidKinds := [.data], laidTests := true, laidLooks := .later }
def TagInputsCardSaid : Prop := Claim7.holds Tryd.pinned (.plain (OpenSpec.ofChange tagInputsSpec)) tagInputsCard

/-- THE TIED CARD OF 'syngraphlaw02.TagSecrets'. -/
def tagSecretsCard : Claim7 := { stood := { row := tagSecretsRow, standIns := [], harness := (true, "33276260f0fdb9941605528f92035b2938c703f91ecf6e3df9f19bad6db69aeb"), looks := false }, kinds := [], alts := [], laidByText := true, laidKinds := [.data], laidTests := true, laidLooks := .later }
def TagSecretsCardSaid : Prop := Claim7.holds Tryd.pinned (.plain (OpenSpec.ofChange tagSecretsSpec)) tagSecretsCard

/-- THE SECOND FORM's CARD OF 'syngraphlaw02.TagBytes'. -/
def tagBytesUptoCard : Claim7 := { stood := { row := tagBytesUptoRow, standIns := [], harness := (true, "33276260f0fdb9941605528f92035b2938c703f91ecf6e3df9f19bad6db69aeb"), looks := false }, kinds := [], alts := [], laidByText := true, laidKinds := [.data], laidTests := true, laidLooks := .later }
def TagBytesUptoCardSaid : Prop := Claim7.holds Tryd.pinned (.plain (OpenSpec.upto tagBytesSpec)) tagBytesUptoCard

/-- THE SECOND FORM's CARD OF 'syngraphlaw02.TagHashes'. -/
def tagHashesUptoCard : Claim7 := { stood := { row := tagHashesUptoRow, standIns := [], harness := (true, "33276260f0fdb9941605528f92035b2938c703f91ecf6e3df9f19bad6db69aeb"), looks := false }, kinds := [], alts := [], laidByText := true, laidKinds := [.data], laidTests := true, laidLooks := .later }
def TagHashesUptoCardSaid : Prop := Claim7.holds Tryd.pinned (.plain (OpenSpec.upto tagHashesSpec)) tagHashesUptoCard

/-- THE SECOND FORM's CARD OF 'syngraphlaw02.TagInputs'. -/
def tagInputsUptoCard : Claim7 := { stood := { row := tagInputsUptoRow, standIns := [], harness := (true, "33276260f0fdb9941605528f92035b2938c703f91ecf6e3df9f19bad6db69aeb"), looks := false }, kinds := [], alts := [], laidByText := true, laidKinds := [.data], laidTests := true, laidLooks := .later }
def TagInputsUptoCardSaid : Prop := Claim7.holds Tryd.pinned (.plain (OpenSpec.upto tagInputsSpec)) tagInputsUptoCard

/-- THE SECOND FORM's CARD OF 'syngraphlaw02.TagSecrets'. -/
def tagSecretsUptoCard : Claim7 := { stood := { row := tagSecretsUptoRow, standIns := [], harness := (true, "33276260f0fdb9941605528f92035b2938c703f91ecf6e3df9f19bad6db69aeb"), looks := false }, kinds := [], alts := [], laidByText := true, laidKinds := [.data], laidTests := true, laidLooks := .later }
def TagSecretsUptoCardSaid : Prop := Claim7.holds Tryd.pinned (.plain (OpenSpec.upto tagSecretsSpec)) tagSecretsUptoCard
end Rows
end Go.Proofs.YtiebjpdjcgefhaaDoor
