/-
  DERIVED. GIVEN WITH THE SEED: THE CARDS: each row of YtglaohaeaofnhaaDoorRows.lean that lists a variable, with what it lists TIED to the program's text (the seventh form; the later family's looks); each row that meets fmt, with fmt's text TOLD by the authors' own Lean function (tested against real Go, not proved from fmt's source: count such statements apart). THE CARD IS WHAT COUNTS. Prove the row's statement (the work); the ties are given (YtglaohaeaofnhaaDoorTie.lean); close each card by the builder's one call (the guide's Derived/Test/ToyasCard.lean, 'card_holds'). Laid BY PROGRAM, IN A SANDBOX (cutbox-door.mjs). By AI agents, Wed Nov 11 2026. No macro, syntax, notation, axiom, sorry.
-/
import Derived.Test.YtglaohaeaofnhaaDoorRows
import GoSem.ClaimSeven
namespace Go.Proofs.YtglaohaeaofnhaaDoor
namespace Rows

/-- THE TIED CARD OF 'farshelflaw3.FstreeLookupMatchesSpec'. -/
def fstreeLookupMatchesSpecCard : Claim7 := { stood := { row := fstreeLookupMatchesSpecRow, standIns := [], harness := (true, "9bcb026e82dc3d36a68d28e32019e7fb251eb4bf9ed75a7a270504bdc3a9b58d"), looks := false }, kinds := [], alts := [], laidByText := true, laidKinds := [.data, .pinned], laidTests := true, laidLooks := .later }
def FstreeLookupMatchesSpecCardSaid : Prop := Claim7.holds Tryd.pinned (.plain (OpenSpec.ofChange fstreeLookupMatchesSpecSpec)) fstreeLookupMatchesSpecCard

/-- THE TIED CARD OF 'farshelflaw3.FstreeAncestorsAreDirectories'. -/
def fstreeAncestorsAreDirectoriesCard : Claim7 := { stood := { row := fstreeAncestorsAreDirectoriesRow, standIns := [], harness := (true, "9bcb026e82dc3d36a68d28e32019e7fb251eb4bf9ed75a7a270504bdc3a9b58d"), looks := false }, kinds := [], alts := [], laidByText := true, laidKinds := [.data, .pinned], laidTests := true, laidLooks := .later }
def FstreeAncestorsAreDirectoriesCardSaid : Prop := Claim7.holds Tryd.pinned (.plain (OpenSpec.ofChange fstreeAncestorsAreDirectoriesSpec)) fstreeAncestorsAreDirectoriesCard

/-- THE SECOND FORM's CARD OF 'farshelflaw3.FstreeLookupMatchesSpec'. -/
def fstreeLookupMatchesSpecUptoCard : Claim7 := { stood := { row := fstreeLookupMatchesSpecUptoRow, standIns := [], harness := (true, "9bcb026e82dc3d36a68d28e32019e7fb251eb4bf9ed75a7a270504bdc3a9b58d"), looks := false }, kinds := [], alts := [], laidByText := true, laidKinds := [.data, .pinned], laidTests := true, laidLooks := .later }
def FstreeLookupMatchesSpecUptoCardSaid : Prop := Claim7.holds Tryd.pinned (.plain (OpenSpec.upto fstreeLookupMatchesSpecSpec)) fstreeLookupMatchesSpecUptoCard

/-- THE SECOND FORM's CARD OF 'farshelflaw3.FstreeAncestorsAreDirectories'. -/
def fstreeAncestorsAreDirectoriesUptoCard : Claim7 := { stood := { row := fstreeAncestorsAreDirectoriesUptoRow, standIns := [], harness := (true, "9bcb026e82dc3d36a68d28e32019e7fb251eb4bf9ed75a7a270504bdc3a9b58d"), looks := false }, kinds := [], alts := [], laidByText := true, laidKinds := [.data, .pinned], laidTests := true, laidLooks := .later }
def FstreeAncestorsAreDirectoriesUptoCardSaid : Prop := Claim7.holds Tryd.pinned (.plain (OpenSpec.upto fstreeAncestorsAreDirectoriesSpec)) fstreeAncestorsAreDirectoriesUptoCard
end Rows
end Go.Proofs.YtglaohaeaofnhaaDoor
