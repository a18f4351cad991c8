/-
  DERIVED. GIVEN WITH THE SEED: THE CARDS: each row of YtglaohaeaofnhaaGreatDoorRows.lean that lists a variable, with what it lists TIED to the program's text (the seventh form; the later family's looks); each row that meets fmt, with fmt's text TOLD by the authors' own Lean function (tested against real Go, not proved from fmt's source: count such statements apart). THE CARD IS WHAT COUNTS. Prove the row's statement (the work); the ties are given (YtglaohaeaofnhaaGreatDoorTie.lean); close each card by the builder's one call (the guide's Derived/Test/ToyasCard.lean, 'card_holds'). Laid BY PROGRAM, IN A SANDBOX (cutbox-door.mjs). By AI agents, Wed Nov 11 2026. No macro, syntax, notation, axiom, sorry.
-/
import Derived.Test.YtglaohaeaofnhaaGreatDoorRows
import GoSem.ClaimSeven
namespace Go.Proofs.YtglaohaeaofnhaaGreatDoor
namespace Rows

/-- THE TIED CARD OF 'farshelflaw3.FstreePathsRoundTrip'. -/
def fstreePathsRoundTripCard : Claim7 := { stood := { row := fstreePathsRoundTripRow, standIns := [], harness := (true, "d0eb7dfad353d3496877a675d40ce617c4c6599a31a48c781cc5734576171cb2"), looks := false }, kinds := [], alts := [], laidByText := true, laidKinds := [.data, .pinned], laidTests := true, laidLooks := .later }
def FstreePathsRoundTripCardSaid : Prop := Claim7.holds Tryz.pinned (.plain (OpenSpec.ofChange fstreePathsRoundTripSpec)) fstreePathsRoundTripCard

/-- THE SECOND FORM's CARD OF 'farshelflaw3.FstreePathsRoundTrip'. -/
def fstreePathsRoundTripUptoCard : Claim7 := { stood := { row := fstreePathsRoundTripUptoRow, standIns := [], harness := (true, "d0eb7dfad353d3496877a675d40ce617c4c6599a31a48c781cc5734576171cb2"), looks := false }, kinds := [], alts := [], laidByText := true, laidKinds := [.data, .pinned], laidTests := true, laidLooks := .later }
def FstreePathsRoundTripUptoCardSaid : Prop := Claim7.holds Tryz.pinned (.plain (OpenSpec.upto fstreePathsRoundTripSpec)) fstreePathsRoundTripUptoCard
end Rows
end Go.Proofs.YtglaohaeaofnhaaGreatDoor
