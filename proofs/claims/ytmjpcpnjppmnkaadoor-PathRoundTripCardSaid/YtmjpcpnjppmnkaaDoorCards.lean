/-
  DERIVED. GIVEN WITH THE SEED: THE CARDS: each row of YtmjpcpnjppmnkaaDoorRows.lean that lists a variable, with what it lists TIED to the program's text (the seventh form; the later family's looks); each row that meets fmt, with fmt's text TOLD by the authors' own Lean function (tested against real Go, not proved from fmt's source: count such statements apart). THE CARD IS WHAT COUNTS. Prove the row's statement (the work); the ties are given (YtmjpcpnjppmnkaaDoorTie.lean); close each card by the builder's one call (the guide's Derived/Test/ToyasCard.lean, 'card_holds'). Laid BY PROGRAM, IN A SANDBOX (cutbox-door.mjs). By AI agents, Wed Nov 11 2026. No macro, syntax, notation, axiom, sorry.
-/
import Derived.Test.YtmjpcpnjppmnkaaDoorRows
import GoSem.ClaimSeven
namespace Go.Proofs.YtmjpcpnjppmnkaaDoor
namespace Rows

/-- THE TIED CARD OF 'farshelflaw3.PathSplitMatchesSpec'. -/
def pathSplitMatchesSpecCard : Claim7 := { stood := { row := pathSplitMatchesSpecRow, standIns := [], harness := (true, "4be439eace11999ee5bad545f88a275c6b7841958df721624c2e111f8235f950"), looks := false }, kinds := [], alts := [], laidByText := true, laidKinds := [.data, .pinned], laidTests := true, laidLooks := .later }
def PathSplitMatchesSpecCardSaid : Prop := Claim7.holds Tryd.pinned (.plain (OpenSpec.ofChange pathSplitMatchesSpecSpec)) pathSplitMatchesSpecCard

/-- THE TIED CARD OF 'farshelflaw3.PathCleanMatchesSpec'. -/
def pathCleanMatchesSpecCard : Claim7 := { stood := { row := pathCleanMatchesSpecRow, standIns := [], harness := (true, "4be439eace11999ee5bad545f88a275c6b7841958df721624c2e111f8235f950"), looks := false }, kinds := [], alts := [], laidByText := true, laidKinds := [.data, .pinned], laidTests := true, laidLooks := .later }
def PathCleanMatchesSpecCardSaid : Prop := Claim7.holds Tryd.pinned (.plain (OpenSpec.ofChange pathCleanMatchesSpecSpec)) pathCleanMatchesSpecCard

/-- THE TIED CARD OF 'farshelflaw3.PathContainsMatchesSpec'. -/
def pathContainsMatchesSpecCard : Claim7 := { stood := { row := pathContainsMatchesSpecRow, standIns := [], harness := (true, "4be439eace11999ee5bad545f88a275c6b7841958df721624c2e111f8235f950"), looks := false }, kinds := [], alts := [], laidByText := true, laidKinds := [.data, .pinned], laidTests := true, laidLooks := .later }
def PathContainsMatchesSpecCardSaid : Prop := Claim7.holds Tryd.pinned (.plain (OpenSpec.ofChange pathContainsMatchesSpecSpec)) pathContainsMatchesSpecCard

/-- THE TIED CARD OF 'farshelflaw3.PathRoundTrip'. -/
def pathRoundTripCard : Claim7 := { stood := { row := pathRoundTripRow, standIns := [], harness := (true, "4be439eace11999ee5bad545f88a275c6b7841958df721624c2e111f8235f950"), looks := false }, kinds := [], alts := [], laidByText := true, laidKinds := [.data, .pinned], laidTests := true, laidLooks := .later }
def PathRoundTripCardSaid : Prop := Claim7.holds Tryd.pinned (.plain (OpenSpec.ofChange pathRoundTripSpec)) pathRoundTripCard

/-- THE TIED CARD OF 'farshelflaw3.PathContainsIsPartialOrder'. -/
def pathContainsIsPartialOrderCard : Claim7 := { stood := { row := pathContainsIsPartialOrderRow, standIns := [], harness := (true, "4be439eace11999ee5bad545f88a275c6b7841958df721624c2e111f8235f950"), looks := false }, kinds := [], alts := [], laidByText := true, laidKinds := [.data, .pinned], laidTests := true, laidLooks := .later }
def PathContainsIsPartialOrderCardSaid : Prop := Claim7.holds Tryd.pinned (.plain (OpenSpec.ofChange pathContainsIsPartialOrderSpec)) pathContainsIsPartialOrderCard

/-- THE SECOND FORM's CARD OF 'farshelflaw3.PathSplitMatchesSpec'. -/
def pathSplitMatchesSpecUptoCard : Claim7 := { stood := { row := pathSplitMatchesSpecUptoRow, standIns := [], harness := (true, "4be439eace11999ee5bad545f88a275c6b7841958df721624c2e111f8235f950"), looks := false }, kinds := [], alts := [], laidByText := true, laidKinds := [.data, .pinned], laidTests := true, laidLooks := .later }
def PathSplitMatchesSpecUptoCardSaid : Prop := Claim7.holds Tryd.pinned (.plain (OpenSpec.upto pathSplitMatchesSpecSpec)) pathSplitMatchesSpecUptoCard

/-- THE SECOND FORM's CARD OF 'farshelflaw3.PathCleanMatchesSpec'. -/
def pathCleanMatchesSpecUptoCard : Claim7 := { stood := { row := pathCleanMatchesSpecUptoRow, standIns := [], harness := (true, "4be439eace11999ee5bad545f88a275c6b7841958df721624c2e111f8235f950"), looks := false }, kinds := [], alts := [], laidByText := true, laidKinds := [.data, .pinned], laidTests := true, laidLooks := .later }
def PathCleanMatchesSpecUptoCardSaid : Prop := Claim7.holds Tryd.pinned (.plain (OpenSpec.upto pathCleanMatchesSpecSpec)) pathCleanMatchesSpecUptoCard

/-- THE SECOND FORM's CARD OF 'farshelflaw3.PathContainsMatchesSpec'. -/
def pathContainsMatchesSpecUptoCard : Claim7 := { stood := { row := pathContainsMatchesSpecUptoRow, standIns := [], harness := (true, "4be439eace11999ee5bad545f88a275c6b7841958df721624c2e111f8235f950"), looks := false }, kinds := [], alts := [], laidByText := true, laidKinds := [.data, .pinned], laidTests := true, laidLooks := .later }
def PathContainsMatchesSpecUptoCardSaid : Prop := Claim7.holds Tryd.pinned (.plain (OpenSpec.upto pathContainsMatchesSpecSpec)) pathContainsMatchesSpecUptoCard

/-- THE SECOND FORM's CARD OF 'farshelflaw3.PathRoundTrip'. -/
def pathRoundTripUptoCard : Claim7 := { stood := { row := pathRoundTripUptoRow, standIns := [], harness := (true, "4be439eace11999ee5bad545f88a275c6b7841958df721624c2e111f8235f950"), looks := false }, kinds := [], alts := [], laidByText := true, laidKinds := [.data, .pinned], laidTests := true, laidLooks := .later }
def PathRoundTripUptoCardSaid : Prop := Claim7.holds Tryd.pinned (.plain (OpenSpec.upto pathRoundTripSpec)) pathRoundTripUptoCard

/-- THE SECOND FORM's CARD OF 'farshelflaw3.PathContainsIsPartialOrder'. -/
def pathContainsIsPartialOrderUptoCard : Claim7 := { stood := { row := pathContainsIsPartialOrderUptoRow, standIns := [], harness := (true, "4be439eace11999ee5bad545f88a275c6b7841958df721624c2e111f8235f950"), looks := false }, kinds := [], alts := [], laidByText := true, laidKinds := [.data, .pinned], laidTests := true, laidLooks := .later }
def PathContainsIsPartialOrderUptoCardSaid : Prop := Claim7.holds Tryd.pinned (.plain (OpenSpec.upto pathContainsIsPartialOrderSpec)) pathContainsIsPartialOrderUptoCard
end Rows
end Go.Proofs.YtmjpcpnjppmnkaaDoor
