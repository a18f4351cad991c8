/-
  DERIVED. GIVEN WITH THE SEED: THE CARDS: each row of YtoeiaffkedkepaaGreatDoorRows.lean that lists a variable, with what it lists TIED to the program's text (the seventh form; the later family's looks); each row that meets fmt, with fmt's text TOLD by the authors' own Lean function (tested against real Go, not proved from fmt's source: count such statements apart). THE CARD IS WHAT COUNTS. Prove the row's statement (the work); the ties are given (YtoeiaffkedkepaaGreatDoorTie.lean); close each card by the builder's one call (the guide's Derived/Test/ToyasCard.lean, 'card_holds'). Laid BY PROGRAM, IN A SANDBOX (cutbox-door.mjs). By AI agents, Wed Nov 11 2026. No macro, syntax, notation, axiom, sorry.
-/
import Derived.Test.YtoeiaffkedkepaaGreatDoorRows
import GoSem.ClaimSeven
namespace Go.Proofs.YtoeiaffkedkepaaGreatDoor
namespace Rows

/-- THE TIED CARD OF 'farshelflaw4.GlobFindMatchesSpec'. -/
def globFindMatchesSpecCard : Claim7 := { stood := { row := globFindMatchesSpecRow, standIns := [], harness := (true, "46dfac8861912d8a0ad7ec40328e8c24e1b96d60e3aaf2a30c741bfeeaac9c8e"), looks := false }, kinds := [], alts := [], laidByText := true, laidKinds := [.data, .pinned], laidTests := true, laidLooks := .later }
def GlobFindMatchesSpecCardSaid : Prop := Claim7.holds Tryz.pinned (.plain (OpenSpec.ofChange globFindMatchesSpecSpec)) globFindMatchesSpecCard

/-- THE SECOND FORM's CARD OF 'farshelflaw4.GlobFindMatchesSpec'. -/
def globFindMatchesSpecUptoCard : Claim7 := { stood := { row := globFindMatchesSpecUptoRow, standIns := [], harness := (true, "46dfac8861912d8a0ad7ec40328e8c24e1b96d60e3aaf2a30c741bfeeaac9c8e"), looks := false }, kinds := [], alts := [], laidByText := true, laidKinds := [.data, .pinned], laidTests := true, laidLooks := .later }
def GlobFindMatchesSpecUptoCardSaid : Prop := Claim7.holds Tryz.pinned (.plain (OpenSpec.upto globFindMatchesSpecSpec)) globFindMatchesSpecUptoCard
end Rows
end Go.Proofs.YtoeiaffkedkepaaGreatDoor
