/-
  DERIVED. GIVEN WITH THE SEED: THE CARDS: each row of YteomlacohddecaaDoorRows.lean that lists a variable, with what it lists TIED to the program's text (the seventh form; the later family's looks); each row that meets fmt, with fmt's text TOLD by the authors' own Lean function (tested against real Go, not proved from fmt's source: count such statements apart). THE CARD IS WHAT COUNTS. Prove the row's statement (the work); the ties are given (YteomlacohddecaaDoorTie.lean); close each card by the builder's one call (the guide's Derived/Test/ToyasCard.lean, 'card_holds'). Laid BY PROGRAM, IN A SANDBOX (cutbox-door.mjs). By AI agents, Wed Nov 11 2026. No macro, syntax, notation, axiom, sorry.
-/
import Derived.Test.YteomlacohddecaaDoorRows
import GoSem.ClaimSeven
namespace Go.Proofs.YteomlacohddecaaDoor
namespace Rows

/-- THE TIED CARD OF 'farshelflaw4.HardlinkSameFileMatchesSpec'. -/
def hardlinkSameFileMatchesSpecCard : Claim7 := { stood := { row := hardlinkSameFileMatchesSpecRow, standIns := [], harness := (true, "b14515ff55afc816540b43fd53a0a62d3bfc90eb88876bf3a5ffa38c02509052"), looks := false }, kinds := [], alts := [], laidByText := true, laidKinds := [.data, .pinned], laidTests := true, laidLooks := .later }
def HardlinkSameFileMatchesSpecCardSaid : Prop := Claim7.holds Tryd.pinned (.plain (OpenSpec.ofChange hardlinkSameFileMatchesSpecSpec)) hardlinkSameFileMatchesSpecCard

/-- THE SECOND FORM's CARD OF 'farshelflaw4.HardlinkSameFileMatchesSpec'. -/
def hardlinkSameFileMatchesSpecUptoCard : Claim7 := { stood := { row := hardlinkSameFileMatchesSpecUptoRow, standIns := [], harness := (true, "b14515ff55afc816540b43fd53a0a62d3bfc90eb88876bf3a5ffa38c02509052"), looks := false }, kinds := [], alts := [], laidByText := true, laidKinds := [.data, .pinned], laidTests := true, laidLooks := .later }
def HardlinkSameFileMatchesSpecUptoCardSaid : Prop := Claim7.holds Tryd.pinned (.plain (OpenSpec.upto hardlinkSameFileMatchesSpecSpec)) hardlinkSameFileMatchesSpecUptoCard
end Rows
end Go.Proofs.YteomlacohddecaaDoor
