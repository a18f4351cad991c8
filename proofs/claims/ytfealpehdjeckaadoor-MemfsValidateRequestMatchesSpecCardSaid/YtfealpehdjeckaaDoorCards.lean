/-
  DERIVED. GIVEN WITH THE SEED: THE CARDS: each row of YtfealpehdjeckaaDoorRows.lean that lists a variable, with what it lists TIED to the program's text (the seventh form; the later family's looks); each row that meets fmt, with fmt's text TOLD by the authors' own Lean function (tested against real Go, not proved from fmt's source: count such statements apart). THE CARD IS WHAT COUNTS. Prove the row's statement (the work); the ties are given (YtfealpehdjeckaaDoorTie.lean); close each card by the builder's one call (the guide's Derived/Test/ToyasCard.lean, 'card_holds'). Laid BY PROGRAM, IN A SANDBOX (cutbox-door.mjs). By AI agents, Wed Nov 11 2026. No macro, syntax, notation, axiom, sorry.
-/
import Derived.Test.YtfealpehdjeckaaDoorRows
import GoSem.ClaimSeven
namespace Go.Proofs.YtfealpehdjeckaaDoor
namespace Rows

/-- THE TIED CARD OF 'farshelflaw3.MemfsValidateRequestMatchesSpec'. -/
def memfsValidateRequestMatchesSpecCard : Claim7 := { stood := { row := memfsValidateRequestMatchesSpecRow, standIns := [], harness := (true, "2d0696a0031f5674229c9b2c47660ce81a4afc684a97f2066ae1eb01964880ca"), looks := false }, kinds := [], alts := [], laidByText := true, laidKinds := [.data, .pinned], laidTests := true, laidLooks := .later }
def MemfsValidateRequestMatchesSpecCardSaid : Prop := Claim7.holds Tryd.pinned (.plain (OpenSpec.ofChange memfsValidateRequestMatchesSpecSpec)) memfsValidateRequestMatchesSpecCard

/-- THE SECOND FORM's CARD OF 'farshelflaw3.MemfsValidateRequestMatchesSpec'. -/
def memfsValidateRequestMatchesSpecUptoCard : Claim7 := { stood := { row := memfsValidateRequestMatchesSpecUptoRow, standIns := [], harness := (true, "2d0696a0031f5674229c9b2c47660ce81a4afc684a97f2066ae1eb01964880ca"), looks := false }, kinds := [], alts := [], laidByText := true, laidKinds := [.data, .pinned], laidTests := true, laidLooks := .later }
def MemfsValidateRequestMatchesSpecUptoCardSaid : Prop := Claim7.holds Tryd.pinned (.plain (OpenSpec.upto memfsValidateRequestMatchesSpecSpec)) memfsValidateRequestMatchesSpecUptoCard
end Rows
end Go.Proofs.YtfealpehdjeckaaDoor
