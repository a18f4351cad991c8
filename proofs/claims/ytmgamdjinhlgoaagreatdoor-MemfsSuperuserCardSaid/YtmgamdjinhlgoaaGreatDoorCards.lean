/-
  DERIVED. GIVEN WITH THE SEED: THE CARDS: each row of YtmgamdjinhlgoaaGreatDoorRows.lean that lists a variable, with what it lists TIED to the program's text (the seventh form; the later family's looks); each row that meets fmt, with fmt's text TOLD by the authors' own Lean function (tested against real Go, not proved from fmt's source: count such statements apart). THE CARD IS WHAT COUNTS. Prove the row's statement (the work); the ties are given (YtmgamdjinhlgoaaGreatDoorTie.lean); close each card by the builder's one call (the guide's Derived/Test/ToyasCard.lean, 'card_holds'). Laid BY PROGRAM, IN A SANDBOX (cutbox-door.mjs). By AI agents, Wed Nov 11 2026. No macro, syntax, notation, axiom, sorry.
-/
import Derived.Test.YtmgamdjinhlgoaaGreatDoorRows
import GoSem.ClaimSeven
namespace Go.Proofs.YtmgamdjinhlgoaaGreatDoor
namespace Rows

/-- THE TIED CARD OF 'farshelflaw3.MemfsRunIsIncremental'. -/
def memfsRunIsIncrementalCard : Claim7 := { stood := { row := memfsRunIsIncrementalRow, standIns := [], harness := (true, "1098feb2ae6d6c6681f78ba369f73c946f300b66f722969dacb0b573fa2c853e"), looks := false }, kinds := [], alts := [], laidByText := true, laidKinds := [.data, .pinned], laidTests := true, laidLooks := .later }
def MemfsRunIsIncrementalCardSaid : Prop := Claim7.holds Tryz.pinned (.plain (OpenSpec.ofChange memfsRunIsIncrementalSpec)) memfsRunIsIncrementalCard

/-- THE TIED CARD OF 'farshelflaw3.MemfsSuperuser'. -/
def memfsSuperuserCard : Claim7 := { stood := { row := memfsSuperuserRow, standIns := [], harness := (true, "1098feb2ae6d6c6681f78ba369f73c946f300b66f722969dacb0b573fa2c853e"), looks := false }, kinds := [], alts := [], laidByText := true, laidKinds := [.data, .pinned], laidTests := true, laidLooks := .later }
def MemfsSuperuserCardSaid : Prop := Claim7.holds Tryz.pinned (.plain (OpenSpec.ofChange memfsSuperuserSpec)) memfsSuperuserCard

/-- THE SECOND FORM's CARD OF 'farshelflaw3.MemfsRunIsIncremental'. -/
def memfsRunIsIncrementalUptoCard : Claim7 := { stood := { row := memfsRunIsIncrementalUptoRow, standIns := [], harness := (true, "1098feb2ae6d6c6681f78ba369f73c946f300b66f722969dacb0b573fa2c853e"), looks := false }, kinds := [], alts := [], laidByText := true, laidKinds := [.data, .pinned], laidTests := true, laidLooks := .later }
def MemfsRunIsIncrementalUptoCardSaid : Prop := Claim7.holds Tryz.pinned (.plain (OpenSpec.upto memfsRunIsIncrementalSpec)) memfsRunIsIncrementalUptoCard

/-- THE SECOND FORM's CARD OF 'farshelflaw3.MemfsSuperuser'. -/
def memfsSuperuserUptoCard : Claim7 := { stood := { row := memfsSuperuserUptoRow, standIns := [], harness := (true, "1098feb2ae6d6c6681f78ba369f73c946f300b66f722969dacb0b573fa2c853e"), looks := false }, kinds := [], alts := [], laidByText := true, laidKinds := [.data, .pinned], laidTests := true, laidLooks := .later }
def MemfsSuperuserUptoCardSaid : Prop := Claim7.holds Tryz.pinned (.plain (OpenSpec.upto memfsSuperuserSpec)) memfsSuperuserUptoCard
end Rows
end Go.Proofs.YtmgamdjinhlgoaaGreatDoor
