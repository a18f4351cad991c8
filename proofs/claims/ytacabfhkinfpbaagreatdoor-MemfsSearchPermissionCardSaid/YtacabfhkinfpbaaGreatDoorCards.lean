/-
  DERIVED. GIVEN WITH THE SEED: THE CARDS: each row of YtacabfhkinfpbaaGreatDoorRows.lean that lists a variable, with what it lists TIED to the program's text (the seventh form; the later family's looks); each row that meets fmt, with fmt's text TOLD by the authors' own Lean function (tested against real Go, not proved from fmt's source: count such statements apart). THE CARD IS WHAT COUNTS. Prove the row's statement (the work); the ties are given (YtacabfhkinfpbaaGreatDoorTie.lean); close each card by the builder's one call (the guide's Derived/Test/ToyasCard.lean, 'card_holds'). Laid BY PROGRAM, IN A SANDBOX (cutbox-door.mjs). By AI agents, Wed Nov 11 2026. No macro, syntax, notation, axiom, sorry.
-/
import Derived.Test.YtacabfhkinfpbaaGreatDoorRows
import GoSem.ClaimSeven
namespace Go.Proofs.YtacabfhkinfpbaaGreatDoor
namespace Rows

/-- THE TIED CARD OF 'farshelflaw3.MemfsApplyPreservesValidity'. -/
def memfsApplyPreservesValidityCard : Claim7 := { stood := { row := memfsApplyPreservesValidityRow, standIns := [], harness := (true, "e3b197c2b60d5e36f62a02ab88039e5f4397a9ba22e534fa7c5f575a7ce28bb9"), looks := false }, kinds := [], alts := [], laidByText := true, laidKinds := [.data, .pinned], laidTests := true, laidLooks := .later }
def MemfsApplyPreservesValidityCardSaid : Prop := Claim7.holds Tryz.pinned (.plain (OpenSpec.ofChange memfsApplyPreservesValiditySpec)) memfsApplyPreservesValidityCard

/-- THE TIED CARD OF 'farshelflaw3.MemfsReadOnlyRequests'. -/
def memfsReadOnlyRequestsCard : Claim7 := { stood := { row := memfsReadOnlyRequestsRow, standIns := [], harness := (true, "e3b197c2b60d5e36f62a02ab88039e5f4397a9ba22e534fa7c5f575a7ce28bb9"), looks := false }, kinds := [], alts := [], laidByText := true, laidKinds := [.data, .pinned], laidTests := true, laidLooks := .later }
def MemfsReadOnlyRequestsCardSaid : Prop := Claim7.holds Tryz.pinned (.plain (OpenSpec.ofChange memfsReadOnlyRequestsSpec)) memfsReadOnlyRequestsCard

/-- THE TIED CARD OF 'farshelflaw3.MemfsRunIsIncremental'. -/
def memfsRunIsIncrementalCard : Claim7 := { stood := { row := memfsRunIsIncrementalRow, standIns := [], harness := (true, "e3b197c2b60d5e36f62a02ab88039e5f4397a9ba22e534fa7c5f575a7ce28bb9"), looks := false }, kinds := [], alts := [], laidByText := true, laidKinds := [.data, .pinned], laidTests := true, laidLooks := .later }
def MemfsRunIsIncrementalCardSaid : Prop := Claim7.holds Tryz.pinned (.plain (OpenSpec.ofChange memfsRunIsIncrementalSpec)) memfsRunIsIncrementalCard

/-- THE TIED CARD OF 'farshelflaw3.MemfsReadAfterWrite'. -/
def memfsReadAfterWriteCard : Claim7 := { stood := { row := memfsReadAfterWriteRow, standIns := [], harness := (true, "e3b197c2b60d5e36f62a02ab88039e5f4397a9ba22e534fa7c5f575a7ce28bb9"), looks := false }, kinds := [], alts := [], laidByText := true, laidKinds := [.data, .pinned], laidTests := true, laidLooks := .later }
def MemfsReadAfterWriteCardSaid : Prop := Claim7.holds Tryz.pinned (.plain (OpenSpec.ofChange memfsReadAfterWriteSpec)) memfsReadAfterWriteCard

/-- THE TIED CARD OF 'farshelflaw3.MemfsRenameRoundTrip'. -/
def memfsRenameRoundTripCard : Claim7 := { stood := { row := memfsRenameRoundTripRow, standIns := [], harness := (true, "e3b197c2b60d5e36f62a02ab88039e5f4397a9ba22e534fa7c5f575a7ce28bb9"), looks := false }, kinds := [], alts := [], laidByText := true, laidKinds := [.data, .pinned], laidTests := true, laidLooks := .later }
def MemfsRenameRoundTripCardSaid : Prop := Claim7.holds Tryz.pinned (.plain (OpenSpec.ofChange memfsRenameRoundTripSpec)) memfsRenameRoundTripCard

/-- THE TIED CARD OF 'farshelflaw3.MemfsLinkSharesInode'. -/
def memfsLinkSharesInodeCard : Claim7 := { stood := { row := memfsLinkSharesInodeRow, standIns := [], harness := (true, "e3b197c2b60d5e36f62a02ab88039e5f4397a9ba22e534fa7c5f575a7ce28bb9"), looks := false }, kinds := [], alts := [], laidByText := true, laidKinds := [.data, .pinned], laidTests := true, laidLooks := .later }
def MemfsLinkSharesInodeCardSaid : Prop := Claim7.holds Tryz.pinned (.plain (OpenSpec.ofChange memfsLinkSharesInodeSpec)) memfsLinkSharesInodeCard

/-- THE TIED CARD OF 'farshelflaw3.MemfsSearchPermission'. -/
def memfsSearchPermissionCard : Claim7 := { stood := { row := memfsSearchPermissionRow, standIns := [], harness := (true, "e3b197c2b60d5e36f62a02ab88039e5f4397a9ba22e534fa7c5f575a7ce28bb9"), looks := false }, kinds := [], alts := [], laidByText := true, laidKinds := [.data, .pinned], laidTests := true, laidLooks := .later }
def MemfsSearchPermissionCardSaid : Prop := Claim7.holds Tryz.pinned (.plain (OpenSpec.ofChange memfsSearchPermissionSpec)) memfsSearchPermissionCard

/-- THE TIED CARD OF 'farshelflaw3.MemfsSuperuser'. -/
def memfsSuperuserCard : Claim7 := { stood := { row := memfsSuperuserRow, standIns := [], harness := (true, "e3b197c2b60d5e36f62a02ab88039e5f4397a9ba22e534fa7c5f575a7ce28bb9"), looks := false }, kinds := [], alts := [], laidByText := true, laidKinds := [.data, .pinned], laidTests := true, laidLooks := .later }
def MemfsSuperuserCardSaid : Prop := Claim7.holds Tryz.pinned (.plain (OpenSpec.ofChange memfsSuperuserSpec)) memfsSuperuserCard

/-- THE TIED CARD OF 'farshelflaw3.MemfsQuotaInvariant'. -/
def memfsQuotaInvariantCard : Claim7 := { stood := { row := memfsQuotaInvariantRow, standIns := [], harness := (true, "e3b197c2b60d5e36f62a02ab88039e5f4397a9ba22e534fa7c5f575a7ce28bb9"), looks := false }, kinds := [], alts := [], laidByText := true, laidKinds := [.data, .pinned], laidTests := true, laidLooks := .later }
def MemfsQuotaInvariantCardSaid : Prop := Claim7.holds Tryz.pinned (.plain (OpenSpec.ofChange memfsQuotaInvariantSpec)) memfsQuotaInvariantCard

/-- THE TIED CARD OF 'farshelflaw3.MemfsDisjointSubtreesCommute'. -/
def memfsDisjointSubtreesCommuteCard : Claim7 := { stood := { row := memfsDisjointSubtreesCommuteRow, standIns := [], harness := (true, "e3b197c2b60d5e36f62a02ab88039e5f4397a9ba22e534fa7c5f575a7ce28bb9"), looks := false }, kinds := [], alts := [], laidByText := true, laidKinds := [.data, .pinned], laidTests := true, laidLooks := .later }
def MemfsDisjointSubtreesCommuteCardSaid : Prop := Claim7.holds Tryz.pinned (.plain (OpenSpec.ofChange memfsDisjointSubtreesCommuteSpec)) memfsDisjointSubtreesCommuteCard

/-- THE SECOND FORM's CARD OF 'farshelflaw3.MemfsApplyPreservesValidity'. -/
def memfsApplyPreservesValidityUptoCard : Claim7 := { stood := { row := memfsApplyPreservesValidityUptoRow, standIns := [], harness := (true, "e3b197c2b60d5e36f62a02ab88039e5f4397a9ba22e534fa7c5f575a7ce28bb9"), looks := false }, kinds := [], alts := [], laidByText := true, laidKinds := [.data, .pinned], laidTests := true, laidLooks := .later }
def MemfsApplyPreservesValidityUptoCardSaid : Prop := Claim7.holds Tryz.pinned (.plain (OpenSpec.upto memfsApplyPreservesValiditySpec)) memfsApplyPreservesValidityUptoCard

/-- THE SECOND FORM's CARD OF 'farshelflaw3.MemfsReadOnlyRequests'. -/
def memfsReadOnlyRequestsUptoCard : Claim7 := { stood := { row := memfsReadOnlyRequestsUptoRow, standIns := [], harness := (true, "e3b197c2b60d5e36f62a02ab88039e5f4397a9ba22e534fa7c5f575a7ce28bb9"), looks := false }, kinds := [], alts := [], laidByText := true, laidKinds := [.data, .pinned], laidTests := true, laidLooks := .later }
def MemfsReadOnlyRequestsUptoCardSaid : Prop := Claim7.holds Tryz.pinned (.plain (OpenSpec.upto memfsReadOnlyRequestsSpec)) memfsReadOnlyRequestsUptoCard

/-- THE SECOND FORM's CARD OF 'farshelflaw3.MemfsRunIsIncremental'. -/
def memfsRunIsIncrementalUptoCard : Claim7 := { stood := { row := memfsRunIsIncrementalUptoRow, standIns := [], harness := (true, "e3b197c2b60d5e36f62a02ab88039e5f4397a9ba22e534fa7c5f575a7ce28bb9"), looks := false }, kinds := [], alts := [], laidByText := true, laidKinds := [.data, .pinned], laidTests := true, laidLooks := .later }
def MemfsRunIsIncrementalUptoCardSaid : Prop := Claim7.holds Tryz.pinned (.plain (OpenSpec.upto memfsRunIsIncrementalSpec)) memfsRunIsIncrementalUptoCard

/-- THE SECOND FORM's CARD OF 'farshelflaw3.MemfsReadAfterWrite'. -/
def memfsReadAfterWriteUptoCard : Claim7 := { stood := { row := memfsReadAfterWriteUptoRow, standIns := [], harness := (true, "e3b197c2b60d5e36f62a02ab88039e5f4397a9ba22e534fa7c5f575a7ce28bb9"), looks := false }, kinds := [], alts := [], laidByText := true, laidKinds := [.data, .pinned], laidTests := true, laidLooks := .later }
def MemfsReadAfterWriteUptoCardSaid : Prop := Claim7.holds Tryz.pinned (.plain (OpenSpec.upto memfsReadAfterWriteSpec)) memfsReadAfterWriteUptoCard

/-- THE SECOND FORM's CARD OF 'farshelflaw3.MemfsRenameRoundTrip'. -/
def memfsRenameRoundTripUptoCard : Claim7 := { stood := { row := memfsRenameRoundTripUptoRow, standIns := [], harness := (true, "e3b197c2b60d5e36f62a02ab88039e5f4397a9ba22e534fa7c5f575a7ce28bb9"), looks := false }, kinds := [], alts := [], laidByText := true, laidKinds := [.data, .pinned], laidTests := true, laidLooks := .later }
def MemfsRenameRoundTripUptoCardSaid : Prop := Claim7.holds Tryz.pinned (.plain (OpenSpec.upto memfsRenameRoundTripSpec)) memfsRenameRoundTripUptoCard

/-- THE SECOND FORM's CARD OF 'farshelflaw3.MemfsLinkSharesInode'. -/
def memfsLinkSharesInodeUptoCard : Claim7 := { stood := { row := memfsLinkSharesInodeUptoRow, standIns := [], harness := (true, "e3b197c2b60d5e36f62a02ab88039e5f4397a9ba22e534fa7c5f575a7ce28bb9"), looks := false }, kinds := [], alts := [], laidByText := true, laidKinds := [.data, .pinned], laidTests := true, laidLooks := .later }
def MemfsLinkSharesInodeUptoCardSaid : Prop := Claim7.holds Tryz.pinned (.plain (OpenSpec.upto memfsLinkSharesInodeSpec)) memfsLinkSharesInodeUptoCard

/-- THE SECOND FORM's CARD OF 'farshelflaw3.MemfsSearchPermission'. -/
def memfsSearchPermissionUptoCard : Claim7 := { stood := { row := memfsSearchPermissionUptoRow, standIns := [], harness := (true, "e3b197c2b60d5e36f62a02ab88039e5f4397a9ba22e534fa7c5f575a7ce28bb9"), looks := false }, kinds := [], alts := [], laidByText := true, laidKinds := [.data, .pinned], laidTests := true, laidLooks := .later }
def MemfsSearchPermissionUptoCardSaid : Prop := Claim7.holds Tryz.pinned (.plain (OpenSpec.upto memfsSearchPermissionSpec)) memfsSearchPermissionUptoCard

/-- THE SECOND FORM's CARD OF 'farshelflaw3.MemfsSuperuser'. -/
def memfsSuperuserUptoCard : Claim7 := { stood := { row := memfsSuperuserUptoRow, standIns := [], harness := (true, "e3b197c2b60d5e36f62a02ab88039e5f4397a9ba22e534fa7c5f575a7ce28bb9"), looks := false }, kinds := [], alts := [], laidByText := true, laidKinds := [.data, .pinned], laidTests := true, laidLooks := .later }
def MemfsSuperuserUptoCardSaid : Prop := Claim7.holds Tryz.pinned (.plain (OpenSpec.upto memfsSuperuserSpec)) memfsSuperuserUptoCard

/-- THE SECOND FORM's CARD OF 'farshelflaw3.MemfsQuotaInvariant'. -/
def memfsQuotaInvariantUptoCard : Claim7 := { stood := { row := memfsQuotaInvariantUptoRow, standIns := [], harness := (true, "e3b197c2b60d5e36f62a02ab88039e5f4397a9ba22e534fa7c5f575a7ce28bb9"), looks := false }, kinds := [], alts := [], laidByText := true, laidKinds := [.data, .pinned], laidTests := true, laidLooks := .later }
def MemfsQuotaInvariantUptoCardSaid : Prop := Claim7.holds Tryz.pinned (.plain (OpenSpec.upto memfsQuotaInvariantSpec)) memfsQuotaInvariantUptoCard

/-- THE SECOND FORM's CARD OF 'farshelflaw3.MemfsDisjointSubtreesCommute'. -/
def memfsDisjointSubtreesCommuteUptoCard : Claim7 := { stood := { row := memfsDisjointSubtreesCommuteUptoRow, standIns := [], harness := (true, "e3b197c2b60d5e36f62a02ab88039e5f4397a9ba22e534fa7c5f575a7ce28bb9"), looks := false }, kinds := [], alts := [], laidByText := true, laidKinds := [.data, .pinned], laidTests := true, laidLooks := .later }
def MemfsDisjointSubtreesCommuteUptoCardSaid : Prop := Claim7.holds Tryz.pinned (.plain (OpenSpec.upto memfsDisjointSubtreesCommuteSpec)) memfsDisjointSubtreesCommuteUptoCard
end Rows
end Go.Proofs.YtacabfhkinfpbaaGreatDoor
