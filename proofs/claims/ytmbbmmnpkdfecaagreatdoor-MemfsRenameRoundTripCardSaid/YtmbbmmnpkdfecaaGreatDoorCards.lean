/-
  DERIVED. GIVEN WITH THE SEED: THE CARDS: each row of YtmbbmmnpkdfecaaGreatDoorRows.lean that lists a variable, with what it lists TIED to the program's text (the seventh form; the later family's looks); each row that meets fmt, with fmt's text TOLD by the authors' own Lean function (tested against real Go, not proved from fmt's source: count such statements apart). THE CARD IS WHAT COUNTS. Prove the row's statement (the work); the ties are given (YtmbbmmnpkdfecaaGreatDoorTie.lean); close each card by the builder's one call (the guide's Derived/Test/ToyasCard.lean, 'card_holds'). Laid BY PROGRAM, IN A SANDBOX (cutbox-door.mjs). By AI agents, Wed Nov 11 2026. No macro, syntax, notation, axiom, sorry.
-/
import Derived.Test.YtmbbmmnpkdfecaaGreatDoorRows
import GoSem.ClaimSeven
namespace Go.Proofs.YtmbbmmnpkdfecaaGreatDoor
namespace Rows

/-- THE TIED CARD OF 'farshelflaw3.MemfsApplyMatchesSpec'. -/
def memfsApplyMatchesSpecCard : Claim7 := { stood := { row := memfsApplyMatchesSpecRow, standIns := [], harness := (true, "65a1fea31986394a49a62cac6b61d78f93d0a6ddb0f737feb0857567d0a78891"), looks := false }, kinds := [], alts := [], laidByText := true, laidKinds := [.data, .pinned], laidTests := true, laidLooks := .later }
def MemfsApplyMatchesSpecCardSaid : Prop := Claim7.holds Tryz.pinned (.plain (OpenSpec.ofChange memfsApplyMatchesSpecSpec)) memfsApplyMatchesSpecCard

/-- THE TIED CARD OF 'farshelflaw3.MemfsRunMatchesSpec'. -/
def memfsRunMatchesSpecCard : Claim7 := { stood := { row := memfsRunMatchesSpecRow, standIns := [], harness := (true, "65a1fea31986394a49a62cac6b61d78f93d0a6ddb0f737feb0857567d0a78891"), looks := false }, kinds := [], alts := [], laidByText := true, laidKinds := [.data, .pinned], laidTests := true, laidLooks := .later }
def MemfsRunMatchesSpecCardSaid : Prop := Claim7.holds Tryz.pinned (.plain (OpenSpec.ofChange memfsRunMatchesSpecSpec)) memfsRunMatchesSpecCard

/-- THE TIED CARD OF 'farshelflaw3.MemfsRunIsIncremental'. -/
def memfsRunIsIncrementalCard : Claim7 := { stood := { row := memfsRunIsIncrementalRow, standIns := [], harness := (true, "65a1fea31986394a49a62cac6b61d78f93d0a6ddb0f737feb0857567d0a78891"), looks := false }, kinds := [], alts := [], laidByText := true, laidKinds := [.data, .pinned], laidTests := true, laidLooks := .later }
def MemfsRunIsIncrementalCardSaid : Prop := Claim7.holds Tryz.pinned (.plain (OpenSpec.ofChange memfsRunIsIncrementalSpec)) memfsRunIsIncrementalCard

/-- THE TIED CARD OF 'farshelflaw3.MemfsReadAfterWrite'. -/
def memfsReadAfterWriteCard : Claim7 := { stood := { row := memfsReadAfterWriteRow, standIns := [], harness := (true, "65a1fea31986394a49a62cac6b61d78f93d0a6ddb0f737feb0857567d0a78891"), looks := false }, kinds := [], alts := [], laidByText := true, laidKinds := [.data, .pinned], laidTests := true, laidLooks := .later }
def MemfsReadAfterWriteCardSaid : Prop := Claim7.holds Tryz.pinned (.plain (OpenSpec.ofChange memfsReadAfterWriteSpec)) memfsReadAfterWriteCard

/-- THE TIED CARD OF 'farshelflaw3.MemfsRenameRoundTrip'. -/
def memfsRenameRoundTripCard : Claim7 := { stood := { row := memfsRenameRoundTripRow, standIns := [], harness := (true, "65a1fea31986394a49a62cac6b61d78f93d0a6ddb0f737feb0857567d0a78891"), looks := false }, kinds := [], alts := [], laidByText := true, laidKinds := [.data, .pinned], laidTests := true, laidLooks := .later }
def MemfsRenameRoundTripCardSaid : Prop := Claim7.holds Tryz.pinned (.plain (OpenSpec.ofChange memfsRenameRoundTripSpec)) memfsRenameRoundTripCard

/-- THE TIED CARD OF 'farshelflaw3.MemfsLinkSharesInode'. -/
def memfsLinkSharesInodeCard : Claim7 := { stood := { row := memfsLinkSharesInodeRow, standIns := [], harness := (true, "65a1fea31986394a49a62cac6b61d78f93d0a6ddb0f737feb0857567d0a78891"), looks := false }, kinds := [], alts := [], laidByText := true, laidKinds := [.data, .pinned], laidTests := true, laidLooks := .later }
def MemfsLinkSharesInodeCardSaid : Prop := Claim7.holds Tryz.pinned (.plain (OpenSpec.ofChange memfsLinkSharesInodeSpec)) memfsLinkSharesInodeCard

/-- THE TIED CARD OF 'farshelflaw3.MemfsDisjointSubtreesCommute'. -/
def memfsDisjointSubtreesCommuteCard : Claim7 := { stood := { row := memfsDisjointSubtreesCommuteRow, standIns := [], harness := (true, "65a1fea31986394a49a62cac6b61d78f93d0a6ddb0f737feb0857567d0a78891"), looks := false }, kinds := [], alts := [], laidByText := true, laidKinds := [.data, .pinned], laidTests := true, laidLooks := .later }
def MemfsDisjointSubtreesCommuteCardSaid : Prop := Claim7.holds Tryz.pinned (.plain (OpenSpec.ofChange memfsDisjointSubtreesCommuteSpec)) memfsDisjointSubtreesCommuteCard

/-- THE TIED CARD OF 'farshelflaw4.HardlinkCountsFollowRequests'. -/
def hardlinkCountsFollowRequestsCard : Claim7 := { stood := { row := hardlinkCountsFollowRequestsRow, standIns := [], harness := (true, "65a1fea31986394a49a62cac6b61d78f93d0a6ddb0f737feb0857567d0a78891"), looks := false }, kinds := [], alts := [], laidByText := true, laidKinds := [.data, .pinned], laidTests := true, laidLooks := .later }
def HardlinkCountsFollowRequestsCardSaid : Prop := Claim7.holds Tryz.pinned (.plain (OpenSpec.ofChange hardlinkCountsFollowRequestsSpec)) hardlinkCountsFollowRequestsCard

/-- THE TIED CARD OF 'farshelflaw4.QuotaRemainingIsExact'. -/
def quotaRemainingIsExactCard : Claim7 := { stood := { row := quotaRemainingIsExactRow, standIns := [], harness := (true, "65a1fea31986394a49a62cac6b61d78f93d0a6ddb0f737feb0857567d0a78891"), looks := false }, kinds := [], alts := [], laidByText := true, laidKinds := [.data, .pinned], laidTests := true, laidLooks := .later }
def QuotaRemainingIsExactCardSaid : Prop := Claim7.holds Tryz.pinned (.plain (OpenSpec.ofChange quotaRemainingIsExactSpec)) quotaRemainingIsExactCard

/-- THE SECOND FORM's CARD OF 'farshelflaw3.MemfsApplyMatchesSpec'. -/
def memfsApplyMatchesSpecUptoCard : Claim7 := { stood := { row := memfsApplyMatchesSpecUptoRow, standIns := [], harness := (true, "65a1fea31986394a49a62cac6b61d78f93d0a6ddb0f737feb0857567d0a78891"), looks := false }, kinds := [], alts := [], laidByText := true, laidKinds := [.data, .pinned], laidTests := true, laidLooks := .later }
def MemfsApplyMatchesSpecUptoCardSaid : Prop := Claim7.holds Tryz.pinned (.plain (OpenSpec.upto memfsApplyMatchesSpecSpec)) memfsApplyMatchesSpecUptoCard

/-- THE SECOND FORM's CARD OF 'farshelflaw3.MemfsRunMatchesSpec'. -/
def memfsRunMatchesSpecUptoCard : Claim7 := { stood := { row := memfsRunMatchesSpecUptoRow, standIns := [], harness := (true, "65a1fea31986394a49a62cac6b61d78f93d0a6ddb0f737feb0857567d0a78891"), looks := false }, kinds := [], alts := [], laidByText := true, laidKinds := [.data, .pinned], laidTests := true, laidLooks := .later }
def MemfsRunMatchesSpecUptoCardSaid : Prop := Claim7.holds Tryz.pinned (.plain (OpenSpec.upto memfsRunMatchesSpecSpec)) memfsRunMatchesSpecUptoCard

/-- THE SECOND FORM's CARD OF 'farshelflaw3.MemfsRunIsIncremental'. -/
def memfsRunIsIncrementalUptoCard : Claim7 := { stood := { row := memfsRunIsIncrementalUptoRow, standIns := [], harness := (true, "65a1fea31986394a49a62cac6b61d78f93d0a6ddb0f737feb0857567d0a78891"), looks := false }, kinds := [], alts := [], laidByText := true, laidKinds := [.data, .pinned], laidTests := true, laidLooks := .later }
def MemfsRunIsIncrementalUptoCardSaid : Prop := Claim7.holds Tryz.pinned (.plain (OpenSpec.upto memfsRunIsIncrementalSpec)) memfsRunIsIncrementalUptoCard

/-- THE SECOND FORM's CARD OF 'farshelflaw3.MemfsReadAfterWrite'. -/
def memfsReadAfterWriteUptoCard : Claim7 := { stood := { row := memfsReadAfterWriteUptoRow, standIns := [], harness := (true, "65a1fea31986394a49a62cac6b61d78f93d0a6ddb0f737feb0857567d0a78891"), looks := false }, kinds := [], alts := [], laidByText := true, laidKinds := [.data, .pinned], laidTests := true, laidLooks := .later }
def MemfsReadAfterWriteUptoCardSaid : Prop := Claim7.holds Tryz.pinned (.plain (OpenSpec.upto memfsReadAfterWriteSpec)) memfsReadAfterWriteUptoCard

/-- THE SECOND FORM's CARD OF 'farshelflaw3.MemfsRenameRoundTrip'. -/
def memfsRenameRoundTripUptoCard : Claim7 := { stood := { row := memfsRenameRoundTripUptoRow, standIns := [], harness := (true, "65a1fea31986394a49a62cac6b61d78f93d0a6ddb0f737feb0857567d0a78891"), looks := false }, kinds := [], alts := [], laidByText := true, laidKinds := [.data, .pinned], laidTests := true, laidLooks := .later }
def MemfsRenameRoundTripUptoCardSaid : Prop := Claim7.holds Tryz.pinned (.plain (OpenSpec.upto memfsRenameRoundTripSpec)) memfsRenameRoundTripUptoCard

/-- THE SECOND FORM's CARD OF 'farshelflaw3.MemfsLinkSharesInode'. -/
def memfsLinkSharesInodeUptoCard : Claim7 := { stood := { row := memfsLinkSharesInodeUptoRow, standIns := [], harness := (true, "65a1fea31986394a49a62cac6b61d78f93d0a6ddb0f737feb0857567d0a78891"), looks := false }, kinds := [], alts := [], laidByText := true, laidKinds := [.data, .pinned], laidTests := true, laidLooks := .later }
def MemfsLinkSharesInodeUptoCardSaid : Prop := Claim7.holds Tryz.pinned (.plain (OpenSpec.upto memfsLinkSharesInodeSpec)) memfsLinkSharesInodeUptoCard

/-- THE SECOND FORM's CARD OF 'farshelflaw3.MemfsDisjointSubtreesCommute'. -/
def memfsDisjointSubtreesCommuteUptoCard : Claim7 := { stood := { row := memfsDisjointSubtreesCommuteUptoRow, standIns := [], harness := (true, "65a1fea31986394a49a62cac6b61d78f93d0a6ddb0f737feb0857567d0a78891"), looks := false }, kinds := [], alts := [], laidByText := true, laidKinds := [.data, .pinned], laidTests := true, laidLooks := .later }
def MemfsDisjointSubtreesCommuteUptoCardSaid : Prop := Claim7.holds Tryz.pinned (.plain (OpenSpec.upto memfsDisjointSubtreesCommuteSpec)) memfsDisjointSubtreesCommuteUptoCard

/-- THE SECOND FORM's CARD OF 'farshelflaw4.HardlinkCountsFollowRequests'. -/
def hardlinkCountsFollowRequestsUptoCard : Claim7 := { stood := { row := hardlinkCountsFollowRequestsUptoRow, standIns := [], harness := (true, "65a1fea31986394a49a62cac6b61d78f93d0a6ddb0f737feb0857567d0a78891"), looks := false }, kinds := [], alts := [], laidByText := true, laidKinds := [.data, .pinned], laidTests := true, laidLooks := .later }
def HardlinkCountsFollowRequestsUptoCardSaid : Prop := Claim7.holds Tryz.pinned (.plain (OpenSpec.upto hardlinkCountsFollowRequestsSpec)) hardlinkCountsFollowRequestsUptoCard

/-- THE SECOND FORM's CARD OF 'farshelflaw4.QuotaRemainingIsExact'. -/
def quotaRemainingIsExactUptoCard : Claim7 := { stood := { row := quotaRemainingIsExactUptoRow, standIns := [], harness := (true, "65a1fea31986394a49a62cac6b61d78f93d0a6ddb0f737feb0857567d0a78891"), looks := false }, kinds := [], alts := [], laidByText := true, laidKinds := [.data, .pinned], laidTests := true, laidLooks := .later }
def QuotaRemainingIsExactUptoCardSaid : Prop := Claim7.holds Tryz.pinned (.plain (OpenSpec.upto quotaRemainingIsExactSpec)) quotaRemainingIsExactUptoCard
end Rows
end Go.Proofs.YtmbbmmnpkdfecaaGreatDoor
