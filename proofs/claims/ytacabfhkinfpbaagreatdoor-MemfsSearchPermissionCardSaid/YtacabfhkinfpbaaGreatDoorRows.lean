/-
  NARROWER THAN 'FOR EVERY INPUT', by the rows' own cells (each row's printed sentence says how): MemfsApplyPreservesValidity: laid · MemfsReadOnlyRequests: laid · MemfsRunIsIncremental: laid · MemfsReadAfterWrite: laid · MemfsRenameRoundTrip: laid · MemfsLinkSharesInode: laid · MemfsSearchPermission: laid · MemfsSuperuser: laid · MemfsQuotaInvariant: laid · MemfsDisjointSubtreesCommute: laid.
  DERIVED. THE GIVEN ROWS OF THIS SEAT. 10 by the template 'for every input the law returns true; each argument reads behind the call as it read before'; 0 by the template 'total and deterministic' (their statements: YtacabfhkinfpbaaGreatDoorTotals.lean).
  GIVEN WITH THE SEED: the statements are not yours to turn. If you find one false, say at which input.
  Laid BY PROGRAM, IN A SANDBOX (cutbox-rows.mjs): the forced cells as the released guide's own fill.sh prints them over the translation 437298e3ffc197f9… (all of the seat's roots in one cut). By AI agents, Wed Nov 11 2026. No macro, syntax, notation, axiom, sorry.
-/
import Derived.Test.YtacabfhkinfpbaaGreatDoorChecked
import GoSem.PinnedTables
import GoSem.Claim
import GoSem.ClaimJoined
import GoSem.ClaimMapViews
import Derived.JoinedTies
import Derived.KernelRfl
namespace Go.Proofs.YtacabfhkinfpbaaGreatDoor
/- THE CELL 'sum', in the pinned program and in every row, IS THE sha256 OF THE DUMP (.gsa) THAT YtacabfhkinfpbaaGreatDoorProg.lean LOADS. Nothing in Lean hashes anything: it is a label: what it is worth is what the hold of that sum in a sandbox is worth. -/
noncomputable def Tryz.pinned : Pinned := { name := "ytacabfhkinfpbaagreatdoor", sum := "437298e3ffc197f96bd1e4d77d0784338d1274ff128a0d7d4cdeea4db991c23d", checked := Tryz.checked }
namespace Rows
def none {H : Type} : Left H := { results := [], args := [] }

/- WHAT THE LISTED PACKAGE-LEVEL VARIABLES READ AS WHEN THE CALL BEGINS. Each datum BY PROGRAM (the guide's laid-datum.mjs) off the statement by which the dump's own 'gosem.cut.vars' lays the variable. In a bare row this is a premise. The card (YtacabfhkinfpbaaGreatDoorCards.lean) ties it to the program's text. -/
def laid_unicode_utf8_acceptRanges {H : Type} : DataW H := .agg [.agg [.lit (.int .u8 128), .lit (.int .u8 191)], .agg [.lit (.int .u8 160), .lit (.int .u8 191)], .agg [.lit (.int .u8 128), .lit (.int .u8 159)], .agg [.lit (.int .u8 144), .lit (.int .u8 191)], .agg [.lit (.int .u8 128), .lit (.int .u8 143)], .agg [.lit (.int .u8 0), .lit (.int .u8 0)], .agg [.lit (.int .u8 0), .lit (.int .u8 0)], .agg [.lit (.int .u8 0), .lit (.int .u8 0)], .agg [.lit (.int .u8 0), .lit (.int .u8 0)], .agg [.lit (.int .u8 0), .lit (.int .u8 0)], .agg [.lit (.int .u8 0), .lit (.int .u8 0)], .agg [.lit (.int .u8 0), .lit (.int .u8 0)], .agg [.lit (.int .u8 0), .lit (.int .u8 0)], .agg [.lit (.int .u8 0), .lit (.int .u8 0)], .agg [.lit (.int .u8 0), .lit (.int .u8 0)], .agg [.lit (.int .u8 0), .lit (.int .u8 0)]]
/-- One of Go's own tables, pinned by name: the form's constant. -/
def laid_unicode_utf8_first : DataW Unit := Go.Pinned.utf8First

/-- 'farshelflaw3.MemfsApplyPreservesValidity': WHATEVER THE INPUT: true; the input reads as it did. -/
def memfsApplyPreservesValiditySpec : ChangeSpec := { name := "memfsApplyPreservesValidity", fn := fun _ => fun
  | [d1, d2] => { results := [.lit (.bool true)], args := [d1, d2] }
  | _ => none }
def memfsApplyPreservesValidityRow : OpenClaim := { program := "ytacabfhkinfpbaagreatdoor", sum := "437298e3ffc197f96bd1e4d77d0784338d1274ff128a0d7d4cdeea4db991c23d", func := "farshelf/farshelflaw3.MemfsApplyPreservesValidity", spec := "memfsApplyPreservesValidity", inPlace := ["internal/abi.NoEscape", "internal/bytealg.MakeNoZero", "internal/bytealg.CountString", "internal/bytealg.IndexByteString", "internal/bytealg.IndexString", "slices.overlaps[farshelf/api.DirEntry]"], unfollowed := true, recurses := true, named := ["unicode/utf8.first", "unicode/utf8.acceptRanges", "internal/bytealg.MaxLen"], apart := false, laid := [("unicode/utf8.acceptRanges", laid_unicode_utf8_acceptRanges), ("unicode/utf8.first", laid_unicode_utf8_first)] }
def MemfsApplyPreservesValiditySaid : Prop := memfsApplyPreservesValidityRow.holds Tryz.pinned (OpenSpec.ofChange memfsApplyPreservesValiditySpec)

/-- ITS FALSE NEIGHBOUR: 'it returns false'. Refute it at one input. -/
def memfsApplyPreservesValidityWrong : ChangeSpec := { name := "memfsApplyPreservesValidity", fn := fun _ => fun
  | [d1, d2] => { results := [.lit (.bool false)], args := [d1, d2] }
  | _ => none }
def MemfsApplyPreservesValidityWrongFalsely : Prop := memfsApplyPreservesValidityRow.holds Tryz.pinned (OpenSpec.ofChange memfsApplyPreservesValidityWrong)

/-- 'farshelflaw3.MemfsReadOnlyRequests': WHATEVER THE INPUT: true; the input reads as it did. -/
def memfsReadOnlyRequestsSpec : ChangeSpec := { name := "memfsReadOnlyRequests", fn := fun _ => fun
  | [d1, d2] => { results := [.lit (.bool true)], args := [d1, d2] }
  | _ => none }
def memfsReadOnlyRequestsRow : OpenClaim := { program := "ytacabfhkinfpbaagreatdoor", sum := "437298e3ffc197f96bd1e4d77d0784338d1274ff128a0d7d4cdeea4db991c23d", func := "farshelf/farshelflaw3.MemfsReadOnlyRequests", spec := "memfsReadOnlyRequests", inPlace := ["internal/abi.NoEscape", "internal/bytealg.MakeNoZero", "internal/bytealg.CountString", "internal/bytealg.IndexByteString", "internal/bytealg.IndexString", "slices.overlaps[farshelf/api.DirEntry]"], unfollowed := true, recurses := true, named := ["unicode/utf8.first", "unicode/utf8.acceptRanges", "internal/bytealg.MaxLen"], apart := false, laid := [("unicode/utf8.acceptRanges", laid_unicode_utf8_acceptRanges), ("unicode/utf8.first", laid_unicode_utf8_first)] }
def MemfsReadOnlyRequestsSaid : Prop := memfsReadOnlyRequestsRow.holds Tryz.pinned (OpenSpec.ofChange memfsReadOnlyRequestsSpec)

/-- ITS FALSE NEIGHBOUR: 'it returns false'. Refute it at one input. -/
def memfsReadOnlyRequestsWrong : ChangeSpec := { name := "memfsReadOnlyRequests", fn := fun _ => fun
  | [d1, d2] => { results := [.lit (.bool false)], args := [d1, d2] }
  | _ => none }
def MemfsReadOnlyRequestsWrongFalsely : Prop := memfsReadOnlyRequestsRow.holds Tryz.pinned (OpenSpec.ofChange memfsReadOnlyRequestsWrong)

/-- 'farshelflaw3.MemfsRunIsIncremental': WHATEVER THE INPUT: true; the input reads as it did. -/
def memfsRunIsIncrementalSpec : ChangeSpec := { name := "memfsRunIsIncremental", fn := fun _ => fun
  | [d1, d2] => { results := [.lit (.bool true)], args := [d1, d2] }
  | _ => none }
def memfsRunIsIncrementalRow : OpenClaim := { program := "ytacabfhkinfpbaagreatdoor", sum := "437298e3ffc197f96bd1e4d77d0784338d1274ff128a0d7d4cdeea4db991c23d", func := "farshelf/farshelflaw3.MemfsRunIsIncremental", spec := "memfsRunIsIncremental", inPlace := ["internal/bytealg.CountString", "internal/bytealg.IndexByteString", "internal/bytealg.IndexString", "internal/abi.NoEscape", "internal/bytealg.MakeNoZero", "slices.overlaps[farshelf/api.DirEntry]"], unfollowed := true, recurses := true, named := ["unicode/utf8.first", "unicode/utf8.acceptRanges", "internal/bytealg.MaxLen"], apart := false, laid := [("unicode/utf8.acceptRanges", laid_unicode_utf8_acceptRanges), ("unicode/utf8.first", laid_unicode_utf8_first)] }
def MemfsRunIsIncrementalSaid : Prop := memfsRunIsIncrementalRow.holds Tryz.pinned (OpenSpec.ofChange memfsRunIsIncrementalSpec)

/-- ITS FALSE NEIGHBOUR: 'it returns false'. Refute it at one input. -/
def memfsRunIsIncrementalWrong : ChangeSpec := { name := "memfsRunIsIncremental", fn := fun _ => fun
  | [d1, d2] => { results := [.lit (.bool false)], args := [d1, d2] }
  | _ => none }
def MemfsRunIsIncrementalWrongFalsely : Prop := memfsRunIsIncrementalRow.holds Tryz.pinned (OpenSpec.ofChange memfsRunIsIncrementalWrong)

/-- 'farshelflaw3.MemfsReadAfterWrite': WHATEVER THE INPUT: true; the input reads as it did. -/
def memfsReadAfterWriteSpec : ChangeSpec := { name := "memfsReadAfterWrite", fn := fun _ => fun
  | [d1, d2] => { results := [.lit (.bool true)], args := [d1, d2] }
  | _ => none }
def memfsReadAfterWriteRow : OpenClaim := { program := "ytacabfhkinfpbaagreatdoor", sum := "437298e3ffc197f96bd1e4d77d0784338d1274ff128a0d7d4cdeea4db991c23d", func := "farshelf/farshelflaw3.MemfsReadAfterWrite", spec := "memfsReadAfterWrite", inPlace := ["internal/abi.NoEscape", "internal/bytealg.MakeNoZero", "internal/bytealg.CountString", "internal/bytealg.IndexByteString", "internal/bytealg.IndexString", "slices.overlaps[farshelf/api.DirEntry]"], unfollowed := true, recurses := true, named := ["unicode/utf8.first", "unicode/utf8.acceptRanges", "internal/bytealg.MaxLen"], apart := false, laid := [("unicode/utf8.acceptRanges", laid_unicode_utf8_acceptRanges), ("unicode/utf8.first", laid_unicode_utf8_first)] }
def MemfsReadAfterWriteSaid : Prop := memfsReadAfterWriteRow.holds Tryz.pinned (OpenSpec.ofChange memfsReadAfterWriteSpec)

/-- ITS FALSE NEIGHBOUR: 'it returns false'. Refute it at one input. -/
def memfsReadAfterWriteWrong : ChangeSpec := { name := "memfsReadAfterWrite", fn := fun _ => fun
  | [d1, d2] => { results := [.lit (.bool false)], args := [d1, d2] }
  | _ => none }
def MemfsReadAfterWriteWrongFalsely : Prop := memfsReadAfterWriteRow.holds Tryz.pinned (OpenSpec.ofChange memfsReadAfterWriteWrong)

/-- 'farshelflaw3.MemfsRenameRoundTrip': WHATEVER THE INPUT: true; the input reads as it did. -/
def memfsRenameRoundTripSpec : ChangeSpec := { name := "memfsRenameRoundTrip", fn := fun _ => fun
  | [d1, d2] => { results := [.lit (.bool true)], args := [d1, d2] }
  | _ => none }
def memfsRenameRoundTripRow : OpenClaim := { program := "ytacabfhkinfpbaagreatdoor", sum := "437298e3ffc197f96bd1e4d77d0784338d1274ff128a0d7d4cdeea4db991c23d", func := "farshelf/farshelflaw3.MemfsRenameRoundTrip", spec := "memfsRenameRoundTrip", inPlace := ["internal/abi.NoEscape", "internal/bytealg.MakeNoZero", "internal/bytealg.CountString", "internal/bytealg.IndexByteString", "internal/bytealg.IndexString", "slices.overlaps[farshelf/api.DirEntry]"], unfollowed := true, recurses := true, named := ["unicode/utf8.first", "unicode/utf8.acceptRanges", "internal/bytealg.MaxLen"], apart := false, laid := [("unicode/utf8.acceptRanges", laid_unicode_utf8_acceptRanges), ("unicode/utf8.first", laid_unicode_utf8_first)] }
def MemfsRenameRoundTripSaid : Prop := memfsRenameRoundTripRow.holds Tryz.pinned (OpenSpec.ofChange memfsRenameRoundTripSpec)

/-- ITS FALSE NEIGHBOUR: 'it returns false'. Refute it at one input. -/
def memfsRenameRoundTripWrong : ChangeSpec := { name := "memfsRenameRoundTrip", fn := fun _ => fun
  | [d1, d2] => { results := [.lit (.bool false)], args := [d1, d2] }
  | _ => none }
def MemfsRenameRoundTripWrongFalsely : Prop := memfsRenameRoundTripRow.holds Tryz.pinned (OpenSpec.ofChange memfsRenameRoundTripWrong)

/-- 'farshelflaw3.MemfsLinkSharesInode': WHATEVER THE INPUT: true; the input reads as it did. -/
def memfsLinkSharesInodeSpec : ChangeSpec := { name := "memfsLinkSharesInode", fn := fun _ => fun
  | [d1, d2, d3] => { results := [.lit (.bool true)], args := [d1, d2, d3] }
  | _ => none }
def memfsLinkSharesInodeRow : OpenClaim := { program := "ytacabfhkinfpbaagreatdoor", sum := "437298e3ffc197f96bd1e4d77d0784338d1274ff128a0d7d4cdeea4db991c23d", func := "farshelf/farshelflaw3.MemfsLinkSharesInode", spec := "memfsLinkSharesInode", inPlace := ["internal/abi.NoEscape", "internal/bytealg.MakeNoZero", "internal/bytealg.CountString", "internal/bytealg.IndexByteString", "internal/bytealg.IndexString", "slices.overlaps[farshelf/api.DirEntry]"], unfollowed := true, recurses := true, named := ["unicode/utf8.first", "unicode/utf8.acceptRanges", "internal/bytealg.MaxLen"], apart := false, laid := [("unicode/utf8.acceptRanges", laid_unicode_utf8_acceptRanges), ("unicode/utf8.first", laid_unicode_utf8_first)] }
def MemfsLinkSharesInodeSaid : Prop := memfsLinkSharesInodeRow.holds Tryz.pinned (OpenSpec.ofChange memfsLinkSharesInodeSpec)

/-- ITS FALSE NEIGHBOUR: 'it returns false'. Refute it at one input. -/
def memfsLinkSharesInodeWrong : ChangeSpec := { name := "memfsLinkSharesInode", fn := fun _ => fun
  | [d1, d2, d3] => { results := [.lit (.bool false)], args := [d1, d2, d3] }
  | _ => none }
def MemfsLinkSharesInodeWrongFalsely : Prop := memfsLinkSharesInodeRow.holds Tryz.pinned (OpenSpec.ofChange memfsLinkSharesInodeWrong)

/-- 'farshelflaw3.MemfsSearchPermission': WHATEVER THE INPUT: true; the input reads as it did. -/
def memfsSearchPermissionSpec : ChangeSpec := { name := "memfsSearchPermission", fn := fun _ => fun
  | [d1, d2] => { results := [.lit (.bool true)], args := [d1, d2] }
  | _ => none }
def memfsSearchPermissionRow : OpenClaim := { program := "ytacabfhkinfpbaagreatdoor", sum := "437298e3ffc197f96bd1e4d77d0784338d1274ff128a0d7d4cdeea4db991c23d", func := "farshelf/farshelflaw3.MemfsSearchPermission", spec := "memfsSearchPermission", inPlace := ["internal/abi.NoEscape", "internal/bytealg.MakeNoZero", "internal/bytealg.CountString", "internal/bytealg.IndexByteString", "internal/bytealg.IndexString", "slices.overlaps[farshelf/api.DirEntry]"], unfollowed := true, recurses := true, named := ["unicode/utf8.first", "unicode/utf8.acceptRanges", "internal/bytealg.MaxLen"], apart := false, laid := [("unicode/utf8.acceptRanges", laid_unicode_utf8_acceptRanges), ("unicode/utf8.first", laid_unicode_utf8_first)] }
def MemfsSearchPermissionSaid : Prop := memfsSearchPermissionRow.holds Tryz.pinned (OpenSpec.ofChange memfsSearchPermissionSpec)

/-- ITS FALSE NEIGHBOUR: 'it returns false'. Refute it at one input. -/
def memfsSearchPermissionWrong : ChangeSpec := { name := "memfsSearchPermission", fn := fun _ => fun
  | [d1, d2] => { results := [.lit (.bool false)], args := [d1, d2] }
  | _ => none }
def MemfsSearchPermissionWrongFalsely : Prop := memfsSearchPermissionRow.holds Tryz.pinned (OpenSpec.ofChange memfsSearchPermissionWrong)

/-- 'farshelflaw3.MemfsSuperuser': WHATEVER THE INPUT: true; the input reads as it did. -/
def memfsSuperuserSpec : ChangeSpec := { name := "memfsSuperuser", fn := fun _ => fun
  | [d1, d2] => { results := [.lit (.bool true)], args := [d1, d2] }
  | _ => none }
def memfsSuperuserRow : OpenClaim := { program := "ytacabfhkinfpbaagreatdoor", sum := "437298e3ffc197f96bd1e4d77d0784338d1274ff128a0d7d4cdeea4db991c23d", func := "farshelf/farshelflaw3.MemfsSuperuser", spec := "memfsSuperuser", inPlace := ["internal/abi.NoEscape", "internal/bytealg.MakeNoZero", "internal/bytealg.CountString", "internal/bytealg.IndexByteString", "internal/bytealg.IndexString", "slices.overlaps[farshelf/api.DirEntry]"], unfollowed := true, recurses := true, named := ["unicode/utf8.first", "unicode/utf8.acceptRanges", "internal/bytealg.MaxLen"], apart := false, laid := [("unicode/utf8.acceptRanges", laid_unicode_utf8_acceptRanges), ("unicode/utf8.first", laid_unicode_utf8_first)] }
def MemfsSuperuserSaid : Prop := memfsSuperuserRow.holds Tryz.pinned (OpenSpec.ofChange memfsSuperuserSpec)

/-- ITS FALSE NEIGHBOUR: 'it returns false'. Refute it at one input. -/
def memfsSuperuserWrong : ChangeSpec := { name := "memfsSuperuser", fn := fun _ => fun
  | [d1, d2] => { results := [.lit (.bool false)], args := [d1, d2] }
  | _ => none }
def MemfsSuperuserWrongFalsely : Prop := memfsSuperuserRow.holds Tryz.pinned (OpenSpec.ofChange memfsSuperuserWrong)

/-- 'farshelflaw3.MemfsQuotaInvariant': WHATEVER THE INPUT: true; the input reads as it did. -/
def memfsQuotaInvariantSpec : ChangeSpec := { name := "memfsQuotaInvariant", fn := fun _ => fun
  | [d] => { results := [.lit (.bool true)], args := [d] }
  | _ => none }
def memfsQuotaInvariantRow : OpenClaim := { program := "ytacabfhkinfpbaagreatdoor", sum := "437298e3ffc197f96bd1e4d77d0784338d1274ff128a0d7d4cdeea4db991c23d", func := "farshelf/farshelflaw3.MemfsQuotaInvariant", spec := "memfsQuotaInvariant", inPlace := ["internal/bytealg.CountString", "internal/bytealg.IndexByteString", "internal/bytealg.IndexString", "internal/abi.NoEscape", "internal/bytealg.MakeNoZero", "slices.overlaps[farshelf/api.DirEntry]"], unfollowed := true, recurses := true, named := ["unicode/utf8.first", "unicode/utf8.acceptRanges", "internal/bytealg.MaxLen"], apart := false, laid := [("unicode/utf8.acceptRanges", laid_unicode_utf8_acceptRanges), ("unicode/utf8.first", laid_unicode_utf8_first)] }
def MemfsQuotaInvariantSaid : Prop := memfsQuotaInvariantRow.holds Tryz.pinned (OpenSpec.ofChange memfsQuotaInvariantSpec)

/-- ITS FALSE NEIGHBOUR: 'it returns false'. Refute it at one input. -/
def memfsQuotaInvariantWrong : ChangeSpec := { name := "memfsQuotaInvariant", fn := fun _ => fun
  | [d] => { results := [.lit (.bool false)], args := [d] }
  | _ => none }
def MemfsQuotaInvariantWrongFalsely : Prop := memfsQuotaInvariantRow.holds Tryz.pinned (OpenSpec.ofChange memfsQuotaInvariantWrong)

/-- 'farshelflaw3.MemfsDisjointSubtreesCommute': WHATEVER THE INPUT: true; the input reads as it did. -/
def memfsDisjointSubtreesCommuteSpec : ChangeSpec := { name := "memfsDisjointSubtreesCommute", fn := fun _ => fun
  | [d] => { results := [.lit (.bool true)], args := [d] }
  | _ => none }
def memfsDisjointSubtreesCommuteRow : OpenClaim := { program := "ytacabfhkinfpbaagreatdoor", sum := "437298e3ffc197f96bd1e4d77d0784338d1274ff128a0d7d4cdeea4db991c23d", func := "farshelf/farshelflaw3.MemfsDisjointSubtreesCommute", spec := "memfsDisjointSubtreesCommute", inPlace := ["internal/bytealg.CountString", "internal/bytealg.IndexByteString", "internal/bytealg.IndexString", "internal/abi.NoEscape", "internal/bytealg.MakeNoZero", "slices.overlaps[farshelf/api.DirEntry]"], unfollowed := true, recurses := true, named := ["unicode/utf8.first", "unicode/utf8.acceptRanges", "internal/bytealg.MaxLen"], apart := false, laid := [("unicode/utf8.acceptRanges", laid_unicode_utf8_acceptRanges), ("unicode/utf8.first", laid_unicode_utf8_first)] }
def MemfsDisjointSubtreesCommuteSaid : Prop := memfsDisjointSubtreesCommuteRow.holds Tryz.pinned (OpenSpec.ofChange memfsDisjointSubtreesCommuteSpec)

/-- ITS FALSE NEIGHBOUR: 'it returns false'. Refute it at one input. -/
def memfsDisjointSubtreesCommuteWrong : ChangeSpec := { name := "memfsDisjointSubtreesCommute", fn := fun _ => fun
  | [d] => { results := [.lit (.bool false)], args := [d] }
  | _ => none }
def MemfsDisjointSubtreesCommuteWrongFalsely : Prop := memfsDisjointSubtreesCommuteRow.holds Tryz.pinned (OpenSpec.ofChange memfsDisjointSubtreesCommuteWrong)

/- THE SECOND FORM. 'bulk': how many values and letters a reading holds, each counted each time it is reached (what is shared counts as often as it is met; a slice's spare places count too). A statement '..UptoSaid' is the law's where the arguments, and the package variables that the reading takes, are together of bulk at most 1048576: NARROWER than '..Said'. Prove '..Said' where nothing that the law and all that it calls make is longer than what came in: it says more and counts as full. Else prove '..UptoSaid'. A law counts once. -/
mutual
def uptoBulk {H : Type} : DataW H → Nat
  | .lit (.string bytes) => bytes.length + 1
  | .lit _ => 1
  | .nil => 1
  | .ptr d => uptoBulk d + 1
  | .slice elems spare => uptoBulkAll elems + uptoBulkAll spare + 1
  | .agg parts => uptoBulkAll parts + 1
  | .iface _ d => uptoBulk d + 1
  | .map entries => uptoBulkEntries entries + 1
  | .held _ => 1
def uptoBulkAll {H : Type} : List (DataW H) → Nat
  | [] => 0
  | d :: r => uptoBulk d + uptoBulkAll r
def uptoBulkEntries {H : Type} : List (Lit × DataW H) → Nat
  | [] => 0
  | x :: r => uptoBulkEntry x + uptoBulkEntries r
def uptoBulkEntry {H : Type} : Lit × DataW H → Nat
  | (.string bytes, d) => bytes.length + uptoBulk d + 1
  | (_, d) => uptoBulk d + 1
 end
def uptoSmall : (H : Type) → List (DataW H) → Bool := fun _ ds => decide (uptoBulkAll ds ≤ 1048576)
def OpenSpec.upto (s : _root_.Go.ChangeSpec) : _root_.Go.OpenSpec := { _root_.Go.OpenSpec.ofChange s with cond := some uptoSmall }

/-- 'farshelflaw3.MemfsApplyPreservesValidity', WHERE WHAT IT READS IS OF BULK AT MOST 1048576: true; the input reads as it did. -/
def memfsApplyPreservesValidityUptoRow : OpenClaim := { program := "ytacabfhkinfpbaagreatdoor", sum := "437298e3ffc197f96bd1e4d77d0784338d1274ff128a0d7d4cdeea4db991c23d", func := "farshelf/farshelflaw3.MemfsApplyPreservesValidity", spec := "memfsApplyPreservesValidity", inPlace := ["internal/abi.NoEscape", "internal/bytealg.MakeNoZero", "internal/bytealg.CountString", "internal/bytealg.IndexByteString", "internal/bytealg.IndexString", "slices.overlaps[farshelf/api.DirEntry]"], unfollowed := true, recurses := true, named := ["unicode/utf8.first", "unicode/utf8.acceptRanges", "internal/bytealg.MaxLen"], apart := false, laid := [("unicode/utf8.acceptRanges", laid_unicode_utf8_acceptRanges), ("unicode/utf8.first", laid_unicode_utf8_first)], narrowed := true }
def MemfsApplyPreservesValidityUptoSaid : Prop := memfsApplyPreservesValidityUptoRow.holds Tryz.pinned (OpenSpec.upto memfsApplyPreservesValiditySpec)

/-- 'farshelflaw3.MemfsReadOnlyRequests', WHERE WHAT IT READS IS OF BULK AT MOST 1048576: true; the input reads as it did. -/
def memfsReadOnlyRequestsUptoRow : OpenClaim := { program := "ytacabfhkinfpbaagreatdoor", sum := "437298e3ffc197f96bd1e4d77d0784338d1274ff128a0d7d4cdeea4db991c23d", func := "farshelf/farshelflaw3.MemfsReadOnlyRequests", spec := "memfsReadOnlyRequests", inPlace := ["internal/abi.NoEscape", "internal/bytealg.MakeNoZero", "internal/bytealg.CountString", "internal/bytealg.IndexByteString", "internal/bytealg.IndexString", "slices.overlaps[farshelf/api.DirEntry]"], unfollowed := true, recurses := true, named := ["unicode/utf8.first", "unicode/utf8.acceptRanges", "internal/bytealg.MaxLen"], apart := false, laid := [("unicode/utf8.acceptRanges", laid_unicode_utf8_acceptRanges), ("unicode/utf8.first", laid_unicode_utf8_first)], narrowed := true }
def MemfsReadOnlyRequestsUptoSaid : Prop := memfsReadOnlyRequestsUptoRow.holds Tryz.pinned (OpenSpec.upto memfsReadOnlyRequestsSpec)

/-- 'farshelflaw3.MemfsRunIsIncremental', WHERE WHAT IT READS IS OF BULK AT MOST 1048576: true; the input reads as it did. -/
def memfsRunIsIncrementalUptoRow : OpenClaim := { program := "ytacabfhkinfpbaagreatdoor", sum := "437298e3ffc197f96bd1e4d77d0784338d1274ff128a0d7d4cdeea4db991c23d", func := "farshelf/farshelflaw3.MemfsRunIsIncremental", spec := "memfsRunIsIncremental", inPlace := ["internal/bytealg.CountString", "internal/bytealg.IndexByteString", "internal/bytealg.IndexString", "internal/abi.NoEscape", "internal/bytealg.MakeNoZero", "slices.overlaps[farshelf/api.DirEntry]"], unfollowed := true, recurses := true, named := ["unicode/utf8.first", "unicode/utf8.acceptRanges", "internal/bytealg.MaxLen"], apart := false, laid := [("unicode/utf8.acceptRanges", laid_unicode_utf8_acceptRanges), ("unicode/utf8.first", laid_unicode_utf8_first)], narrowed := true }
def MemfsRunIsIncrementalUptoSaid : Prop := memfsRunIsIncrementalUptoRow.holds Tryz.pinned (OpenSpec.upto memfsRunIsIncrementalSpec)

/-- 'farshelflaw3.MemfsReadAfterWrite', WHERE WHAT IT READS IS OF BULK AT MOST 1048576: true; the input reads as it did. -/
def memfsReadAfterWriteUptoRow : OpenClaim := { program := "ytacabfhkinfpbaagreatdoor", sum := "437298e3ffc197f96bd1e4d77d0784338d1274ff128a0d7d4cdeea4db991c23d", func := "farshelf/farshelflaw3.MemfsReadAfterWrite", spec := "memfsReadAfterWrite", inPlace := ["internal/abi.NoEscape", "internal/bytealg.MakeNoZero", "internal/bytealg.CountString", "internal/bytealg.IndexByteString", "internal/bytealg.IndexString", "slices.overlaps[farshelf/api.DirEntry]"], unfollowed := true, recurses := true, named := ["unicode/utf8.first", "unicode/utf8.acceptRanges", "internal/bytealg.MaxLen"], apart := false, laid := [("unicode/utf8.acceptRanges", laid_unicode_utf8_acceptRanges), ("unicode/utf8.first", laid_unicode_utf8_first)], narrowed := true }
def MemfsReadAfterWriteUptoSaid : Prop := memfsReadAfterWriteUptoRow.holds Tryz.pinned (OpenSpec.upto memfsReadAfterWriteSpec)

/-- 'farshelflaw3.MemfsRenameRoundTrip', WHERE WHAT IT READS IS OF BULK AT MOST 1048576: true; the input reads as it did. -/
def memfsRenameRoundTripUptoRow : OpenClaim := { program := "ytacabfhkinfpbaagreatdoor", sum := "437298e3ffc197f96bd1e4d77d0784338d1274ff128a0d7d4cdeea4db991c23d", func := "farshelf/farshelflaw3.MemfsRenameRoundTrip", spec := "memfsRenameRoundTrip", inPlace := ["internal/abi.NoEscape", "internal/bytealg.MakeNoZero", "internal/bytealg.CountString", "internal/bytealg.IndexByteString", "internal/bytealg.IndexString", "slices.overlaps[farshelf/api.DirEntry]"], unfollowed := true, recurses := true, named := ["unicode/utf8.first", "unicode/utf8.acceptRanges", "internal/bytealg.MaxLen"], apart := false, laid := [("unicode/utf8.acceptRanges", laid_unicode_utf8_acceptRanges), ("unicode/utf8.first", laid_unicode_utf8_first)], narrowed := true }
def MemfsRenameRoundTripUptoSaid : Prop := memfsRenameRoundTripUptoRow.holds Tryz.pinned (OpenSpec.upto memfsRenameRoundTripSpec)

/-- 'farshelflaw3.MemfsLinkSharesInode', WHERE WHAT IT READS IS OF BULK AT MOST 1048576: true; the input reads as it did. -/
def memfsLinkSharesInodeUptoRow : OpenClaim := { program := "ytacabfhkinfpbaagreatdoor", sum := "437298e3ffc197f96bd1e4d77d0784338d1274ff128a0d7d4cdeea4db991c23d", func := "farshelf/farshelflaw3.MemfsLinkSharesInode", spec := "memfsLinkSharesInode", inPlace := ["internal/abi.NoEscape", "internal/bytealg.MakeNoZero", "internal/bytealg.CountString", "internal/bytealg.IndexByteString", "internal/bytealg.IndexString", "slices.overlaps[farshelf/api.DirEntry]"], unfollowed := true, recurses := true, named := ["unicode/utf8.first", "unicode/utf8.acceptRanges", "internal/bytealg.MaxLen"], apart := false, laid := [("unicode/utf8.acceptRanges", laid_unicode_utf8_acceptRanges), ("unicode/utf8.first", laid_unicode_utf8_first)], narrowed := true }
def MemfsLinkSharesInodeUptoSaid : Prop := memfsLinkSharesInodeUptoRow.holds Tryz.pinned (OpenSpec.upto memfsLinkSharesInodeSpec)

/-- 'farshelflaw3.MemfsSearchPermission', WHERE WHAT IT READS IS OF BULK AT MOST 1048576: true; the input reads as it did. -/
def memfsSearchPermissionUptoRow : OpenClaim := { program := "ytacabfhkinfpbaagreatdoor", sum := "437298e3ffc197f96bd1e4d77d0784338d1274ff128a0d7d4cdeea4db991c23d", func := "farshelf/farshelflaw3.MemfsSearchPermission", spec := "memfsSearchPermission", inPlace := ["internal/abi.NoEscape", "internal/bytealg.MakeNoZero", "internal/bytealg.CountString", "internal/bytealg.IndexByteString", "internal/bytealg.IndexString", "slices.overlaps[farshelf/api.DirEntry]"], unfollowed := true, recurses := true, named := ["unicode/utf8.first", "unicode/utf8.acceptRanges", "internal/bytealg.MaxLen"], apart := false, laid := [("unicode/utf8.acceptRanges", laid_unicode_utf8_acceptRanges), ("unicode/utf8.first", laid_unicode_utf8_first)], narrowed := true }
def MemfsSearchPermissionUptoSaid : Prop := memfsSearchPermissionUptoRow.holds Tryz.pinned (OpenSpec.upto memfsSearchPermissionSpec)

/-- 'farshelflaw3.MemfsSuperuser', WHERE WHAT IT READS IS OF BULK AT MOST 1048576: true; the input reads as it did. -/
def memfsSuperuserUptoRow : OpenClaim := { program := "ytacabfhkinfpbaagreatdoor", sum := "437298e3ffc197f96bd1e4d77d0784338d1274ff128a0d7d4cdeea4db991c23d", func := "farshelf/farshelflaw3.MemfsSuperuser", spec := "memfsSuperuser", inPlace := ["internal/abi.NoEscape", "internal/bytealg.MakeNoZero", "internal/bytealg.CountString", "internal/bytealg.IndexByteString", "internal/bytealg.IndexString", "slices.overlaps[farshelf/api.DirEntry]"], unfollowed := true, recurses := true, named := ["unicode/utf8.first", "unicode/utf8.acceptRanges", "internal/bytealg.MaxLen"], apart := false, laid := [("unicode/utf8.acceptRanges", laid_unicode_utf8_acceptRanges), ("unicode/utf8.first", laid_unicode_utf8_first)], narrowed := true }
def MemfsSuperuserUptoSaid : Prop := memfsSuperuserUptoRow.holds Tryz.pinned (OpenSpec.upto memfsSuperuserSpec)

/-- 'farshelflaw3.MemfsQuotaInvariant', WHERE WHAT IT READS IS OF BULK AT MOST 1048576: true; the input reads as it did. -/
def memfsQuotaInvariantUptoRow : OpenClaim := { program := "ytacabfhkinfpbaagreatdoor", sum := "437298e3ffc197f96bd1e4d77d0784338d1274ff128a0d7d4cdeea4db991c23d", func := "farshelf/farshelflaw3.MemfsQuotaInvariant", spec := "memfsQuotaInvariant", inPlace := ["internal/bytealg.CountString", "internal/bytealg.IndexByteString", "internal/bytealg.IndexString", "internal/abi.NoEscape", "internal/bytealg.MakeNoZero", "slices.overlaps[farshelf/api.DirEntry]"], unfollowed := true, recurses := true, named := ["unicode/utf8.first", "unicode/utf8.acceptRanges", "internal/bytealg.MaxLen"], apart := false, laid := [("unicode/utf8.acceptRanges", laid_unicode_utf8_acceptRanges), ("unicode/utf8.first", laid_unicode_utf8_first)], narrowed := true }
def MemfsQuotaInvariantUptoSaid : Prop := memfsQuotaInvariantUptoRow.holds Tryz.pinned (OpenSpec.upto memfsQuotaInvariantSpec)

/-- 'farshelflaw3.MemfsDisjointSubtreesCommute', WHERE WHAT IT READS IS OF BULK AT MOST 1048576: true; the input reads as it did. -/
def memfsDisjointSubtreesCommuteUptoRow : OpenClaim := { program := "ytacabfhkinfpbaagreatdoor", sum := "437298e3ffc197f96bd1e4d77d0784338d1274ff128a0d7d4cdeea4db991c23d", func := "farshelf/farshelflaw3.MemfsDisjointSubtreesCommute", spec := "memfsDisjointSubtreesCommute", inPlace := ["internal/bytealg.CountString", "internal/bytealg.IndexByteString", "internal/bytealg.IndexString", "internal/abi.NoEscape", "internal/bytealg.MakeNoZero", "slices.overlaps[farshelf/api.DirEntry]"], unfollowed := true, recurses := true, named := ["unicode/utf8.first", "unicode/utf8.acceptRanges", "internal/bytealg.MaxLen"], apart := false, laid := [("unicode/utf8.acceptRanges", laid_unicode_utf8_acceptRanges), ("unicode/utf8.first", laid_unicode_utf8_first)], narrowed := true }
def MemfsDisjointSubtreesCommuteUptoSaid : Prop := memfsDisjointSubtreesCommuteUptoRow.holds Tryz.pinned (OpenSpec.upto memfsDisjointSubtreesCommuteSpec)

end Rows
end Go.Proofs.YtacabfhkinfpbaaGreatDoor
