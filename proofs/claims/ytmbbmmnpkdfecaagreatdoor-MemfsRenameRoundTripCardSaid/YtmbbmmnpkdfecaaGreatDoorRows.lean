/-
  NARROWER THAN 'FOR EVERY INPUT', by the rows' own cells (each row's printed sentence says how): MemfsApplyMatchesSpec: laid · MemfsRunMatchesSpec: laid · MemfsRunIsIncremental: laid · MemfsReadAfterWrite: laid · MemfsRenameRoundTrip: laid · MemfsLinkSharesInode: laid · MemfsDisjointSubtreesCommute: laid · HardlinkCountsFollowRequests: laid · QuotaRemainingIsExact: laid.
  DERIVED. THE GIVEN ROWS OF THIS SEAT. 9 by the template 'for every input the law returns true; each argument reads behind the call as it read before'; 0 by the template 'total and deterministic' (their statements: YtmbbmmnpkdfecaaGreatDoorTotals.lean).
  GIVEN WITH THE SEED: the statements are not yours to turn. If you find one false, say at which input.
  Laid BY PROGRAM, IN A SANDBOX (cutbox-rows.mjs): the forced cells as the released guide's own fill.sh prints them over the translation fd152c5080c0014b… (all of the seat's roots in one cut). By AI agents, Wed Nov 11 2026. No macro, syntax, notation, axiom, sorry.
-/
import Derived.Test.YtmbbmmnpkdfecaaGreatDoorChecked
import GoSem.PinnedTables
import GoSem.Claim
import GoSem.ClaimJoined
import GoSem.ClaimMapViews
import Derived.JoinedTies
import Derived.KernelRfl
namespace Go.Proofs.YtmbbmmnpkdfecaaGreatDoor
/- THE CELL 'sum', in the pinned program and in every row, IS THE sha256 OF THE DUMP (.gsa) THAT YtmbbmmnpkdfecaaGreatDoorProg.lean LOADS. Nothing in Lean hashes anything: it is a label: what it is worth is what the hold of that sum in a sandbox is worth. -/
noncomputable def Tryz.pinned : Pinned := { name := "ytmbbmmnpkdfecaagreatdoor", sum := "fd152c5080c0014bea34435b50ba81bf6a2efa3db5d82b6399564df912f93e91", checked := Tryz.checked }
namespace Rows
def none {H : Type} : Left H := { results := [], args := [] }

/- WHAT THE LISTED PACKAGE-LEVEL VARIABLES READ AS WHEN THE CALL BEGINS. Each datum BY PROGRAM (the guide's laid-datum.mjs) off the statement by which the dump's own 'gosem.cut.vars' lays the variable. In a bare row this is a premise. The card (YtmbbmmnpkdfecaaGreatDoorCards.lean) ties it to the program's text. -/
def laid_unicode_utf8_acceptRanges {H : Type} : DataW H := .agg [.agg [.lit (.int .u8 128), .lit (.int .u8 191)], .agg [.lit (.int .u8 160), .lit (.int .u8 191)], .agg [.lit (.int .u8 128), .lit (.int .u8 159)], .agg [.lit (.int .u8 144), .lit (.int .u8 191)], .agg [.lit (.int .u8 128), .lit (.int .u8 143)], .agg [.lit (.int .u8 0), .lit (.int .u8 0)], .agg [.lit (.int .u8 0), .lit (.int .u8 0)], .agg [.lit (.int .u8 0), .lit (.int .u8 0)], .agg [.lit (.int .u8 0), .lit (.int .u8 0)], .agg [.lit (.int .u8 0), .lit (.int .u8 0)], .agg [.lit (.int .u8 0), .lit (.int .u8 0)], .agg [.lit (.int .u8 0), .lit (.int .u8 0)], .agg [.lit (.int .u8 0), .lit (.int .u8 0)], .agg [.lit (.int .u8 0), .lit (.int .u8 0)], .agg [.lit (.int .u8 0), .lit (.int .u8 0)], .agg [.lit (.int .u8 0), .lit (.int .u8 0)]]
/-- One of Go's own tables, pinned by name: the form's constant. -/
def laid_unicode_utf8_first : DataW Unit := Go.Pinned.utf8First

/-- 'farshelflaw3.MemfsApplyMatchesSpec': WHATEVER THE INPUT: true; the input reads as it did. -/
def memfsApplyMatchesSpecSpec : ChangeSpec := { name := "memfsApplyMatchesSpec", fn := fun _ => fun
  | [d1, d2] => { results := [.lit (.bool true)], args := [d1, d2] }
  | _ => none }
def memfsApplyMatchesSpecRow : OpenClaim := { program := "ytmbbmmnpkdfecaagreatdoor", sum := "fd152c5080c0014bea34435b50ba81bf6a2efa3db5d82b6399564df912f93e91", func := "farshelf/farshelflaw3.MemfsApplyMatchesSpec", spec := "memfsApplyMatchesSpec", inPlace := ["internal/abi.NoEscape", "internal/bytealg.MakeNoZero", "internal/bytealg.CountString", "internal/bytealg.IndexByteString", "internal/bytealg.IndexString", "slices.overlaps[farshelf/api.DirEntry]"], unfollowed := true, recurses := true, named := ["unicode/utf8.first", "unicode/utf8.acceptRanges", "internal/bytealg.MaxLen"], apart := false, laid := [("unicode/utf8.acceptRanges", laid_unicode_utf8_acceptRanges), ("unicode/utf8.first", laid_unicode_utf8_first)] }
def MemfsApplyMatchesSpecSaid : Prop := memfsApplyMatchesSpecRow.holds Tryz.pinned (OpenSpec.ofChange memfsApplyMatchesSpecSpec)

/-- ITS FALSE NEIGHBOUR: 'it returns false'. Refute it at one input. -/
def memfsApplyMatchesSpecWrong : ChangeSpec := { name := "memfsApplyMatchesSpec", fn := fun _ => fun
  | [d1, d2] => { results := [.lit (.bool false)], args := [d1, d2] }
  | _ => none }
def MemfsApplyMatchesSpecWrongFalsely : Prop := memfsApplyMatchesSpecRow.holds Tryz.pinned (OpenSpec.ofChange memfsApplyMatchesSpecWrong)

/-- 'farshelflaw3.MemfsRunMatchesSpec': WHATEVER THE INPUT: true; the input reads as it did. -/
def memfsRunMatchesSpecSpec : ChangeSpec := { name := "memfsRunMatchesSpec", fn := fun _ => fun
  | [d] => { results := [.lit (.bool true)], args := [d] }
  | _ => none }
def memfsRunMatchesSpecRow : OpenClaim := { program := "ytmbbmmnpkdfecaagreatdoor", sum := "fd152c5080c0014bea34435b50ba81bf6a2efa3db5d82b6399564df912f93e91", func := "farshelf/farshelflaw3.MemfsRunMatchesSpec", spec := "memfsRunMatchesSpec", inPlace := ["internal/bytealg.CountString", "internal/bytealg.IndexByteString", "internal/bytealg.IndexString", "internal/abi.NoEscape", "internal/bytealg.MakeNoZero", "slices.overlaps[farshelf/api.DirEntry]"], unfollowed := true, recurses := true, named := ["unicode/utf8.first", "unicode/utf8.acceptRanges", "internal/bytealg.MaxLen"], apart := false, laid := [("unicode/utf8.acceptRanges", laid_unicode_utf8_acceptRanges), ("unicode/utf8.first", laid_unicode_utf8_first)] }
def MemfsRunMatchesSpecSaid : Prop := memfsRunMatchesSpecRow.holds Tryz.pinned (OpenSpec.ofChange memfsRunMatchesSpecSpec)

/-- ITS FALSE NEIGHBOUR: 'it returns false'. Refute it at one input. -/
def memfsRunMatchesSpecWrong : ChangeSpec := { name := "memfsRunMatchesSpec", fn := fun _ => fun
  | [d] => { results := [.lit (.bool false)], args := [d] }
  | _ => none }
def MemfsRunMatchesSpecWrongFalsely : Prop := memfsRunMatchesSpecRow.holds Tryz.pinned (OpenSpec.ofChange memfsRunMatchesSpecWrong)

/-- 'farshelflaw3.MemfsRunIsIncremental': WHATEVER THE INPUT: true; the input reads as it did. -/
def memfsRunIsIncrementalSpec : ChangeSpec := { name := "memfsRunIsIncremental", fn := fun _ => fun
  | [d1, d2] => { results := [.lit (.bool true)], args := [d1, d2] }
  | _ => none }
def memfsRunIsIncrementalRow : OpenClaim := { program := "ytmbbmmnpkdfecaagreatdoor", sum := "fd152c5080c0014bea34435b50ba81bf6a2efa3db5d82b6399564df912f93e91", func := "farshelf/farshelflaw3.MemfsRunIsIncremental", spec := "memfsRunIsIncremental", inPlace := ["internal/bytealg.CountString", "internal/bytealg.IndexByteString", "internal/bytealg.IndexString", "internal/abi.NoEscape", "internal/bytealg.MakeNoZero", "slices.overlaps[farshelf/api.DirEntry]"], unfollowed := true, recurses := true, named := ["unicode/utf8.first", "unicode/utf8.acceptRanges", "internal/bytealg.MaxLen"], apart := false, laid := [("unicode/utf8.acceptRanges", laid_unicode_utf8_acceptRanges), ("unicode/utf8.first", laid_unicode_utf8_first)] }
def MemfsRunIsIncrementalSaid : Prop := memfsRunIsIncrementalRow.holds Tryz.pinned (OpenSpec.ofChange memfsRunIsIncrementalSpec)

/-- ITS FALSE NEIGHBOUR: 'it returns false'. Refute it at one input. -/
def memfsRunIsIncrementalWrong : ChangeSpec := { name := "memfsRunIsIncremental", fn := fun _ => fun
  | [d1, d2] => { results := [.lit (.bool false)], args := [d1, d2] }
  | _ => none }
def MemfsRunIsIncrementalWrongFalsely : Prop := memfsRunIsIncrementalRow.holds Tryz.pinned (OpenSpec.ofChange memfsRunIsIncrementalWrong)

/-- 'farshelflaw3.MemfsReadAfterWrite': WHATEVER THE INPUT: true; the input reads as it did. -/
def memfsReadAfterWriteSpec : ChangeSpec := { name := "memfsReadAfterWrite", fn := fun _ => fun
  | [d1, d2] => { results := [.lit (.bool true)], args := [d1, d2] }
  | _ => none }
def memfsReadAfterWriteRow : OpenClaim := { program := "ytmbbmmnpkdfecaagreatdoor", sum := "fd152c5080c0014bea34435b50ba81bf6a2efa3db5d82b6399564df912f93e91", func := "farshelf/farshelflaw3.MemfsReadAfterWrite", spec := "memfsReadAfterWrite", inPlace := ["internal/abi.NoEscape", "internal/bytealg.MakeNoZero", "internal/bytealg.CountString", "internal/bytealg.IndexByteString", "internal/bytealg.IndexString", "slices.overlaps[farshelf/api.DirEntry]"], unfollowed := true, recurses := true, named := ["unicode/utf8.first", "unicode/utf8.acceptRanges", "internal/bytealg.MaxLen"], apart := false, laid := [("unicode/utf8.acceptRanges", laid_unicode_utf8_acceptRanges), ("unicode/utf8.first", laid_unicode_utf8_first)] }
def MemfsReadAfterWriteSaid : Prop := memfsReadAfterWriteRow.holds Tryz.pinned (OpenSpec.ofChange memfsReadAfterWriteSpec)

/-- ITS FALSE NEIGHBOUR: 'it returns false'. Refute it at one input. -/
def memfsReadAfterWriteWrong : ChangeSpec := { name := "memfsReadAfterWrite", fn := fun _ => fun
  | [d1, d2] => { results := [.lit (.bool false)], args := [d1, d2] }
  | _ => none }
def MemfsReadAfterWriteWrongFalsely : Prop := memfsReadAfterWriteRow.holds Tryz.pinned (OpenSpec.ofChange memfsReadAfterWriteWrong)

/-- 'farshelflaw3.MemfsRenameRoundTrip': WHATEVER THE INPUT: true; the input reads as it did. -/
def memfsRenameRoundTripSpec : ChangeSpec := { name := "memfsRenameRoundTrip", fn := fun _ => fun
  | [d1, d2] => { results := [.lit (.bool true)], args := [d1, d2] }
  | _ => none }
def memfsRenameRoundTripRow : OpenClaim := { program := "ytmbbmmnpkdfecaagreatdoor", sum := "fd152c5080c0014bea34435b50ba81bf6a2efa3db5d82b6399564df912f93e91", func := "farshelf/farshelflaw3.MemfsRenameRoundTrip", spec := "memfsRenameRoundTrip", inPlace := ["internal/abi.NoEscape", "internal/bytealg.MakeNoZero", "internal/bytealg.CountString", "internal/bytealg.IndexByteString", "internal/bytealg.IndexString", "slices.overlaps[farshelf/api.DirEntry]"], unfollowed := true, recurses := true, named := ["unicode/utf8.first", "unicode/utf8.acceptRanges", "internal/bytealg.MaxLen"], apart := false, laid := [("unicode/utf8.acceptRanges", laid_unicode_utf8_acceptRanges), ("unicode/utf8.first", laid_unicode_utf8_first)] }
def MemfsRenameRoundTripSaid : Prop := memfsRenameRoundTripRow.holds Tryz.pinned (OpenSpec.ofChange memfsRenameRoundTripSpec)

/-- ITS FALSE NEIGHBOUR: 'it returns false'. Refute it at one input. -/
def memfsRenameRoundTripWrong : ChangeSpec := { name := "memfsRenameRoundTrip", fn := fun _ => fun
  | [d1, d2] => { results := [.lit (.bool false)], args := [d1, d2] }
  | _ => none }
def MemfsRenameRoundTripWrongFalsely : Prop := memfsRenameRoundTripRow.holds Tryz.pinned (OpenSpec.ofChange memfsRenameRoundTripWrong)

/-- 'farshelflaw3.MemfsLinkSharesInode': WHATEVER THE INPUT: true; the input reads as it did. -/
def memfsLinkSharesInodeSpec : ChangeSpec := { name := "memfsLinkSharesInode", fn := fun _ => fun
  | [d1, d2, d3] => { results := [.lit (.bool true)], args := [d1, d2, d3] }
  | _ => none }
def memfsLinkSharesInodeRow : OpenClaim := { program := "ytmbbmmnpkdfecaagreatdoor", sum := "fd152c5080c0014bea34435b50ba81bf6a2efa3db5d82b6399564df912f93e91", func := "farshelf/farshelflaw3.MemfsLinkSharesInode", spec := "memfsLinkSharesInode", inPlace := ["internal/abi.NoEscape", "internal/bytealg.MakeNoZero", "internal/bytealg.CountString", "internal/bytealg.IndexByteString", "internal/bytealg.IndexString", "slices.overlaps[farshelf/api.DirEntry]"], unfollowed := true, recurses := true, named := ["unicode/utf8.first", "unicode/utf8.acceptRanges", "internal/bytealg.MaxLen"], apart := false, laid := [("unicode/utf8.acceptRanges", laid_unicode_utf8_acceptRanges), ("unicode/utf8.first", laid_unicode_utf8_first)] }
def MemfsLinkSharesInodeSaid : Prop := memfsLinkSharesInodeRow.holds Tryz.pinned (OpenSpec.ofChange memfsLinkSharesInodeSpec)

/-- ITS FALSE NEIGHBOUR: 'it returns false'. Refute it at one input. -/
def memfsLinkSharesInodeWrong : ChangeSpec := { name := "memfsLinkSharesInode", fn := fun _ => fun
  | [d1, d2, d3] => { results := [.lit (.bool false)], args := [d1, d2, d3] }
  | _ => none }
def MemfsLinkSharesInodeWrongFalsely : Prop := memfsLinkSharesInodeRow.holds Tryz.pinned (OpenSpec.ofChange memfsLinkSharesInodeWrong)

/-- 'farshelflaw3.MemfsDisjointSubtreesCommute': WHATEVER THE INPUT: true; the input reads as it did. -/
def memfsDisjointSubtreesCommuteSpec : ChangeSpec := { name := "memfsDisjointSubtreesCommute", fn := fun _ => fun
  | [d] => { results := [.lit (.bool true)], args := [d] }
  | _ => none }
def memfsDisjointSubtreesCommuteRow : OpenClaim := { program := "ytmbbmmnpkdfecaagreatdoor", sum := "fd152c5080c0014bea34435b50ba81bf6a2efa3db5d82b6399564df912f93e91", func := "farshelf/farshelflaw3.MemfsDisjointSubtreesCommute", spec := "memfsDisjointSubtreesCommute", inPlace := ["internal/bytealg.CountString", "internal/bytealg.IndexByteString", "internal/bytealg.IndexString", "internal/abi.NoEscape", "internal/bytealg.MakeNoZero", "slices.overlaps[farshelf/api.DirEntry]"], unfollowed := true, recurses := true, named := ["unicode/utf8.first", "unicode/utf8.acceptRanges", "internal/bytealg.MaxLen"], apart := false, laid := [("unicode/utf8.acceptRanges", laid_unicode_utf8_acceptRanges), ("unicode/utf8.first", laid_unicode_utf8_first)] }
def MemfsDisjointSubtreesCommuteSaid : Prop := memfsDisjointSubtreesCommuteRow.holds Tryz.pinned (OpenSpec.ofChange memfsDisjointSubtreesCommuteSpec)

/-- ITS FALSE NEIGHBOUR: 'it returns false'. Refute it at one input. -/
def memfsDisjointSubtreesCommuteWrong : ChangeSpec := { name := "memfsDisjointSubtreesCommute", fn := fun _ => fun
  | [d] => { results := [.lit (.bool false)], args := [d] }
  | _ => none }
def MemfsDisjointSubtreesCommuteWrongFalsely : Prop := memfsDisjointSubtreesCommuteRow.holds Tryz.pinned (OpenSpec.ofChange memfsDisjointSubtreesCommuteWrong)

/-- 'farshelflaw4.HardlinkCountsFollowRequests': WHATEVER THE INPUT: true; the input reads as it did. -/
def hardlinkCountsFollowRequestsSpec : ChangeSpec := { name := "hardlinkCountsFollowRequests", fn := fun _ => fun
  | [d1, d2] => { results := [.lit (.bool true)], args := [d1, d2] }
  | _ => none }
def hardlinkCountsFollowRequestsRow : OpenClaim := { program := "ytmbbmmnpkdfecaagreatdoor", sum := "fd152c5080c0014bea34435b50ba81bf6a2efa3db5d82b6399564df912f93e91", func := "farshelf/farshelflaw4.HardlinkCountsFollowRequests", spec := "hardlinkCountsFollowRequests", inPlace := ["internal/abi.NoEscape", "internal/bytealg.MakeNoZero", "internal/bytealg.CountString", "internal/bytealg.IndexByteString", "internal/bytealg.IndexString", "slices.overlaps[farshelf/api.DirEntry]"], unfollowed := true, recurses := true, named := ["unicode/utf8.first", "unicode/utf8.acceptRanges", "internal/bytealg.MaxLen"], apart := false, laid := [("unicode/utf8.acceptRanges", laid_unicode_utf8_acceptRanges), ("unicode/utf8.first", laid_unicode_utf8_first)] }
def HardlinkCountsFollowRequestsSaid : Prop := hardlinkCountsFollowRequestsRow.holds Tryz.pinned (OpenSpec.ofChange hardlinkCountsFollowRequestsSpec)

/-- ITS FALSE NEIGHBOUR: 'it returns false'. Refute it at one input. -/
def hardlinkCountsFollowRequestsWrong : ChangeSpec := { name := "hardlinkCountsFollowRequests", fn := fun _ => fun
  | [d1, d2] => { results := [.lit (.bool false)], args := [d1, d2] }
  | _ => none }
def HardlinkCountsFollowRequestsWrongFalsely : Prop := hardlinkCountsFollowRequestsRow.holds Tryz.pinned (OpenSpec.ofChange hardlinkCountsFollowRequestsWrong)

/-- 'farshelflaw4.QuotaRemainingIsExact': WHATEVER THE INPUT: true; the input reads as it did. -/
def quotaRemainingIsExactSpec : ChangeSpec := { name := "quotaRemainingIsExact", fn := fun _ => fun
  | [d1, d2, d3] => { results := [.lit (.bool true)], args := [d1, d2, d3] }
  | _ => none }
def quotaRemainingIsExactRow : OpenClaim := { program := "ytmbbmmnpkdfecaagreatdoor", sum := "fd152c5080c0014bea34435b50ba81bf6a2efa3db5d82b6399564df912f93e91", func := "farshelf/farshelflaw4.QuotaRemainingIsExact", spec := "quotaRemainingIsExact", inPlace := ["internal/abi.NoEscape", "internal/bytealg.MakeNoZero", "internal/bytealg.CountString", "internal/bytealg.IndexByteString", "internal/bytealg.IndexString", "slices.overlaps[farshelf/api.DirEntry]"], unfollowed := true, recurses := true, named := ["unicode/utf8.first", "unicode/utf8.acceptRanges", "internal/bytealg.MaxLen"], apart := false, laid := [("unicode/utf8.acceptRanges", laid_unicode_utf8_acceptRanges), ("unicode/utf8.first", laid_unicode_utf8_first)] }
def QuotaRemainingIsExactSaid : Prop := quotaRemainingIsExactRow.holds Tryz.pinned (OpenSpec.ofChange quotaRemainingIsExactSpec)

/-- ITS FALSE NEIGHBOUR: 'it returns false'. Refute it at one input. -/
def quotaRemainingIsExactWrong : ChangeSpec := { name := "quotaRemainingIsExact", fn := fun _ => fun
  | [d1, d2, d3] => { results := [.lit (.bool false)], args := [d1, d2, d3] }
  | _ => none }
def QuotaRemainingIsExactWrongFalsely : Prop := quotaRemainingIsExactRow.holds Tryz.pinned (OpenSpec.ofChange quotaRemainingIsExactWrong)

/- THE SECOND FORM. 'bulk': how many values and letters a reading holds, each counted each time it is reached (what is shared counts as often as it is met; a slice's spare places count too). A statement '..UptoSaid' is the law's where the arguments, and the package variables that the reading takes, are together of bulk at most 1048576: NARROWER than '..Said'. Prove '..Said' where nothing that the law and all that it calls make is longer than what came in: it says more and counts as full. Else prove '..UptoSaid'. A law counts once. -/
mutual
def uptoBulk {H : Type} : DataW H → Nat
  | .lit (.string bytes) => bytes.length + 1
  | .lit _ => 1
  | .nil => 1
  | .ptr d => uptoBulk d + 1
  | .slice elems spare => uptoBulkAll elems + uptoBulkAll spare + 1
  | .agg parts => uptoBulkAll parts + 1
  | .iface _ d => uptoBulk d + 1
  | .map entries => uptoBulkEntries entries + 1
  | .held _ => 1
def uptoBulkAll {H : Type} : List (DataW H) → Nat
  | [] => 0
  | d :: r => uptoBulk d + uptoBulkAll r
def uptoBulkEntries {H : Type} : List (Lit × DataW H) → Nat
  | [] => 0
  | x :: r => uptoBulkEntry x + uptoBulkEntries r
def uptoBulkEntry {H : Type} : Lit × DataW H → Nat
  | (.string bytes, d) => bytes.length + uptoBulk d + 1
  | (_, d) => uptoBulk d + 1
 end
def uptoSmall : (H : Type) → List (DataW H) → Bool := fun _ ds => decide (uptoBulkAll ds ≤ 1048576)
def OpenSpec.upto (s : _root_.Go.ChangeSpec) : _root_.Go.OpenSpec := { _root_.Go.OpenSpec.ofChange s with cond := some uptoSmall }

/-- 'farshelflaw3.MemfsApplyMatchesSpec', WHERE WHAT IT READS IS OF BULK AT MOST 1048576: true; the input reads as it did. -/
def memfsApplyMatchesSpecUptoRow : OpenClaim := { program := "ytmbbmmnpkdfecaagreatdoor", sum := "fd152c5080c0014bea34435b50ba81bf6a2efa3db5d82b6399564df912f93e91", func := "farshelf/farshelflaw3.MemfsApplyMatchesSpec", spec := "memfsApplyMatchesSpec", inPlace := ["internal/abi.NoEscape", "internal/bytealg.MakeNoZero", "internal/bytealg.CountString", "internal/bytealg.IndexByteString", "internal/bytealg.IndexString", "slices.overlaps[farshelf/api.DirEntry]"], unfollowed := true, recurses := true, named := ["unicode/utf8.first", "unicode/utf8.acceptRanges", "internal/bytealg.MaxLen"], apart := false, laid := [("unicode/utf8.acceptRanges", laid_unicode_utf8_acceptRanges), ("unicode/utf8.first", laid_unicode_utf8_first)], narrowed := true }
def MemfsApplyMatchesSpecUptoSaid : Prop := memfsApplyMatchesSpecUptoRow.holds Tryz.pinned (OpenSpec.upto memfsApplyMatchesSpecSpec)

/-- 'farshelflaw3.MemfsRunMatchesSpec', WHERE WHAT IT READS IS OF BULK AT MOST 1048576: true; the input reads as it did. -/
def memfsRunMatchesSpecUptoRow : OpenClaim := { program := "ytmbbmmnpkdfecaagreatdoor", sum := "fd152c5080c0014bea34435b50ba81bf6a2efa3db5d82b6399564df912f93e91", func := "farshelf/farshelflaw3.MemfsRunMatchesSpec", spec := "memfsRunMatchesSpec", inPlace := ["internal/bytealg.CountString", "internal/bytealg.IndexByteString", "internal/bytealg.IndexString", "internal/abi.NoEscape", "internal/bytealg.MakeNoZero", "slices.overlaps[farshelf/api.DirEntry]"], unfollowed := true, recurses := true, named := ["unicode/utf8.first", "unicode/utf8.acceptRanges", "internal/bytealg.MaxLen"], apart := false, laid := [("unicode/utf8.acceptRanges", laid_unicode_utf8_acceptRanges), ("unicode/utf8.first", laid_unicode_utf8_first)], narrowed := true }
def MemfsRunMatchesSpecUptoSaid : Prop := memfsRunMatchesSpecUptoRow.holds Tryz.pinned (OpenSpec.upto memfsRunMatchesSpecSpec)

/-- 'farshelflaw3.MemfsRunIsIncremental', WHERE WHAT IT READS IS OF BULK AT MOST 1048576: true; the input reads as it did. -/
def memfsRunIsIncrementalUptoRow : OpenClaim := { program := "ytmbbmmnpkdfecaagreatdoor", sum := "fd152c5080c0014bea34435b50ba81bf6a2efa3db5d82b6399564df912f93e91", func := "farshelf/farshelflaw3.MemfsRunIsIncremental", spec := "memfsRunIsIncremental", inPlace := ["internal/bytealg.CountString", "internal/bytealg.IndexByteString", "internal/bytealg.IndexString", "internal/abi.NoEscape", "internal/bytealg.MakeNoZero", "slices.overlaps[farshelf/api.DirEntry]"], unfollowed := true, recurses := true, named := ["unicode/utf8.first", "unicode/utf8.acceptRanges", "internal/bytealg.MaxLen"], apart := false, laid := [("unicode/utf8.acceptRanges", laid_unicode_utf8_acceptRanges), ("unicode/utf8.first", laid_unicode_utf8_first)], narrowed := true }
def MemfsRunIsIncrementalUptoSaid : Prop := memfsRunIsIncrementalUptoRow.holds Tryz.pinned (OpenSpec.upto memfsRunIsIncrementalSpec)

/-- 'farshelflaw3.MemfsReadAfterWrite', WHERE WHAT IT READS IS OF BULK AT MOST 1048576: true; the input reads as it did. -/
def memfsReadAfterWriteUptoRow : OpenClaim := { program := "ytmbbmmnpkdfecaagreatdoor", sum := "fd152c5080c0014bea34435b50ba81bf6a2efa3db5d82b6399564df912f93e91", func := "farshelf/farshelflaw3.MemfsReadAfterWrite", spec := "memfsReadAfterWrite", inPlace := ["internal/abi.NoEscape", "internal/bytealg.MakeNoZero", "internal/bytealg.CountString", "internal/bytealg.IndexByteString", "internal/bytealg.IndexString", "slices.overlaps[farshelf/api.DirEntry]"], unfollowed := true, recurses := true, named := ["unicode/utf8.first", "unicode/utf8.acceptRanges", "internal/bytealg.MaxLen"], apart := false, laid := [("unicode/utf8.acceptRanges", laid_unicode_utf8_acceptRanges), ("unicode/utf8.first", laid_unicode_utf8_first)], narrowed := true }
def MemfsReadAfterWriteUptoSaid : Prop := memfsReadAfterWriteUptoRow.holds Tryz.pinned (OpenSpec.upto memfsReadAfterWriteSpec)

/-- 'farshelflaw3.MemfsRenameRoundTrip', WHERE WHAT IT READS IS OF BULK AT MOST 1048576: true; the input reads as it did. -/
def memfsRenameRoundTripUptoRow : OpenClaim := { program := "ytmbbmmnpkdfecaagreatdoor", sum := "fd152c5080c0014bea34435b50ba81bf6a2efa3db5d82b6399564df912f93e91", func := "farshelf/farshelflaw3.MemfsRenameRoundTrip", spec := "memfsRenameRoundTrip", inPlace := ["internal/abi.NoEscape", "internal/bytealg.MakeNoZero", "internal/bytealg.CountString", "internal/bytealg.IndexByteString", "internal/bytealg.IndexString", "slices.overlaps[farshelf/api.DirEntry]"], unfollowed := true, recurses := true, named := ["unicode/utf8.first", "unicode/utf8.acceptRanges", "internal/bytealg.MaxLen"], apart := false, laid := [("unicode/utf8.acceptRanges", laid_unicode_utf8_acceptRanges), ("unicode/utf8.first", laid_unicode_utf8_first)], narrowed := true }
def MemfsRenameRoundTripUptoSaid : Prop := memfsRenameRoundTripUptoRow.holds Tryz.pinned (OpenSpec.upto memfsRenameRoundTripSpec)

/-- 'farshelflaw3.MemfsLinkSharesInode', WHERE WHAT IT READS IS OF BULK AT MOST 1048576: true; the input reads as it did. -/
def memfsLinkSharesInodeUptoRow : OpenClaim := { program := "ytmbbmmnpkdfecaagreatdoor", sum := "fd152c5080c0014bea34435b50ba81bf6a2efa3db5d82b6399564df912f93e91", func := "farshelf/farshelflaw3.MemfsLinkSharesInode", spec := "memfsLinkSharesInode", inPlace := ["internal/abi.NoEscape", "internal/bytealg.MakeNoZero", "internal/bytealg.CountString", "internal/bytealg.IndexByteString", "internal/bytealg.IndexString", "slices.overlaps[farshelf/api.DirEntry]"], unfollowed := true, recurses := true, named := ["unicode/utf8.first", "unicode/utf8.acceptRanges", "internal/bytealg.MaxLen"], apart := false, laid := [("unicode/utf8.acceptRanges", laid_unicode_utf8_acceptRanges), ("unicode/utf8.first", laid_unicode_utf8_first)], narrowed := true }
def MemfsLinkSharesInodeUptoSaid : Prop := memfsLinkSharesInodeUptoRow.holds Tryz.pinned (OpenSpec.upto memfsLinkSharesInodeSpec)

/-- 'farshelflaw3.MemfsDisjointSubtreesCommute', WHERE WHAT IT READS IS OF BULK AT MOST 1048576: true; the input reads as it did. -/
def memfsDisjointSubtreesCommuteUptoRow : OpenClaim := { program := "ytmbbmmnpkdfecaagreatdoor", sum := "fd152c5080c0014bea34435b50ba81bf6a2efa3db5d82b6399564df912f93e91", func := "farshelf/farshelflaw3.MemfsDisjointSubtreesCommute", spec := "memfsDisjointSubtreesCommute", inPlace := ["internal/bytealg.CountString", "internal/bytealg.IndexByteString", "internal/bytealg.IndexString", "internal/abi.NoEscape", "internal/bytealg.MakeNoZero", "slices.overlaps[farshelf/api.DirEntry]"], unfollowed := true, recurses := true, named := ["unicode/utf8.first", "unicode/utf8.acceptRanges", "internal/bytealg.MaxLen"], apart := false, laid := [("unicode/utf8.acceptRanges", laid_unicode_utf8_acceptRanges), ("unicode/utf8.first", laid_unicode_utf8_first)], narrowed := true }
def MemfsDisjointSubtreesCommuteUptoSaid : Prop := memfsDisjointSubtreesCommuteUptoRow.holds Tryz.pinned (OpenSpec.upto memfsDisjointSubtreesCommuteSpec)

/-- 'farshelflaw4.HardlinkCountsFollowRequests', WHERE WHAT IT READS IS OF BULK AT MOST 1048576: true; the input reads as it did. -/
def hardlinkCountsFollowRequestsUptoRow : OpenClaim := { program := "ytmbbmmnpkdfecaagreatdoor", sum := "fd152c5080c0014bea34435b50ba81bf6a2efa3db5d82b6399564df912f93e91", func := "farshelf/farshelflaw4.HardlinkCountsFollowRequests", spec := "hardlinkCountsFollowRequests", inPlace := ["internal/abi.NoEscape", "internal/bytealg.MakeNoZero", "internal/bytealg.CountString", "internal/bytealg.IndexByteString", "internal/bytealg.IndexString", "slices.overlaps[farshelf/api.DirEntry]"], unfollowed := true, recurses := true, named := ["unicode/utf8.first", "unicode/utf8.acceptRanges", "internal/bytealg.MaxLen"], apart := false, laid := [("unicode/utf8.acceptRanges", laid_unicode_utf8_acceptRanges), ("unicode/utf8.first", laid_unicode_utf8_first)], narrowed := true }
def HardlinkCountsFollowRequestsUptoSaid : Prop := hardlinkCountsFollowRequestsUptoRow.holds Tryz.pinned (OpenSpec.upto hardlinkCountsFollowRequestsSpec)

/-- 'farshelflaw4.QuotaRemainingIsExact', WHERE WHAT IT READS IS OF BULK AT MOST 1048576: true; the input reads as it did. -/
def quotaRemainingIsExactUptoRow : OpenClaim := { program := "ytmbbmmnpkdfecaagreatdoor", sum := "fd152c5080c0014bea34435b50ba81bf6a2efa3db5d82b6399564df912f93e91", func := "farshelf/farshelflaw4.QuotaRemainingIsExact", spec := "quotaRemainingIsExact", inPlace := ["internal/abi.NoEscape", "internal/bytealg.MakeNoZero", "internal/bytealg.CountString", "internal/bytealg.IndexByteString", "internal/bytealg.IndexString", "slices.overlaps[farshelf/api.DirEntry]"], unfollowed := true, recurses := true, named := ["unicode/utf8.first", "unicode/utf8.acceptRanges", "internal/bytealg.MaxLen"], apart := false, laid := [("unicode/utf8.acceptRanges", laid_unicode_utf8_acceptRanges), ("unicode/utf8.first", laid_unicode_utf8_first)], narrowed := true }
def QuotaRemainingIsExactUptoSaid : Prop := quotaRemainingIsExactUptoRow.holds Tryz.pinned (OpenSpec.upto quotaRemainingIsExactSpec)

end Rows
end Go.Proofs.YtmbbmmnpkdfecaaGreatDoor
