/- The reference's AttrCode at every attribute. Conditions: the strings are of at most the model's longest length. -/
import Derived.Test.YtglaohaeaofnhaaGreatDoorAttrSlice
import Derived.Test.YtglaohaeaofnhaaGreatDoorPathLeaves
namespace Go.Proofs.YtglaohaeaofnhaaGreatDoor
open Go.RowKit

end Go.Proofs.YtglaohaeaofnhaaGreatDoor
