/- xattr.Get at every list and name. Conditions: the slice's cells lie in memory as they read. -/
import Derived.Test.YtfealpehdjeckaaDoorAttrValid
import Derived.Test.YtfealpehdjeckaaDoorAttrFind
namespace Go.Proofs.YtfealpehdjeckaaDoor
open Go.RowKit

def getF (xs : List Attr) (nm : ByteArray) : Int × Int := if (valA xs).1 = 0 then (if getA xs nm = ByteArray.empty then (6, 0) else (0, 0)) else valA xs
def getS (xs : List Attr) (nm : ByteArray) : ByteArray := if (valA xs).1 = 0 then getA xs nm else ByteArray.empty
def getV (xs : List Attr) (nm : ByteArray) : Value := .tuple #[.string (getS xs nm), faultV (getF xs nm).1 (getF xs nm).2]
theorem valA_00 {xs : List Attr} (h : (valA xs).1 = 0) : valA xs = (0, 0) := (good_of h).val

end Go.Proofs.YtfealpehdjeckaaDoor
