/- Arguments opened: a pair of numbers, a list of numbers. -/
import Derived.Test.YtjdpomilifnlaaaM2
namespace Go.Proofs.Ytjdpomilifnlaaa
set_option maxRecDepth 100000
open Go.RowKit
open Go.ChangeShapes Go.WideShapes Go.ChangeAt
variable {H : Type} {enc : TypeId × Value → H} {W : World}
end Go.Proofs.Ytjdpomilifnlaaa
