/-
  What slices.EqualFunc does of rows and of sets, and package inst's Equal (layer 9).
-/
import Derived.Test.YtbadingdklenhaaDoorInstEqA
namespace Go.Proofs.YtbadingdklenhaaDoor
set_option maxRecDepth 100000
open Go.RowKit

end Go.Proofs.YtbadingdklenhaaDoor
