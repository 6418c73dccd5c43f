/- The times of a change: the specification's walk. -/
import Derived.Test.YtbnbikmnembciaaTkA
namespace Go.Proofs.Ytbnbikmnembciaa
open Go.ChangeShapes Go.WideShapes Go.ChangeAt Go.RowKit

end Go.Proofs.Ytbnbikmnembciaa
