/- Topologies marked. -/
import Derived.Test.YtccilaffmonbdaaDoorTopD
namespace Go.Proofs.YtccilaffmonbdaaDoor
open Go.ChangeShapes Go.WideShapes Go.ChangeAt Go.RowKit


end Go.Proofs.YtccilaffmonbdaaDoor
