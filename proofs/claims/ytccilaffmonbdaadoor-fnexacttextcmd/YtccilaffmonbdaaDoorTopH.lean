/- Whether a topology is right, by the specification: the two loops. -/
import Derived.Test.YtccilaffmonbdaaDoorTopG
namespace Go.Proofs.YtccilaffmonbdaaDoor
open Go.ChangeShapes Go.WideShapes Go.ChangeAt Go.RowKit

end Go.Proofs.YtccilaffmonbdaaDoor
