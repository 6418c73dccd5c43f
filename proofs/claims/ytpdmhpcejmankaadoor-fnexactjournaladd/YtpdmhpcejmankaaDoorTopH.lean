/- Whether a topology is right, by the specification: the two loops. -/
import Derived.Test.YtpdmhpcejmankaaDoorTopG
namespace Go.Proofs.YtpdmhpcejmankaaDoor
open Go.ChangeShapes Go.WideShapes Go.ChangeAt Go.RowKit

end Go.Proofs.YtpdmhpcejmankaaDoor
