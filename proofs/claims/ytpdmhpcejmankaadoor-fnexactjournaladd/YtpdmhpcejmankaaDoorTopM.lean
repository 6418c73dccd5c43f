/- Topologies marked. -/
import Derived.Test.YtpdmhpcejmankaaDoorTopD
namespace Go.Proofs.YtpdmhpcejmankaaDoor
open Go.ChangeShapes Go.WideShapes Go.ChangeAt Go.RowKit


end Go.Proofs.YtpdmhpcejmankaaDoor
