/- Topologies marked. -/
import Derived.Test.YtejleghdgdbbnaaDoorTopD
namespace Go.Proofs.YtejleghdgdbbnaaDoor
open Go.ChangeShapes Go.WideShapes Go.ChangeAt Go.RowKit


end Go.Proofs.YtejleghdgdbbnaaDoor
