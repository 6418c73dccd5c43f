/- Whether a topology is right, by the specification: the two loops. -/
import Derived.Test.YtejleghdgdbbnaaDoorTopG
namespace Go.Proofs.YtejleghdgdbbnaaDoor
open Go.ChangeShapes Go.WideShapes Go.ChangeAt Go.RowKit

end Go.Proofs.YtejleghdgdbbnaaDoor
