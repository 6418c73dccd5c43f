/- Topologies marked. -/
import Derived.Test.YtpjfampfhofeaaaTopD
namespace Go.Proofs.Ytpjfampfhofeaaa
open Go.ChangeShapes Go.WideShapes Go.ChangeAt Go.RowKit


end Go.Proofs.Ytpjfampfhofeaaa
