/- Topologies marked. -/
import Derived.Test.YtdmmjggkdkmeaaaTopD
namespace Go.Proofs.Ytdmmjggkdkmeaaa
open Go.ChangeShapes Go.WideShapes Go.ChangeAt Go.RowKit


end Go.Proofs.Ytdmmjggkdkmeaaa
