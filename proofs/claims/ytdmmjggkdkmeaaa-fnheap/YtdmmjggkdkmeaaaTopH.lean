/- Whether a topology is right, by the specification: the two loops. -/
import Derived.Test.YtdmmjggkdkmeaaaTopG
namespace Go.Proofs.Ytdmmjggkdkmeaaa
open Go.ChangeShapes Go.WideShapes Go.ChangeAt Go.RowKit

end Go.Proofs.Ytdmmjggkdkmeaaa
