/- Whether a topology is right, by the specification: the two loops. -/
import Derived.Test.YtpjfampfhofeaaaTopG
namespace Go.Proofs.Ytpjfampfhofeaaa
open Go.ChangeShapes Go.WideShapes Go.ChangeAt Go.RowKit

end Go.Proofs.Ytpjfampfhofeaaa
