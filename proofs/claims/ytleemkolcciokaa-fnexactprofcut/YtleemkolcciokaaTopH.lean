/- Whether a topology is right, by the specification: the two loops. -/
import Derived.Test.YtleemkolcciokaaTopG
namespace Go.Proofs.Ytleemkolcciokaa
open Go.ChangeShapes Go.WideShapes Go.ChangeAt Go.RowKit

end Go.Proofs.Ytleemkolcciokaa
