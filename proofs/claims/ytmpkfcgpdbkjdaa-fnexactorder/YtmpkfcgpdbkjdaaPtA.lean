/- Points and profiles: the laws' own copies and looks. -/
import Derived.Test.YtmpkfcgpdbkjdaaTopD
namespace Go.Proofs.Ytmpkfcgpdbkjdaa
open Go.ChangeShapes Go.WideShapes Go.ChangeAt Go.RowKit


end Go.Proofs.Ytmpkfcgpdbkjdaa
