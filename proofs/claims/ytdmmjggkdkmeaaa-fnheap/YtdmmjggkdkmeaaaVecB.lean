/- pairwise at each function of two numbers that it is handed. -/
import Derived.Test.YtdmmjggkdkmeaaaVecA
namespace Go.Proofs.Ytdmmjggkdkmeaaa
open Go.ChangeShapes Go.WideShapes Go.ChangeAt Go.RowKit

end Go.Proofs.Ytdmmjggkdkmeaaa
