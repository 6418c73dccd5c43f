/- ProfAt: the specification and the program. -/
import Derived.Test.YtgkbmppgconjgaaPAtB
namespace Go.Proofs.Ytgkbmppgconjgaa
open Go.ChangeShapes Go.WideShapes Go.ChangeAt Go.RowKit

/-- What 'ProfAt' answers. -/
noncomputable def atR (ns : List Nd) (t : Int) : Nd := open Classical in if POk ns ∧ timeB t = true then atL ns t else nd0

end Go.Proofs.Ytgkbmppgconjgaa
