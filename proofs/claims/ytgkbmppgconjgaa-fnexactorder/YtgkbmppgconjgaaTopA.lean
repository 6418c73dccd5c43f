/- Nodes and topologies: the laws' own copies and looks. -/
import Derived.Test.YtgkbmppgconjgaaIntB
import Derived.Test.YtgkbmppgconjgaaVecA
namespace Go.Proofs.Ytgkbmppgconjgaa
open Go.ChangeShapes Go.WideShapes Go.ChangeAt Go.RowKit

theorem low_refl (w : World) : Below w.heap.size w w := Below.refl _ _
theorem low_alloc (w : World) (o : Obj) : Below w.heap.size w (w.alloc o) := (Below.refl _ _).alloc (Nat.le_refl _) _

/-- A node: its leaf and its three amounts. -/
structure Nd where
  l : Int
  a : Int
  b : Int
  c : Int
deriving DecidableEq

def Nd.val (n : Nd) : Value := .agg #[.int .i64 n.l, .int .i64 n.a, .int .i64 n.b, .int .i64 n.c]

end Go.Proofs.Ytgkbmppgconjgaa
