/- Whether a profile is right: the specification and the program. -/
import Derived.Test.YtgkbmppgconjgaaPtA
import Derived.Test.YtgkbmppgconjgaaVecC
import Derived.Test.YtgkbmppgconjgaaTopG
import Derived.Laws.StructEq
namespace Go.Proofs.Ytgkbmppgconjgaa
open Go.ChangeShapes Go.WideShapes Go.ChangeAt Go.RowKit

/-- A time. -/
def timeB (t : Int) : Bool := decide (0 ≤ t) && decide (t ≤ 1000000000)
theorem time_iff {t : Int} : timeB t = true ↔ 0 ≤ t ∧ t ≤ 1000000000 := by simp [timeB]

/-- Two points have the same free. -/
def sameV (m n : Nd) : Bool := m.a == n.a && (m.b == n.b && m.c == n.c)

set_option maxRecDepth 100000 in
/-- Two vectors, held against each other. -/
theorem eq_vec (a b c x y z : Int) (w : World) : (Op.equalIn 10000 32 (.agg #[.int .i64 a, .int .i64 b, .int .i64 c]) (.agg #[.int .i64 x, .int .i64 y, .int .i64 z])).run Try.prog w = .ok (a == x && (b == y && c == z)) w := by
  rw [run_equalIn_struct w 9999 32 _ _ (by rfl) (by kernel_rfl)]
  cases h1 : a == x <;> cases h2 : b == y <;> cases h3 : c == z <;> simp_all [go_sem]

/-- A right profile. -/
structure POk (ns : List Nd) : Prop where
  one : 1 ≤ ns.length
  few : ns.length ≤ 200
  top : ∀ n, ns[0]? = some n → n.l = 0
  each : ∀ (i : Nat) n, ns[i]? = some n → timeB n.l = true ∧ vokB n.a n.b n.c = true
  step : ∀ (i : Nat) m n, ns[i]? = some m → ns[i + 1]? = some n → m.l < n.l ∧ sameV m n = false

end Go.Proofs.Ytgkbmppgconjgaa
