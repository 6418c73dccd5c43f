/- The nodes below a switch, by the specification. -/
import Derived.Test.YtgkbmppgconjgaaTopI
namespace Go.Proofs.Ytgkbmppgconjgaa
open Go.ChangeShapes Go.WideShapes Go.ChangeAt Go.RowKit

/-- Of the first k nodes those below s. -/
def belowTo (ps : List Int) (ns : List Nd) (s : Int) : Nat → List Int
  | 0 => []
  | k + 1 => if ∃ n, ns[k]? = some n ∧ s ∈ upF ps n.l.toNat n.l.toNat then belowTo ps ns s k ++ [(k : Int)] else belowTo ps ns s k

theorem below_len (ps : List Int) (ns : List Nd) (s : Int) : ∀ k, (belowTo ps ns s k).length ≤ k
  | 0 => Nat.le_refl _
  | k + 1 => by
    have := below_len ps ns s k
    unfold belowTo
    split
    · simp; omega
    · omega

theorem owns_below {w w' : World} {B n size : Nat} {e : TypeId} {v : Value} {xs : List Value} (h : w.ownsRow B e size v n xs) (hb : Below w.heap.size w w') : w'.ownsRow B e size v n xs :=
  h.kept (row := none) ⟨hb.os, hb.tape, hb.output, hb.size, fun i hi _ => hb.block i hi⟩ (by cases v.ownBlock <;> simp)

end Go.Proofs.Ytgkbmppgconjgaa
