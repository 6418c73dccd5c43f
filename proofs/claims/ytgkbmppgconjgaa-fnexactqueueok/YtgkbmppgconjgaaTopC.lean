/- Topologies: copied, measured, held against each other. -/
import Derived.Test.YtgkbmppgconjgaaTopB
namespace Go.Proofs.Ytgkbmppgconjgaa
open Go.ChangeShapes Go.WideShapes Go.ChangeAt Go.RowKit

theorem Row.apart {w : World} {g : Nat} {xs : List Value} (h : Row w g xs) (b i : Nat) (v : Value) (hne : g ≠ b) : Row (w.setCell ⟨b, i, none⟩ v) g xs := h.far (Lib.grownBy_setCell w b i v) (by intro e; exact hne (Option.some.inj e))




end Go.Proofs.Ytgkbmppgconjgaa
