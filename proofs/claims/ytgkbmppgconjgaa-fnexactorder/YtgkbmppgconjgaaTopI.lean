/- A switch of a right topology; its level, by the specification. -/
import Derived.Test.YtgkbmppgconjgaaTopH
namespace Go.Proofs.Ytgkbmppgconjgaa
open Go.ChangeShapes Go.WideShapes Go.ChangeAt Go.RowKit

/-- A right topology has the switch. -/
def SwOk (ps : List Int) (ns : List Nd) (s : Int) : Prop := TopOk ps ns ∧ 0 ≤ s ∧ s < ps.length


/-- From a switch up to the top. -/
def upF (ps : List Int) : Nat → Nat → List Int
  | 0, s => [(s : Int)]
  | f + 1, s => if 0 < s then (s : Int) :: upF ps f ((ps[s]?).getD 0).toNat else [(s : Int)]

theorem up_enough {ps : List Int} (ht : treeB ps) : ∀ (f f' s : Nat), s < ps.length → s ≤ f → s ≤ f' → upF ps f s = upF ps f' s
  | 0, 0, _, _, _, _ => rfl
  | 0, f' + 1, s, _, h1, _ => by
    obtain rfl : s = 0 := by omega
    simp [upF]
  | f + 1, 0, s, _, _, h2 => by
    obtain rfl : s = 0 := by omega
    simp [upF]
  | f + 1, f' + 1, s, h0, h1, h2 => by
    unfold upF
    split
    · rename_i hs
      have hx := ht s ps[s] hs (List.getElem?_eq_getElem h0)
      rw [List.getElem?_eq_getElem h0, Option.getD_some]
      rw [up_enough ht f f' _ (by omega) (by omega) (by omega)]
    · rfl

theorem up_len (ps : List Int) : ∀ (f s : Nat), (upF ps f s).length ≤ f + 1
  | 0, _ => by simp [upF]
  | f + 1, s => by
    unfold upF
    split
    · have := up_len ps f ((ps[s]?).getD 0).toNat
      simp
      omega
    · simp

theorem owns_lit (V : World) (xs : List Value) (e : TypeId) (h : xs.length ≤ 4294967296) : (V.alloc (.cells xs.toArray e)).ownsRow V.heap.size e 1 (.slice (some ⟨V.heap.size, 0, none⟩) xs.length xs.length) xs.length xs := by
  refine ⟨by simp, Or.inr ⟨V.heap.size, xs.length, xs.toArray, rfl, Nat.le_refl _, by show (V.heap.push _)[V.heap.size]? = _; simp, Nat.le_refl _, by unfold maxLen; omega, by simp, by simp⟩⟩

theorem owns_mono {w : World} {B B' : Nat} {e : TypeId} {size : Nat} {v : Value} {n : Nat} {xs : List Value} (h : w.ownsRow B e size v n xs) (hb : B' ≤ B) : w.ownsRow B' e size v n xs := by
  obtain ⟨hl, h⟩ := h
  refine ⟨hl, ?_⟩
  rcases h with h | ⟨g, cap, cur, h1, h2, h3⟩
  · exact .inl h
  · exact .inr ⟨g, cap, cur, h1, by omega, h3⟩

end Go.Proofs.Ytgkbmppgconjgaa
