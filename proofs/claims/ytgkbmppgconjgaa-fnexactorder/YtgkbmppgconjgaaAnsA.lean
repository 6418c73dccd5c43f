/- Answers that are lists of numbers: they own their memory; marked and found marked. -/
import Derived.Test.YtgkbmppgconjgaaTopM
import Derived.Test.YtgkbmppgconjgaaTopI
namespace Go.Proofs.Ytgkbmppgconjgaa
open Go.ChangeShapes Go.WideShapes Go.ChangeAt Go.RowKit

/-- A slice of so many cells in a block from B on and below T that nobody else has (none at all where there is no cell). -/
def Ans (B T : Nat) (w : World) (xs : List Value) (v : Value) : Prop := ∃ a cap, v = .slice a xs.length cap ∧ (xs = [] ∨ ∃ g, a = some ⟨g, 0, none⟩ ∧ B ≤ g ∧ g < T ∧ Row w g xs)

theorem Ans.of_owns {w : World} {B n : Nat} {e : TypeId} {v : Value} {xs : List Value} (h : w.ownsRow B e 1 v n xs) : Ans B w.heap.size w xs v := by
  by_cases hn : 0 < n
  · obtain ⟨g, cap, hv, hg, hr⟩ := row_of_owns h hn
    have hl : xs.length = n := by have := h.1; omega
    exact ⟨_, cap, by rw [hl]; exact hv, .inr ⟨g, rfl, hg, hr.lt, hr⟩⟩
  · obtain ⟨hlen, h⟩ := h
    have hx : xs = [] := List.length_eq_zero_iff.1 (by omega)
    subst hx
    obtain rfl : n = 0 := by omega
    rcases h with ⟨rfl, hn0⟩ | ⟨g, cap, cur, rfl, _⟩
    · exact ⟨none, 0, rfl, .inl rfl⟩
    · exact ⟨_, cap, rfl, .inl rfl⟩

theorem Ans.sq {B T : Nat} {w : World} {xs : List Value} {a : Option Addr} {n cap : Nat} (h : Ans B T w xs (.slice a n cap)) : n = xs.length ∧ Sq w a xs := by
  obtain ⟨a', cap', hv, h⟩ := h
  cases hv
  refine ⟨rfl, ?_⟩
  rcases h with rfl | ⟨g, rfl, _, _, hr⟩
  · exact ⟨fun i u hu => by simp at hu⟩
  · exact Sq.of_row hr

theorem Ans.form {B T : Nat} {w : World} {xs : List Value} {v : Value} (h : Ans B T w xs v) : ∃ a cap, v = .slice a xs.length cap := by
  obtain ⟨a, cap, hv, _⟩ := h
  exact ⟨a, cap, hv⟩

/-- What keeps its row keeps it. -/
theorem Ans.keep {B T : Nat} {w w' : World} {xs : List Value} {v : Value} (h : Ans B T w xs v) (hk : ∀ g, B ≤ g → g < T → Row w g xs → Row w' g xs) : Ans B T w' xs v := by
  obtain ⟨a, cap, hv, h⟩ := h
  refine ⟨a, cap, hv, ?_⟩
  rcases h with rfl | ⟨g, rfl, hg, hT, hr⟩
  · exact .inl rfl
  · exact .inr ⟨g, rfl, hg, hT, hk g hg hT hr⟩

theorem Ans.below {B T : Nat} {w w' : World} {xs : List Value} {v : Value} (h : Ans B T w xs v) (hb : Below w.heap.size w w') : Ans B T w' xs v := h.keep fun _ _ _ hr => hr.below hb

theorem ints_nil {xs : List Int} (h : ints xs = []) : xs = [] := by cases xs with | nil => rfl | cons x r => simp [ints] at h

theorem upFrom_nil (k : Nat) : upFrom k 0 = [] := by simp [upFrom]


end Go.Proofs.Ytgkbmppgconjgaa
