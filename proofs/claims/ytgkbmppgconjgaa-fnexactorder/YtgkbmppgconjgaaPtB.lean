/- Answers that are profiles: they own their memory; marked and found marked; held against each other. -/
import Derived.Test.YtgkbmppgconjgaaPtA
import Derived.Test.YtgkbmppgconjgaaTopJ
namespace Go.Proofs.Ytgkbmppgconjgaa
open Go.ChangeShapes Go.WideShapes Go.ChangeAt Go.RowKit

/-- A slice of n points in a block from B on and below T (none at all where there is no point). -/
def AnsP (B T : Nat) (w : World) (n : Nat) (xs : List Value) (v : Value) : Prop := xs.length = 4 * n ∧ ∃ a cap, v = .slice a n cap ∧ (n = 0 ∨ ∃ g, a = some ⟨g, 0, none⟩ ∧ B ≤ g ∧ g < T ∧ Row w g xs)

theorem AnsP.of_row {w : World} {g n cap : Nat} {xs : List Value} (hx : xs.length = 4 * n) (h : Row w g xs) {B T : Nat} (hB : B ≤ g) (hT : g < T) : AnsP B T w n xs (.slice (some ⟨g, 0, none⟩) n cap) := ⟨hx, _, cap, rfl, .inr ⟨g, rfl, hB, hT, h⟩⟩
theorem AnsP.none (B T : Nat) (w : World) (a : Option Addr) (cap : Nat) : AnsP B T w 0 [] (.slice a 0 cap) := ⟨rfl, a, cap, rfl, .inl rfl⟩

theorem AnsP.of_owns {w : World} {B n : Nat} {e : TypeId} {v : Value} {xs : List Value} (h : w.ownsRow B e 4 v n xs) : AnsP B w.heap.size w n xs v := by
  obtain ⟨hlen, h⟩ := h
  refine ⟨by omega, ?_⟩
  rcases h with ⟨rfl, rfl⟩ | ⟨g, cap, cur, rfl, hB, hg, hnc, _, hsz, hx⟩
  · exact ⟨_, 0, rfl, .inl rfl⟩
  · have hlt : g < w.heap.size := by
      rcases Nat.lt_or_ge g w.heap.size with h' | h'
      · exact h'
      · rw [Array.getElem?_eq_none h'] at hg; cases hg
    refine ⟨_, cap, rfl, .inr ⟨g, rfl, hB, hlt, fun i u hu => ?_, fun i => ?_, hlt⟩⟩
    · rw [← hx] at hu
      have hi : cur.toList[i]? = some u := by
        rw [List.getElem?_take] at hu
        split at hu
        · exact hu
        · cases hu
      simp only [World.cell?, hg]
      simpa using hi
    · simp [World.frozen?, hg]

theorem AnsP.sq {B T : Nat} {w : World} {n : Nat} {xs : List Value} {a : Option Addr} {m cap : Nat} (h : AnsP B T w n xs (.slice a m cap)) : m = n ∧ Sq w a xs := by
  obtain ⟨hx, a', cap', hv, h⟩ := h
  cases hv
  refine ⟨rfl, ?_⟩
  rcases h with rfl | ⟨g, rfl, _, _, hr⟩
  · have : xs = [] := List.length_eq_zero_iff.1 (by omega)
    subst this
    exact ⟨fun i u hu => by simp at hu⟩
  · exact Sq.of_row hr

theorem AnsP.form {B T : Nat} {w : World} {n : Nat} {xs : List Value} {v : Value} (h : AnsP B T w n xs v) : ∃ a cap, v = .slice a n cap ∧ Sq w a xs := by
  obtain ⟨hx, a, cap, rfl, h'⟩ := h
  exact ⟨a, cap, rfl, (AnsP.sq (B := B) (T := T) ⟨hx, a, cap, rfl, h'⟩).2⟩

/-- What keeps its row keeps it. -/
theorem AnsP.keep {B T : Nat} {w w' : World} {n : Nat} {xs : List Value} {v : Value} (h : AnsP B T w n xs v) (hk : ∀ g, B ≤ g → g < T → Row w g xs → Row w' g xs) : AnsP B T w' n xs v := by
  obtain ⟨hx, a, cap, hv, h⟩ := h
  refine ⟨hx, a, cap, hv, ?_⟩
  rcases h with rfl | ⟨g, rfl, hg, hT, hr⟩
  · exact .inl rfl
  · exact .inr ⟨g, rfl, hg, hT, hk g hg hT hr⟩

theorem AnsP.below {B T : Nat} {w w' : World} {n : Nat} {xs : List Value} {v : Value} (h : AnsP B T w n xs v) (hb : Below w.heap.size w w') : AnsP B T w' n xs v := h.keep fun _ _ _ hr => hr.below hb
theorem AnsP.wide {B B' T T' : Nat} {w : World} {n : Nat} {xs : List Value} {v : Value} (h : AnsP B T w n xs v) (hB : B' ≤ B) (hT : T ≤ T') : AnsP B' T' w n xs v := by
  obtain ⟨hx, a, cap, hv, h⟩ := h
  refine ⟨hx, a, cap, hv, ?_⟩
  rcases h with rfl | ⟨g, rfl, hg, hT', hr⟩
  · exact .inl rfl
  · exact .inr ⟨g, rfl, by omega, by omega, hr⟩




/-- What a function that answers a profile and whether it could answers. -/
def RetP (w : World) (r : List Nd) (k : Bool) (e : Ending) (w' : World) : Prop := ∃ v, e = .returned (.tuple #[.agg #[v], .bool k]) ∧ AnsP w.heap.size w'.heap.size w' r.length (flat r) v ∧ Below w.heap.size w w'
end Go.Proofs.Ytgkbmppgconjgaa
