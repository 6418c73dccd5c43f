/- The level of a switch, by the specification. -/
import Derived.Test.YtgkbmppgconjgaaTopE
namespace Go.Proofs.Ytgkbmppgconjgaa
open Go.ChangeShapes Go.WideShapes Go.ChangeAt Go.RowKit

/-- The walk over what lies directly below: -1 where two are not equally far. -/
def walkLv (lv : Int → Int) : List Int → Nat → Int → Int
  | [], _, level => level + 1
  | k :: r, i, level => if lv k < 0 ∨ (0 < i ∧ lv k ≠ level) then -1 else walkLv lv r (i + 1) (lv k)

def lvF (ps : List Int) : Nat → Int → Int
  | 0, _ => -1
  | f + 1, s => walkLv (lvF ps f) (kidsTo ps s ps.length) 0 (-1)

/-- Each parent is lesser than its switch. -/
def treeB (ps : List Int) : Prop := ∀ (i : Nat) (x : Int), 1 ≤ i → ps[i]? = some x → 0 ≤ x ∧ x < i

theorem kids_mem (ps : List Int) (s : Int) : ∀ (k : Nat) (x : Int), x ∈ kidsTo ps s k → ∃ i : Nat, x = i ∧ 1 ≤ i ∧ i < k ∧ ps[i]? = some s
  | 0, x, h => by simp [kidsTo] at h
  | k + 1, x, h => by
    unfold kidsTo at h
    split at h
    · rename_i hc
      rcases List.mem_append.1 h with h | h
      · obtain ⟨i, e, h1, h2, h3⟩ := kids_mem ps s k x h
        exact ⟨i, e, h1, by omega, h3⟩
      · simp at h
        exact ⟨k, h, hc.1, by omega, hc.2⟩
    · obtain ⟨i, e, h1, h2, h3⟩ := kids_mem ps s k x h
      exact ⟨i, e, h1, by omega, h3⟩

theorem walk_bound (lv : Int → Int) (f : Int) : ∀ (l : List Int) (i : Nat) (level : Int), (∀ k ∈ l, -1 ≤ lv k ∧ lv k ≤ f) → -1 ≤ level → level ≤ f → 0 ≤ f → -1 ≤ walkLv lv l i level ∧ walkLv lv l i level ≤ f + 1
  | [], i, level, _, h1, h2, _ => by unfold walkLv; omega
  | k :: r, i, level, h, h1, h2, h3 => by
    unfold walkLv
    split
    · omega
    · have hk := h k (by simp)
      exact walk_bound lv f r (i + 1) (lv k) (fun x hx => h x (by simp [hx])) hk.1 hk.2 h3

theorem lv_bound (ps : List Int) : ∀ (f : Nat) (s : Int), -1 ≤ lvF ps f s ∧ lvF ps f s ≤ f
  | 0, s => by unfold lvF; omega
  | f + 1, s => by
    unfold lvF
    have := walk_bound (lvF ps f) f (kidsTo ps s ps.length) 0 (-1) (fun k _ => lv_bound ps f k) (by omega) (by omega) (by omega)
    omega

theorem walk_congr {lv lv' : Int → Int} : ∀ (l : List Int) (i : Nat) (level : Int), (∀ k ∈ l, lv k = lv' k) → walkLv lv l i level = walkLv lv' l i level
  | [], _, _, _ => rfl
  | k :: r, i, level, h => by
    unfold walkLv
    rw [h k (by simp)]
    split
    · rfl
    · exact walk_congr r (i + 1) _ (fun x hx => h x (by simp [hx]))

/-- How much is enough doesn't matter. -/
theorem lv_enough {ps : List Int} (ht : treeB ps) : ∀ (f f' : Nat) (s : Nat), s < ps.length → ps.length ≤ s + f → ps.length ≤ s + f' → lvF ps f s = lvF ps f' s
  | 0, _, s, h0, h1, _ => by omega
  | _ + 1, 0, s, h0, _, h2 => by omega
  | f + 1, f' + 1, s, h0, h1, h2 => by
    unfold lvF
    apply walk_congr
    intro k hk
    obtain ⟨i, rfl, hi1, hi2, hi3⟩ := kids_mem ps s _ k hk
    have := ht i s hi1 hi3
    exact lv_enough ht f f' i hi2 (by omega) (by omega)

end Go.Proofs.Ytgkbmppgconjgaa
