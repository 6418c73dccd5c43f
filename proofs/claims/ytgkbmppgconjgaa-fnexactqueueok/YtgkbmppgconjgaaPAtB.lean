/- What is free at a time: the specification and the program. -/
import Derived.Test.YtgkbmppgconjgaaPAt
import Derived.Deep.RegionWith
namespace Go.Proofs.Ytgkbmppgconjgaa
open Go.ChangeShapes Go.WideShapes Go.ChangeAt Go.RowKit

def nd0 : Nd := ⟨0, 0, 0, 0⟩
/-- The last point that isn't later. -/
def atL (ns : List Nd) (t : Int) : Nd := ns.foldl (fun o n => if n.l ≤ t then n else o) nd0
theorem at_next {ns : List Nd} {j : Nat} {n : Nd} (t : Int) (h : ns[j]? = some n) : atL (ns.take (j + 1)) t = if n.l ≤ t then n else atL (ns.take j) t := by
  rw [List.take_add_one, h, Option.toList_some, atL, List.foldl_append]
  rfl

/-- The point s holds at t. -/
def StepAt (ns : List Nd) (t : Int) (s : Nat) : Prop := ∃ n, ns[s]? = some n ∧ n.l ≤ t ∧ ∀ k m, s < k → ns[k]? = some m → t < m.l

theorem StepAt.at {ns : List Nd} {t : Int} {s : Nat} {n : Nd} (h : StepAt ns t s) (hn : ns[s]? = some n) : atL ns t = n := by
  obtain ⟨n', hn', hle, hlt⟩ := h
  rw [hn] at hn'
  cases hn'
  have key : ∀ d, atL (ns.take (s + 1 + d)) t = n := fun d => by
    induction d with
    | zero => rw [Nat.add_zero, at_next t hn, if_pos hle]
    | succ d ih =>
      by_cases hd : s + 1 + d < ns.length
      · have e := List.getElem?_eq_getElem hd
        rw [show s + 1 + (d + 1) = s + 1 + d + 1 by omega, at_next t e, if_neg (by have := hlt _ _ (by omega) e; omega)]
        exact ih
      · rw [List.take_of_length_le (by omega)] at ih ⊢
        exact ih
  have := key ns.length
  rwa [List.take_of_length_le (by omega)] at this

theorem POk.head {ns : List Nd} (h : POk ns) : ∃ n, ns[0]? = some n ∧ n.l = 0 := by
  have h1 := h.one
  have e := List.getElem?_eq_getElem (show 0 < ns.length by omega)
  exact ⟨_, e, h.top _ e⟩

theorem POk.at_mem {ns : List Nd} (h : POk ns) {t : Int} (ht : 0 ≤ t) : ∃ (s : Nat) (n : Nd), StepAt ns t s ∧ ns[s]? = some n ∧ atL ns t = n := by
  -- the last point that isn't later
  have key : ∀ j, 1 ≤ j → j ≤ ns.length → ∃ s n, s < j ∧ ns[s]? = some n ∧ n.l ≤ t ∧ ∀ k m, s < k → k < j → ns[k]? = some m → t < m.l := by
    intro j
    induction j with
    | zero => intro h; omega
    | succ j ih =>
      intro _ hj
      by_cases h1 : j = 0
      · subst h1
        obtain ⟨n, hn, hl⟩ := h.head
        exact ⟨0, n, by omega, hn, by omega, fun k m hk hk2 => by omega⟩
      · obtain ⟨s, n, hs, hn, hle, hlt⟩ := ih (by omega) (by omega)
        have e := List.getElem?_eq_getElem (show j < ns.length by omega)
        by_cases hc : ns[j].l ≤ t
        · exact ⟨j, _, by omega, e, hc, fun k m hk hk2 => by omega⟩
        · refine ⟨s, n, by omega, hn, hle, fun k m hk hk2 hm => ?_⟩
          by_cases ek : k = j
          · subst ek; rw [e] at hm; cases hm; omega
          · exact hlt k m hk (by omega) hm
  obtain ⟨s, n, _, hn, hle, hlt⟩ := key ns.length h.one (Nat.le_refl _)
  have hst : StepAt ns t s := ⟨n, hn, hle, fun k m hk hm => hlt k m hk (List.getElem?_eq_some_iff.1 hm).1 hm⟩
  exact ⟨s, n, hst, hn, hst.at hn⟩

theorem POk.at_ok {ns : List Nd} (h : POk ns) {t : Int} (ht : 0 ≤ t) : vokB (atL ns t).a (atL ns t).b (atL ns t).c = true := by
  obtain ⟨s, n, _, hn, e⟩ := h.at_mem ht
  rw [e]
  exact (h.each s n hn).2

end Go.Proofs.Ytgkbmppgconjgaa
