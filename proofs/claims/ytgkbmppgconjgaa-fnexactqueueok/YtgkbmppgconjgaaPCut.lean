/- ProfCut: lists, the program. -/
import Derived.Test.YtgkbmppgconjgaaPMinC
import Derived.Test.YtgkbmppgconjgaaPtB
import Derived.Laws.Cover3
namespace Go.Proofs.Ytgkbmppgconjgaa
open Go.ChangeShapes Go.WideShapes Go.ChangeAt Go.RowKit

/-- The points of the first j that are later. -/
def lateTo (ns : List Nd) (t : Int) (j : Nat) : List Nd := (ns.take j).filter (fun n => decide (t < n.l))
theorem late_next {ns : List Nd} {t : Int} {j : Nat} {n : Nd} (h : ns[j]? = some n) : lateTo ns t (j + 1) = if t < n.l then lateTo ns t j ++ [n] else lateTo ns t j := by
  rw [lateTo, List.take_add_one, h, Option.toList_some, List.filter_append]
  by_cases hc : t < n.l
  · rw [if_pos hc]; simp [lateTo, hc]
  · rw [if_neg hc]; simp [lateTo, hc]
theorem late_len (ns : List Nd) (t : Int) (j : Nat) : (lateTo ns t j).length ≤ j := by
  have h1 := List.length_filter_le (fun n : Nd => decide (t < n.l)) (ns.take j)
  have h2 := List.length_take_le j ns
  unfold lateTo
  omega

theorem late_all {ns : List Nd} {t : Int} {s : Nat} (hr : Rising ns) (hs : StepAt ns t s) : lateTo ns t ns.length = ns.drop (s + 1) := by
  obtain ⟨n, hn, hle, hlt⟩ := hs
  rw [lateTo, List.take_length]
  conv => lhs; rw [← List.take_append_drop (s + 1) ns]
  rw [List.filter_append]
  have h1 : (ns.take (s + 1)).filter (fun n => decide (t < n.l)) = [] := by
    rw [List.filter_eq_nil_iff]
    intro m hm
    obtain ⟨k, hk⟩ := List.getElem?_of_mem hm
    rw [List.getElem?_take] at hk
    split at hk
    · rename_i hks
      by_cases e : k = s
      · subst e; rw [hn] at hk; cases hk; simp; omega
      · have := hr.mono hk hn (by omega); simp; omega
    · cases hk
  have h2 : (ns.drop (s + 1)).filter (fun n => decide (t < n.l)) = ns.drop (s + 1) := by
    rw [List.filter_eq_self]
    intro m hm
    obtain ⟨k, hk⟩ := List.getElem?_of_mem hm
    rw [List.getElem?_drop] at hk
    have := hlt _ _ (by omega) hk
    simpa using this
  rw [h1, h2, List.nil_append]

/-- A point at 0 with what is free at t. -/
def at0 (ns : List Nd) (t : Int) : Nd := ⟨0, (atL ns t).a, (atL ns t).b, (atL ns t).c⟩
/-- What 'ProfCut' answers. -/
noncomputable def cutR (ns : List Nd) (t : Int) : List Nd := open Classical in if POk ns ∧ timeB t = true then at0 ns t :: lateTo ns t ns.length else []
theorem cut_len (ns : List Nd) (t : Int) : (cutR ns t).length ≤ 201 := by
  unfold cutR
  split
  · rename_i h
    have := late_len ns t ns.length
    have := h.1.few
    simp
    omega
  · simp

end Go.Proofs.Ytgkbmppgconjgaa
