/- The law on the tree: lists. -/
import Derived.Test.YtcjamjfdkpgjkaaLowA
import Derived.Test.YtcjamjfdkpgjkaaBelowB
import Derived.Test.YtcjamjfdkpgjkaaAboveA
namespace Go.Proofs.Ytcjamjfdkpgjkaa
open Go.RowKit

theorem below_has {ps : List Int} {ns : List Nd} {s : Int} {q : Nat} {y : Nd} (hy : ns[q]? = some y) (hs : s ∈ upF ps y.l.toNat y.l.toNat) : ∀ k, q < k → (q : Int) ∈ belowTo ps ns s k
  | 0, h => by omega
  | k + 1, h => by
    unfold belowTo
    by_cases e : q = k
    · subst e
      rw [if_pos ⟨y, hy, hs⟩]
      simp
    · have := below_has hy hs k (by omega)
      split
      · exact List.mem_append_left _ this
      · exact this

theorem low_yes {ps : List Int} {ns : List Nd} {xs : List Int} (h : 0 ≤ lowR ps ns xs) : NdOk ps ns xs ∧ xs ≠ [] ∧ ∃ r : Nat, r < ps.length ∧ lowR ps ns xs = r ∧ cov ps ns xs r := by
  unfold lowR at h ⊢
  split at h
  · rename_i hc
    rw [if_pos hc]
    rcases best_cases ps ns xs ps.length with ⟨h1, _⟩ | ⟨r, h1, h2, h3, _⟩
    · omega
    · exact ⟨hc.1, hc.2, r, h1, h2, h3⟩
  · omega
theorem low_no {ps : List Int} {ns : List Nd} {xs : List Int} (h : lowR ps ns xs < 0) : lowR ps ns xs = -1 := by
  unfold lowR at h ⊢
  split at h
  · rename_i hc
    rw [if_pos hc]
    rcases best_cases ps ns xs ps.length with ⟨h1, _⟩ | ⟨r, h1, h2, h3, _⟩
    · exact h1
    · omega
  · rename_i hc
    rw [if_neg hc]

theorem up_end {ps : List Int} (ht : treeB ps) (h0 : 0 ≤ lvN ps 0) : ∀ (m j : Nat), j ≤ m → j < ps.length → ∃ init : List Int, upF ps j j = init ++ [0] ∧ lvN ps 0 = lvN ps j + init.length := by
  intro m
  induction m with
  | zero =>
    intro j hj _
    obtain rfl : j = 0 := by omega
    exact ⟨[], by rw [up_zero]; rfl, by simp⟩
  | succ m ih =>
    intro j hj hl
    by_cases e : j = 0
    · subst e
      exact ⟨[], by rw [up_zero]; rfl, by simp⟩
    · have hq := ht j ps[j] (by omega) (List.getElem?_eq_getElem hl)
      obtain ⟨p, hp⟩ : ∃ p : Nat, ps[j] = p := ⟨ps[j].toNat, by omega⟩
      have hpe : ps[j]? = some (p : Int) := by rw [List.getElem?_eq_getElem hl, hp]
      obtain ⟨init, h1, h2⟩ := ih p (by omega) (by omega)
      have hk := lvN_kid ht h0 p j (by omega) hl hpe
      exact ⟨(j : Int) :: init, by rw [up_step ht j p (by omega) hl hpe, h1]; rfl, by simp; omega⟩

/-- What the law asks of each node. -/
theorem tree_node {ps : List Int} {ns : List Nd} {xs : List Int} {r : Nat} (hok : NdOk ps ns xs) (hr : r < ps.length) (hc : cov ps ns xs r) {x : Int} (hx : x ∈ xs) :
    ∃ (q : Nat) (n : Nd) (l : Nat), x = q ∧ ns[q]? = some n ∧ q < ns.length ∧ n.l = l ∧ x ∈ belowR ps ns r ∧ (r : Int) ∈ aboveR ps ns l := by
  obtain ⟨q, n, l, rfl, hq, hql, hnl, hll, hlf⟩ := leaf_of hok.1 (hok.2 x hx)
  have hm := hc _ hx
  rw [upLeaf, hlf, Int.toNat_natCast] at hm
  refine ⟨q, n, l, rfl, hq, hql, hnl, ?_, ?_⟩
  · rw [belowR, if_pos ⟨hok.1, by omega, by omega⟩]
    exact below_has hq (by rw [hnl, Int.toNat_natCast]; exact hm) _ hql
  · rw [aboveR, if_pos ⟨hok.1, by omega, by omega⟩, Int.toNat_natCast]
    exact hm

/-- What the law asks of the way up. -/
theorem tree_up {ps : List Int} {ns : List Nd} {r : Nat} (hok : TopOk ps ns) (hr : r < ps.length) : ∃ init : List Int, aboveR ps ns r = init ++ [0] ∧ levelR ps ns 0 - levelR ps ns r = init.length ∧ init.length ≤ 24 := by
  obtain ⟨init, h1, h2⟩ := up_end hok.tree hok.level r r (Nat.le_refl _) hr
  have h3 := up_len ps r r
  have hf := hok.few
  rw [h1] at h3
  simp at h3
  refine ⟨init, ?_, ?_, by omega⟩
  · rw [aboveR, if_pos ⟨hok, by omega, by omega⟩, Int.toNat_natCast]
    exact h1
  · rw [levelR, levelR, if_pos ⟨hok, by omega, by have := hok.one; omega⟩, if_pos ⟨hok, by omega, by omega⟩]
    omega
end Go.Proofs.Ytcjamjfdkpgjkaa
