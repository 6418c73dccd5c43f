/- How long the answers are. -/
import Derived.Test.YtdmmjggkdkmeaaaHqJ
namespace Go.Proofs.Ytdmmjggkdkmeaaa

theorem dof_some : ∀ (l acc r : List Du), dof acc l = some r → r.length = acc.length + l.length ∧ (acc.length ≤ 200 → r.length ≤ 200)
  | [], acc, r, h => by
    simp only [dof, Option.some.injEq] at h
    subst h
    exact ⟨by simp, id⟩
  | x :: l, acc, r, h => by
    unfold dof at h
    split at h
    · rename_i hc
      obtain ⟨h1, h2⟩ := dof_some l _ r h
      rw [dpush_len] at h1 h2
      exact ⟨by simp; omega, fun h3 => h2 (by omega)⟩
    · cases h
theorem dof_len {l : List Du} (_ : l.length ≤ 1048576) : ((dof [] l).getD []).length ≤ 1048576 := by
  cases h : dof [] l with
  | none => simp
  | some r => have := (dof_some l [] r h).2 (by simp); simp; omega
theorem dallR_len {l : List Du} (hl : l.length ≤ 1048576) : (dallR l).length ≤ 1048576 := by
  unfold dallR
  split
  · rw [(dall_perm l.length l (Nat.le_refl _)).length_eq]; exact hl
  · simp
end Go.Proofs.Ytdmmjggkdkmeaaa
