/- The argument of a law that is a topology, opened. -/
import Derived.Test.YtgkbmppgconjgaaTopD
import Derived.ProofKit
import Derived.Lib.SmallJoins
import Derived.Deep.Slices
namespace Go.Proofs.Ytgkbmppgconjgaa
open Go.ChangeShapes Go.WideShapes Go.ChangeAt Go.RowKit Go.Joins Go.Deep

theorem cellsInt1 : Try.prog.cellsOf 3 = 1 := by kernel_rfl
theorem cellsVec3 : Try.prog.cellsOf 37 = 3 := by kernel_rfl
/-- Numbers that came in. -/
theorem ints_opened {H : Type} {enc : TypeId × Value → H} {W : World} {fuel : Nat} {held : Bool} {v : Value} {x : DataW H × List MemPlace}
    (h : DataW.trod enc Try.prog W 0 (fun _ => true) held fuel 40 [v] = some x) : ∃ a xs cap, v = .slice a xs.length cap ∧ xs.length ≤ maxLen ∧ Sq W a (ints xs) := by
  rcases open_ints Try.underlying40 Try.underlying3 cellsInt1 h with ⟨hcs, _⟩ | ⟨a, len, cap, zs, hcs, _, hl, hm, hz, _, hcell, hwz⟩
  · simp at hcs
    subst hcs
    exact ⟨none, [], 0, rfl, Nat.zero_le _, ⟨fun i u hu => by simp [ints] at hu⟩⟩
  · simp at hcs
    subst hcs
    simp only [if_true] at hz
    have hlen : (zs.take len).length = len := by simp; omega
    refine ⟨some a, zs.take len, cap, by rw [hlen], by omega, ⟨fun i u hu => ?_⟩⟩
    have hi : i < len := by
      have := (List.getElem?_eq_some_iff.1 hu).1
      rw [ints_len, hlen] at this
      exact this
    have hc := hcell i (by omega)
    have hu' : u = .int .i64 (zs.getD i 0) := by
      rw [ints_at _ i (by omega)] at hu
      rw [← Option.some.inj hu, List.getElem_take]
      simp [List.getD, List.getElem?_eq_getElem (show i < zs.length by omega)]
    refine ⟨a, rfl, ?_, by rw [hu']; exact hc⟩
    have := World.block_lt_of_cell? _ _ hc
    rwa [block_add] at this

theorem exists_list {α : Type} (n : Nat) (P : Nat → α → Prop) (h : ∀ i, i < n → ∃ x, P i x) : ∃ xs : List α, xs.length = n ∧ ∀ i (hi : i < xs.length), P i xs[i] := by
  induction n with
  | zero => exact ⟨[], rfl, fun i hi => by simp at hi⟩
  | succ n ih =>
    obtain ⟨xs, hl, hx⟩ := ih (fun i hi => h i (by omega))
    obtain ⟨y, hy⟩ := h n (by omega)
    refine ⟨xs ++ [y], by simp [hl], fun i hi => ?_⟩
    by_cases e : i < xs.length
    · rw [List.getElem_append_left e]; exact hx i e
    · have e2 : i = xs.length := by simp at hi; omega
      subst e2
      rw [List.getElem_append_right (Nat.le_refl _)]
      simpa [hl] using hy

theorem add_add (p : Addr) (m k : Nat) : (p.add m).add k = p.add (m + k) := by
  unfold Addr.add
  by_cases hk : k = 0
  · subst hk; simp
  · by_cases hm : m = 0
    · subst hm; simp [hk]
    · simp [hk, hm, Nat.add_assoc]

end Go.Proofs.Ytgkbmppgconjgaa
