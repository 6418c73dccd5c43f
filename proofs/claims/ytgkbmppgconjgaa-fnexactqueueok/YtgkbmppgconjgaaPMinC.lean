/- ProfMin: the program. -/
import Derived.Test.YtgkbmppgconjgaaPMinB
import Derived.Deep.RegionWith
import Derived.Deep.DeepCutAuto
namespace Go.Proofs.Ytgkbmppgconjgaa
open Go.ChangeShapes Go.WideShapes Go.ChangeAt Go.RowKit

theorem add_add' (p : Addr) (m k : Nat) : (p.add m).add k = p.add (m + k) := by
  unfold Addr.add
  by_cases hk : k = 0
  · subst hk; simp
  · by_cases hm : m = 0
    · subst hm; simp [hk]
    · simp [hk, hm, Nat.add_assoc]

theorem flat_drop (s : Nat) : ∀ (ns : List Nd), flat (ns.drop s) = (flat ns).drop (s * 4) := by
  induction s with
  | zero => intro ns; simp
  | succ s ih =>
    intro ns
    cases ns with
    | nil => simp [flat]
    | cons n r =>
      rw [List.drop_succ_cons, ih r]
      simp only [flat, List.flatMap_cons]
      have e : (s + 1) * 4 = n.cells.length + s * 4 := by
        have : n.cells.length = 4 := rfl
        omega
      rw [e, List.drop_append, List.drop_eq_nil_of_le (Nat.le_add_right _ _), List.nil_append, Nat.add_sub_cancel_left]

theorem Sq.drop {w : World} {p : Addr} {xs : List Nd} (h : Sq w (some p) (flat xs)) (s : Nat) : Sq w (some (p.add (s * 4))) (flat (xs.drop s)) :=
  ⟨fun i u hu => by
    rw [flat_drop, List.getElem?_drop] at hu
    obtain ⟨q, hq, hb, hc⟩ := h.cell _ _ hu
    cases hq
    exact ⟨_, rfl, by rw [block_add]; exact hb, by rw [add_add']; exact hc⟩⟩

theorem StepAt.one {ns : List Nd} {t : Int} {s s' : Nat} (h : StepAt ns t s) (_hr : Rising ns) (h' : StepAt ns t s') : s = s' := by
  obtain ⟨n, hn, hle, hlt⟩ := h
  obtain ⟨m, hm, hle', hlt'⟩ := h'
  rcases Nat.lt_trichotomy s s' with h | h | h
  · have := hlt s' m h hm; omega
  · exact h
  · have := hlt' s n h hn; omega

end Go.Proofs.Ytgkbmppgconjgaa
