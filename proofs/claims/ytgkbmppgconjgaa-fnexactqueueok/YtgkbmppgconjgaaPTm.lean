/- The times of a profile's points: the specification and the program. -/
import Derived.Test.YtgkbmppgconjgaaPrfB
import Derived.Test.YtgkbmppgconjgaaAnsA
import Derived.Test.YtgkbmppgconjgaaTopJ
namespace Go.Proofs.Ytgkbmppgconjgaa
open Go.ChangeShapes Go.WideShapes Go.ChangeAt Go.RowKit

/-- The times of the points. -/
def atsL (ns : List Nd) : List Int := ns.map (·.l)
theorem ats_len (ns : List Nd) : (atsL ns).length = ns.length := by simp [atsL]
theorem ats_next {ns : List Nd} {j : Nat} {n : Nd} (h : ns[j]? = some n) : atsL (ns.take (j + 1)) = atsL (ns.take j) ++ [n.l] := by
  rw [List.take_add_one, h, Option.toList_some]
  simp [atsL]
theorem ats_to (ns : List Nd) (j : Nat) (h : j ≤ ns.length) : (atsL (ns.take j)).length = j := by rw [ats_len, List.length_take]; omega

theorem Ans.wide {B B' T T' : Nat} {w : World} {xs : List Value} {v : Value} (h : Ans B T w xs v) (hB : B' ≤ B) (hT : T ≤ T') : Ans B' T' w xs v := by
  obtain ⟨a, cap, hv, h⟩ := h
  refine ⟨a, cap, hv, ?_⟩
  rcases h with rfl | ⟨g, rfl, hg, hT', hr⟩
  · exact .inl rfl
  · exact .inr ⟨g, rfl, by omega, by omega, hr⟩

/-- 'make([]int, 0, n)'. -/
theorem make_room (n : Nat) (hn : n ≤ 1048576) : ∃ Z : List Value, Z.length = n ∧ ∀ w : World, (Instr.makeSlice 40 (.int .i64 0) (.int .i64 (n : Int))).run Try.prog w = .ok (.slice (some ⟨w.heap.size, 0, none⟩) 0 n) (w.alloc (.cells Z.toArray 3)) := by
  obtain ⟨i0, hi, hz0, hz1, hz2⟩ := info_parts infoInt
  refine ⟨(madeCells (Value.int .i64 0).cells (n * i0.size)).toList, ?_, fun w => ?_⟩
  · rw [hz1]
    simp [madeCells, Value.cells]
  · have h := run_make (P := Try.prog) (w := w) 40 3 i0 (.int .i64 0) Try.underlying40 hi hz0 .i64 .i64 0 (n : Int) (by omega) (by omega) (by rw [hz2]; omega) (by omega)
    simpa using h

/-- What 'ProfTimes' answers. -/
noncomputable def timesR (ns : List Nd) : List Int := open Classical in if POk ns then atsL ns else []
theorem times_len (ns : List Nd) : (timesR ns).length ≤ 200 := by
  unfold timesR
  split
  · rename_i h; rw [ats_len]; exact h.few
  · simp

end Go.Proofs.Ytgkbmppgconjgaa
