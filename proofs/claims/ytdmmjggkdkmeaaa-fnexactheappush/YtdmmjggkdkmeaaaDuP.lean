/- The argument of a law that is a due, opened. -/
import Derived.Test.YtdmmjggkdkmeaaaDlP
import Derived.OpenShut
import Derived.Carry
namespace Go.Proofs.Ytdmmjggkdkmeaaa
open Go.ChangeShapes Go.WideShapes Go.ChangeAt Go.RowKit Go.Joins Go.Deep

set_option maxRecDepth 100000 in
set_option maxHeartbeats 1000000 in
/-- A due that came in. -/
theorem due_opened {H : Type} {enc : TypeId × Value → H} {W : World} {r : Reach} {b0 : Nat} {v : Value} {d : DataW H} {p : List MemPlace} (hv : Value.okWide Try.prog W r b0 33 v)
    (h : DataW.Trod enc Try.prog W 0 (fun _ => true) true 33 v d p) : ∃ j : Du, v = .agg #[.int .i64 j.t, .int .i64 j.n] := by
  obtain ⟨cs, rfl, hsz⟩ := okWide_struct Try.underlying33 hv
  rw [cellsDue] at hsz
  obtain ⟨fuel, hf⟩ := h
  obtain ⟨l, rfl⟩ : ∃ l : List Value, cs = l.toArray := ⟨cs.toList, rfl⟩
  obtain ⟨j, hj⟩ := dueC_opened (cs := l) (by simpa using hsz) (by simpa [Value.cells] using hf)
  exact ⟨j, by rw [hj]; rfl⟩
end Go.Proofs.Ytdmmjggkdkmeaaa
