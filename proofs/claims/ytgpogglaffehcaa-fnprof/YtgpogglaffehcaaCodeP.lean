/- The argument of a law that is a code, opened. -/
import Derived.Test.YtgpogglaffehcaaCurA
import Derived.ProofKit
namespace Go.Proofs.Ytgpogglaffehcaa
open Go.ChangeShapes Go.WideShapes Go.ChangeAt Go.RowKit

theorem laidOutAll : laidOutB Try.prog = true := by kernel_rfl
theorem cellsByte : Try.prog.cellsOf 5 = 1 := by kernel_rfl

theorem byte_in {x : Int} (h : (Lit.int .u8 x).wf = true) : 0 ≤ x ∧ x < 256 := by
  have h1 : IntKind.u8.min = 0 := rfl
  have h2 : IntKind.u8.max = 255 := rfl
  simp only [Lit.wf, Bool.and_eq_true, decide_eq_true_eq] at h
  omega

/-- A code that came in: its length, and its bytes where it is no longer than the laws look at. -/
theorem code_opened {H : Type} {enc : TypeId × Value → H} {W : World} {a : Option Addr} {n cap : Nat} {d : DataW H} {p : List MemPlace}
    (h : DataW.Trod enc Try.prog W 0 (fun _ => true) true 22 (.slice a n cap) d p) : n ≤ maxLen ∧ (n ≤ 1048576 → CodeIs W a n) := by
  obtain ⟨fuel, hf⟩ := h
  rcases open_ints Try.underlying22 Try.underlying5 cellsByte hf with ⟨hcs, _⟩ | ⟨b, len, c, zs, hcs, _, hl, hm, hz, _, hcell, hwz⟩
  · simp [Value.cells] at hcs
    obtain ⟨rfl, rfl, rfl⟩ := hcs
    exact ⟨Nat.zero_le _, fun _ => ⟨by omega, fun i hi => by omega⟩⟩
  · simp [Value.cells] at hcs
    obtain ⟨rfl, rfl, rfl⟩ := hcs
    simp only [if_true] at hz
    refine ⟨by omega, fun hn => ⟨hn, fun i hi => ?_⟩⟩
    have hi' : i < zs.length := by omega
    have hc := hcell i hi'
    have hg : zs.getD i 0 = zs[i] := by simp [List.getD, hi']
    have hw := byte_in (hwz zs[i] (List.getElem_mem hi'))
    refine ⟨b, zs[i], rfl, ?_, by rw [hc, hg], hw.1, hw.2⟩
    have := World.block_lt_of_cell? _ _ hc
    rwa [block_add] at this
end Go.Proofs.Ytgpogglaffehcaa
