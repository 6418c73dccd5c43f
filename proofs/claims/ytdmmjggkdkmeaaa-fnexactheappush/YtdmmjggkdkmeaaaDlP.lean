/- The argument of a law that is a list of dues, opened. -/
import Derived.Test.YtdmmjggkdkmeaaaDlA
import Derived.Test.YtdmmjggkdkmeaaaTopP
namespace Go.Proofs.Ytdmmjggkdkmeaaa
open Go.ChangeShapes Go.WideShapes Go.ChangeAt Go.RowKit Go.Joins Go.Deep

theorem cellsDue : Try.prog.cellsOf 33 = 2 := by kernel_rfl
set_option maxRecDepth 100000 in
set_option maxHeartbeats 1000000 in
theorem dueC_opened {H : Type} {enc : TypeId × Value → H} {W : World} {base fuel : Nat} {spare : Nat → Bool} {held : Bool} {cs : List Value} {x : DataW H × List MemPlace} (hl : cs.length = 2)
    (h : DataW.trod enc Try.prog W base spare held fuel 33 cs = some x) : ∃ j : Du, cs = j.cells := by
  obtain ⟨xs, k, _, _, hl2, hxl, hg⟩ := DataW.trod_struct Try.underlying33 h
  match cs, hl, xs, hxl with
  | [v0, v1], _, [x0, x1], _ =>
    have g0 : DataW.trod enc Try.prog W base spare held k 3 [v0] = some x0 := by simpa [cellsInt1] using hg 0 _ rfl
    have g1 : DataW.trod enc Try.prog W base spare held k 3 [v1] = some x1 := by simpa [cellsInt1] using hg 1 _ rfl
    obtain ⟨i0, e0, _, _⟩ := DataW.trod_int Try.underlying3 g0
    obtain ⟨i1, e1, _, _⟩ := DataW.trod_int Try.underlying3 g1
    simp at e0 e1
    subst e0 e1
    exact ⟨⟨i0, i1⟩, rfl⟩

set_option maxRecDepth 100000 in
/-- Jobs that came in. -/
theorem dues_opened {H : Type} {enc : TypeId × Value → H} {W : World} {fuel : Nat} {held : Bool} {v : Value} {x : DataW H × List MemPlace}
    (h : DataW.trod enc Try.prog W 0 (fun _ => true) held fuel 36 [v] = some x) : ∃ a xs cap, v = .slice a xs.length cap ∧ xs.length ≤ maxLen ∧ Sq W a (flatD xs) := by
  rcases open_slice Try.underlying36 h with ⟨hcs, _⟩ | ⟨a, len, cap, m, n, D, Pl, hcs, _, hl, hm, hmm, _, hx⟩
  · simp at hcs
    subst hcs
    exact ⟨none, [], 0, rfl, Nat.zero_le _, ⟨fun i u hu => by simp [flatD] at hu⟩⟩
  · simp at hcs
    subst hcs
    simp only [if_true] at hmm
    have each : ∀ i, i < len → ∃ nd : Du, ∀ k, k < 2 → W.cell? ((a.add (i * 2)).add k) = nd.cells[k]? := fun i hi => by
      obtain ⟨cs, h1, h2⟩ := hx i (by omega)
      rw [cellsDue] at h1
      obtain ⟨_, hlen, hcell⟩ := World.cells?_some h1
      obtain ⟨nd, rfl⟩ := dueC_opened (by first | exact hlen | simpa using hlen) h2
      exact ⟨nd, fun k hk => by simpa using hcell k hk⟩
    obtain ⟨xs, hxl, hxs⟩ := exists_list len _ each
    refine ⟨some a, xs, cap, by rw [hxl], by omega, ⟨fun q u hu => ?_⟩⟩
    have hq : q < 2 * len := by
      have := (List.getElem?_eq_some_iff.1 hu).1
      rw [flatD_len, hxl] at this
      exact this
    have hg := flatD_get xs (q / 2) (q % 2) (by omega) (by omega)
    have hc := hxs (q / 2) (by omega) (q % 2) (by omega)
    rw [show q / 2 * 2 + q % 2 = q by omega, hu] at hg
    rw [add_add, show q / 2 * 2 + q % 2 = q by omega, ← hg] at hc
    refine ⟨a, rfl, ?_, hc⟩
    have := World.block_lt_of_cell? _ _ hc
    rwa [block_add] at this
end Go.Proofs.Ytdmmjggkdkmeaaa
