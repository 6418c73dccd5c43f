/- The argument of a law that is a list of accounts, opened. -/
import Derived.Test.YtpjfampfhofeaaaAcA
import Derived.Test.YtpjfampfhofeaaaTopP
namespace Go.Proofs.Ytpjfampfhofeaaa
open Go.ChangeShapes Go.WideShapes Go.ChangeAt Go.RowKit Go.Joins Go.Deep

theorem cellsAccount : Try.prog.cellsOf 72 = 3 := by kernel_rfl
theorem cellsStr1Ac : Try.prog.cellsOf 9 = 1 := by kernel_rfl
set_option maxRecDepth 100000 in
set_option maxHeartbeats 1000000 in
theorem accountC_opened {H : Type} {enc : TypeId × Value → H} {W : World} {base fuel : Nat} {spare : Nat → Bool} {held : Bool} {cs : List Value} {x : DataW H × List MemPlace} (hl : cs.length = 3)
    (h : DataW.trod enc Try.prog W base spare held fuel 72 cs = some x) : ∃ j : Ac, cs = j.cells ∧ j.nm.size ≤ maxLen := by
  obtain ⟨xs, k, _, _, hl2, hxl, hg⟩ := DataW.trod_struct Try.underlying72 h
  match cs, hl, xs, hxl with
  | [v0, v1, v2], _, [x0, x1, x2], _ =>
    have g0 : DataW.trod enc Try.prog W base spare held k 9 [v0] = some x0 := by simpa [cellsInt1, cellsStr1Ac] using hg 0 _ rfl
    have g1 : DataW.trod enc Try.prog W base spare held k 3 [v1] = some x1 := by simpa [cellsInt1, cellsStr1Ac] using hg 1 _ rfl
    have g2 : DataW.trod enc Try.prog W base spare held k 3 [v2] = some x2 := by simpa [cellsInt1, cellsStr1Ac] using hg 2 _ rfl
    obtain ⟨i0, e0, _, z0⟩ := DataW.trod_string Try.underlying9 g0
    obtain ⟨i1, e1, _, _⟩ := DataW.trod_int Try.underlying3 g1
    obtain ⟨i2, e2, _, _⟩ := DataW.trod_int Try.underlying3 g2
    simp at e0 e1 e2
    subst e0 e1 e2
    exact ⟨⟨i0, i1, i2⟩, rfl, z0⟩

set_option maxRecDepth 100000 in
/-- Jobs that came in. -/
theorem accounts_opened {H : Type} {enc : TypeId × Value → H} {W : World} {fuel : Nat} {held : Bool} {v : Value} {x : DataW H × List MemPlace}
    (h : DataW.trod enc Try.prog W 0 (fun _ => true) held fuel 39 [v] = some x) : ∃ a xs cap, v = .slice a xs.length cap ∧ xs.length ≤ maxLen ∧ Sq W a (flatAc xs) ∧ ∀ x ∈ xs, x.nm.size ≤ maxLen := by
  rcases open_slice Try.underlying39 h with ⟨hcs, _⟩ | ⟨a, len, cap, m, n, D, Pl, hcs, _, hl, hm, hmm, _, hx⟩
  · simp at hcs
    subst hcs
    exact ⟨none, [], 0, rfl, Nat.zero_le _, ⟨fun i u hu => by simp [flatAc] at hu⟩, fun x hx => by simp at hx⟩
  · simp at hcs
    subst hcs
    simp only [if_true] at hmm
    have each : ∀ i, i < len → ∃ nd : Ac, (nd.nm.size ≤ maxLen) ∧ ∀ k, k < 3 → W.cell? ((a.add (i * 3)).add k) = nd.cells[k]? := fun i hi => by
      obtain ⟨cs, h1, h2⟩ := hx i (by omega)
      rw [cellsAccount] at h1
      obtain ⟨_, hlen, hcell⟩ := World.cells?_some h1
      obtain ⟨nd, rfl, z0⟩ := accountC_opened (by first | exact hlen | simpa using hlen) h2
      exact ⟨nd, z0, fun k hk => by simpa using hcell k hk⟩
    obtain ⟨xs, hxl, hxs⟩ := exists_list len _ each
    refine ⟨some a, xs, cap, by rw [hxl], by omega, ⟨fun q u hu => ?_⟩, fun x hx => by
      obtain ⟨i, hi, e⟩ := List.getElem_of_mem hx
      subst e
      exact (hxs i (by omega)).1⟩
    have hq : q < 3 * len := by
      have := (List.getElem?_eq_some_iff.1 hu).1
      rw [flatAc_len, hxl] at this
      exact this
    have hg := flatAc_get xs (q / 3) (q % 3) (by omega) (by omega)
    have hc := (hxs (q / 3) (by omega)).2 (q % 3) (by omega)
    rw [show q / 3 * 3 + q % 3 = q by omega, hu] at hg
    rw [add_add, show q / 3 * 3 + q % 3 = q by omega, ← hg] at hc
    refine ⟨a, rfl, ?_, hc⟩
    have := World.block_lt_of_cell? _ _ hc
    rwa [block_add] at this
end Go.Proofs.Ytpjfampfhofeaaa
