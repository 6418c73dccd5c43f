/- The argument of a law that is a room, opened. -/
import Derived.Test.YtgpogglaffehcaaRmE
import Derived.Test.YtgpogglaffehcaaPtP
namespace Go.Proofs.Ytgpogglaffehcaa
open Go.ChangeShapes Go.WideShapes Go.ChangeAt Go.RowKit Go.Joins Go.Deep

theorem cellsRoom5 : Try.prog.cellsOf 71 = 5 := by kernel_rfl
theorem cellsBool1 : Try.prog.cellsOf 4 = 1 := by kernel_rfl
theorem cellsBoolS1 : Try.prog.cellsOf 68 = 1 := by kernel_rfl
theorem cellsProfS1 : Try.prog.cellsOf 69 = 1 := by kernel_rfl
theorem cellsIntS1 : Try.prog.cellsOf 32 = 1 := by kernel_rfl
theorem cellsNodeS1 : Try.prog.cellsOf 65 = 1 := by kernel_rfl

set_option maxRecDepth 100000 in
/-- Bools that came in. -/
theorem bools_opened {H : Type} {enc : TypeId × Value → H} {W : World} {fuel : Nat} {held : Bool} {v : Value} {x : DataW H × List MemPlace}
    (h : DataW.trod enc Try.prog W 0 (fun _ => true) held fuel 68 [v] = some x) : ∃ a xs cap, v = .slice a (xs : List Bool).length cap ∧ xs.length ≤ maxLen ∧ Sq W a (bools xs) := by
  rcases open_slice Try.underlying68 h with ⟨hcs, _⟩ | ⟨a, len, cap, m, n, D, Pl, hcs, _, hl, hm, hmm, _, hx⟩
  · simp at hcs
    subst hcs
    exact ⟨none, [], 0, rfl, Nat.zero_le _, ⟨fun i u hu => by simp [bools] at hu⟩⟩
  · simp at hcs
    subst hcs
    simp only [if_true] at hmm
    have each : ∀ i, i < len → ∃ b : Bool, W.cell? (a.add i) = some (.bool b) := fun i hi => by
      obtain ⟨cs, h1, h2⟩ := hx i (by omega)
      rw [cellsBool1] at h1
      obtain ⟨b, rfl, _⟩ := DataW.trod_bool Try.underlying4 h2
      obtain ⟨_, _, hcell⟩ := World.cells?_some h1
      exact ⟨b, by simpa [Addr.add] using hcell 0 (by decide)⟩
    obtain ⟨xs, hxl, hxs⟩ := exists_list len _ each
    refine ⟨some a, xs, cap, by rw [hxl], by omega, ⟨fun i u hu => ?_⟩⟩
    have hi : i < xs.length := by
      have := (List.getElem?_eq_some_iff.1 hu).1
      rw [bools_len] at this
      exact this
    rw [bools_at xs i hi] at hu
    cases hu
    have hc := hxs i hi
    refine ⟨a, rfl, ?_, hc⟩
    have := World.block_lt_of_cell? _ _ hc
    rwa [block_add] at this

set_option maxRecDepth 100000 in
/-- A profile's cell that came in. -/
theorem prof_cell {H : Type} {enc : TypeId × Value → H} {W : World} {fuel : Nat} {held : Bool} {v : Value} {x : DataW H × List MemPlace}
    (h : DataW.trod enc Try.prog W 0 (fun _ => true) held fuel 51 [v] = some x) : ∃ a xs cap, v = .slice a (xs : List Nd).length cap ∧ xs.length ≤ maxLen ∧ Sq W a (flat xs) := by
  obtain ⟨y0, n, _, _, h0⟩ := trod_struct1 Try.underlying51 h
  have h0' : DataW.trod enc Try.prog W 0 (fun _ => true) held n 49 [v] = some y0 := by simpa [cellsPtS1] using h0
  exact pts_opened h0'

set_option maxRecDepth 100000 in
/-- Profiles that came in. -/
theorem profs_opened {H : Type} {enc : TypeId × Value → H} {W : World} {fuel : Nat} {held : Bool} {v : Value} {x : DataW H × List MemPlace}
    (h : DataW.trod enc Try.prog W 0 (fun _ => true) held fuel 69 [v] = some x) : ∃ a pss cap, v = .slice a (pss : List (List Nd)).length cap ∧ pss.length ≤ maxLen ∧ (∀ ns ∈ pss, ns.length ≤ maxLen) ∧ PVs W a pss := by
  rcases open_slice Try.underlying69 h with ⟨hcs, _⟩ | ⟨a, len, cap, m, n, D, Pl, hcs, _, hl, hm, hmm, _, hx⟩
  · simp at hcs
    subst hcs
    exact ⟨none, [], 0, rfl, Nat.zero_le _, fun ns h => by simp at h, ⟨fun i u hu => by simp at hu⟩⟩
  · simp at hcs
    subst hcs
    simp only [if_true] at hmm
    have each : ∀ i, i < len → ∃ ns : List Nd, ns.length ≤ maxLen ∧ ∃ q c, W.cell? (a.add i) = some (.slice q ns.length c) ∧ Sq W q (flat ns) := fun i hi => by
      obtain ⟨cs, h1, h2⟩ := hx i (by omega)
      rw [cellsProf1] at h1
      obtain ⟨_, hlen, hcell⟩ := World.cells?_some h1
      obtain ⟨v, rfl⟩ : ∃ v, cs = [v] := by
        have hl1 : cs.length = 1 := by
          have := (trod_struct1 Try.underlying51 h2)
          obtain ⟨_, _, _, hh, _⟩ := this
          rw [cellsProf1] at hh
          exact hh
        exact List.length_eq_one_iff.1 hl1
      obtain ⟨q, ns, c, rfl, hn, hs⟩ := prof_cell h2
      exact ⟨ns, hn, q, c, by simpa [Addr.add] using hcell 0 (by decide), hs⟩
    obtain ⟨pss, hxl, hxs⟩ := exists_list len _ each
    refine ⟨some a, pss, cap, by rw [hxl], by omega, fun ns hns => ?_, ⟨fun i ns hi => ?_⟩⟩
    · obtain ⟨i, hi⟩ := List.getElem?_of_mem hns
      obtain ⟨hil, rfl⟩ := List.getElem?_eq_some_iff.1 hi
      exact (hxs i hil).1
    · obtain ⟨hil, rfl⟩ := List.getElem?_eq_some_iff.1 hi
      obtain ⟨_, q, c, hc, hs⟩ := hxs i hil
      refine ⟨a, q, c, rfl, ?_, hc, hs⟩
      have := World.block_lt_of_cell? _ _ hc
      rwa [block_add] at this

set_option maxRecDepth 100000 in
set_option maxHeartbeats 1000000 in
/-- A room that came in. -/
theorem room_opened {H : Type} {enc : TypeId × Value → H} {W : World} {r : Reach} {b0 : Nat} {v : Value} {d : DataW H} {p : List MemPlace} (hv : Value.okWide Try.prog W r b0 71 v)
    (h : DataW.Trod enc Try.prog W 0 (fun _ => true) true 71 v d p) : ∃ (A : Ra) (R : Rm), v = .agg #[.slice A.aP R.ps.length A.cP, .slice A.aN R.ns.length A.cN, .slice A.aU R.up.length A.cU, .slice A.aQ R.pss.length A.cQ, .slice A.aL R.lic.length A.cL] ∧ RWide R ∧ RAt W A R := by
  obtain ⟨cs, rfl, hsz⟩ := okWide_struct Try.underlying71 hv
  rw [cellsRoom5] at hsz
  obtain ⟨fuel, hf⟩ := h
  obtain ⟨xs, k, _, _, hl, hxl, hg⟩ := DataW.trod_struct Try.underlying71 hf
  obtain ⟨l, rfl⟩ : ∃ l : List Value, cs = l.toArray := ⟨cs.toList, rfl⟩
  have hl5 : l.length = 5 := by simpa using hsz
  match l, hl5, xs, hxl with
  | [v0, v1, v2, v3, v4], _, [x0, x1, x2, x3], _ =>
    have g0 : DataW.trod enc Try.prog W 0 (fun _ => true) true k 67 [v0, v1] = some x0 := by simpa [Value.cells, cellsTopo2, cellsBoolS1, cellsProfS1, cellsProf1] using hg 0 _ rfl
    have g1 : DataW.trod enc Try.prog W 0 (fun _ => true) true k 68 [v2] = some x1 := by simpa [Value.cells, cellsTopo2, cellsBoolS1, cellsProfS1, cellsProf1] using hg 1 _ rfl
    have g2 : DataW.trod enc Try.prog W 0 (fun _ => true) true k 69 [v3] = some x2 := by simpa [Value.cells, cellsTopo2, cellsBoolS1, cellsProfS1, cellsProf1] using hg 2 _ rfl
    have g3 : DataW.trod enc Try.prog W 0 (fun _ => true) true k 51 [v4] = some x3 := by simpa [Value.cells, cellsTopo2, cellsBoolS1, cellsProfS1, cellsProf1] using hg 3 _ rfl
    obtain ⟨y0, y1, n, _, _, t0, t1⟩ := trod_struct2 Try.underlying67 g0
    have t0' : DataW.trod enc Try.prog W 0 (fun _ => true) true n 32 [v0] = some y0 := by simpa [cellsIntS1, cellsNodeS1] using t0
    have t1' : DataW.trod enc Try.prog W 0 (fun _ => true) true n 65 [v1] = some y1 := by simpa [cellsIntS1, cellsNodeS1] using t1
    obtain ⟨aP, ps, cP, rfl, hp, sP⟩ := ints_opened t0'
    obtain ⟨aN, ns, cN, rfl, hn, sN⟩ := nodes_opened t1'
    obtain ⟨aU, up, cU, rfl, hu, sU⟩ := bools_opened g1
    obtain ⟨aQ, pss, cQ, rfl, hq, he, sQ⟩ := profs_opened g2
    obtain ⟨aL, lic, cL, rfl, hli, sL⟩ := prof_cell g3
    exact ⟨⟨aP, aN, aU, aQ, aL, cP, cN, cU, cQ, cL⟩, ⟨ps, ns, up, pss, lic⟩, rfl, ⟨hp, hn, hu, hq, he, hli⟩, sP, sN, sU, sQ, sL⟩
end Go.Proofs.Ytgpogglaffehcaa
