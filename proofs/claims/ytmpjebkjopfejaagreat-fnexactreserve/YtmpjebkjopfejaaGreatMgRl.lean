/- The argument of a law that is a room, opened. -/
import Derived.Test.YtmpjebkjopfejaaGreatMzPtA
import Derived.Test.YtmpjebkjopfejaaGreatMzTopP
import Derived.OpenShut
import Derived.Carry
import Derived.Test.YtmpjebkjopfejaaGreatMgRc
namespace Go.Proofs.YtmpjebkjopfejaaGreat
open Go.ChangeShapes Go.WideShapes Go.ChangeAt Go.RowKit Go.Joins Go.Deep

theorem cellsPt4 : Tryz.prog.cellsOf 119 = 4 := by kernel_rfl
theorem cellsProf1 : Tryz.prog.cellsOf 30 = 1 := by kernel_rfl
theorem cellsPtS1 : Tryz.prog.cellsOf 28 = 1 := by kernel_rfl

set_option maxRecDepth 100000 in
theorem pt_opened {H : Type} {enc : TypeId × Value → H} {W : World} {base fuel : Nat} {spare : Nat → Bool} {held : Bool} {cs : List Value} {x : DataW H × List MemPlace}
    (h : DataW.trod enc Tryz.prog W base spare held fuel 119 cs = some x) : ∃ n : Nd, cs = n.cells := by
  obtain ⟨y0, y1, k, _, hl, h0, h1⟩ := trod_struct2 Tryz.underlying119 h
  rw [cellsPt4] at hl
  match cs, hl with
  | [v0, v1, v2, v3], _ =>
    simp only [cellsInt1, cellsVec3] at h0 h1
    obtain ⟨l, e0, _, _⟩ := DataW.trod_int Tryz.underlying3 h0
    obtain ⟨xs, k2, _, _, hl2, hxl, hf⟩ := DataW.trod_struct Tryz.underlying34 h1
    match xs, hxl with
    | [x0, x1, x2], _ =>
      have g0 : DataW.trod enc Tryz.prog W base spare held k2 3 [v1] = some x0 := by simpa [cellsInt1] using hf 0 _ rfl
      have g1 : DataW.trod enc Tryz.prog W base spare held k2 3 [v2] = some x1 := by simpa [cellsInt1] using hf 1 _ rfl
      have g2 : DataW.trod enc Tryz.prog W base spare held k2 3 [v3] = some x2 := by simpa [cellsInt1] using hf 2 _ rfl
      obtain ⟨a, ea, _, _⟩ := DataW.trod_int Tryz.underlying3 g0
      obtain ⟨b, eb, _, _⟩ := DataW.trod_int Tryz.underlying3 g1
      obtain ⟨c, ec, _, _⟩ := DataW.trod_int Tryz.underlying3 g2
      simp at e0 ea eb ec
      subst e0 ea eb ec
      exact ⟨⟨l, a, b, c⟩, rfl⟩

set_option maxRecDepth 100000 in
/-- Points that came in. -/
theorem pts_opened {H : Type} {enc : TypeId × Value → H} {W : World} {fuel : Nat} {held : Bool} {v : Value} {x : DataW H × List MemPlace}
    (h : DataW.trod enc Tryz.prog W 0 (fun _ => true) held fuel 28 [v] = some x) : ∃ a xs cap, v = .slice a xs.length cap ∧ xs.length ≤ maxLen ∧ Sq W a (flat xs) := by
  rcases open_slice Tryz.underlying28 h with ⟨hcs, _⟩ | ⟨a, len, cap, m, n, D, Pl, hcs, _, hl, hm, hmm, _, hx⟩
  · simp at hcs
    subst hcs
    exact ⟨none, [], 0, rfl, Nat.zero_le _, ⟨fun i u hu => by simp [flat] at hu⟩⟩
  · simp at hcs
    subst hcs
    simp only [if_true] at hmm
    have each : ∀ i, i < len → ∃ nd : Nd, ∀ k, k < 4 → W.cell? ((a.add (i * 4)).add k) = nd.cells[k]? := fun i hi => by
      obtain ⟨cs, h1, h2⟩ := hx i (by omega)
      rw [cellsPt4] at h1
      obtain ⟨nd, rfl⟩ := pt_opened h2
      obtain ⟨_, _, hcell⟩ := World.cells?_some h1
      exact ⟨nd, fun k hk => by simpa using hcell k hk⟩
    obtain ⟨xs, hxl, hxs⟩ := exists_list len _ each
    refine ⟨some a, xs, cap, by rw [hxl], by omega, ⟨fun q u hu => ?_⟩⟩
    have hq : q < 4 * len := by
      have := (List.getElem?_eq_some_iff.1 hu).1
      rw [flat_len, hxl] at this
      exact this
    have hg := flat_get xs (q / 4) (q % 4) (by omega) (by omega)
    have hc := hxs (q / 4) (by omega) (q % 4) (by omega)
    rw [show q / 4 * 4 + q % 4 = q by omega, hu] at hg
    rw [add_add, show q / 4 * 4 + q % 4 = q by omega, ← hg] at hc
    refine ⟨a, rfl, ?_, hc⟩
    have := World.block_lt_of_cell? _ _ hc
    rwa [block_add] at this

set_option maxRecDepth 100000 in
/-- A profile that came in. -/
theorem prof_opened {H : Type} {enc : TypeId × Value → H} {W : World} {r : Reach} {b0 : Nat} {v : Value} {d : DataW H} {p : List MemPlace} (hv : Value.okWide Tryz.prog W r b0 30 v)
    (h : DataW.Trod enc Tryz.prog W 0 (fun _ => true) true 30 v d p) :
    ∃ b e ns, v = .agg #[.slice b (ns : List Nd).length e] ∧ ns.length ≤ maxLen ∧ Sq W b (flat ns) := by
  obtain ⟨cs, rfl, hsz⟩ := okWide_struct Tryz.underlying30 hv
  rw [cellsProf1] at hsz
  obtain ⟨v0, rfl⟩ : ∃ v0, cs = #[v0] := by
    have hl : cs.toList.length = 1 := hsz
    obtain ⟨v0, hv0⟩ := List.length_eq_one_iff.1 hl
    exact ⟨v0, Array.ext' hv0⟩
  obtain ⟨fuel, hf⟩ := h
  obtain ⟨y0, n, _, _, h0⟩ := trod_struct1 Tryz.underlying30 hf
  have h0' : DataW.trod enc Tryz.prog W 0 (fun _ => true) true n 28 [v0] = some y0 := by simpa [Value.cells, cellsPtS1] using h0
  obtain ⟨b, ns, e, rfl, hn, hs'⟩ := pts_opened h0'
  exact ⟨b, e, ns, rfl, hn, hs'⟩

set_option maxRecDepth 100000 in
/-- A vector that came in. -/
theorem vec_opened {H : Type} {enc : TypeId × Value → H} {W : World} {r : Reach} {b0 : Nat} {v : Value} {d : DataW H} {p : List MemPlace} (hv : Value.okWide Tryz.prog W r b0 34 v)
    (h : DataW.Trod enc Tryz.prog W 0 (fun _ => true) true 34 v d p) : ∃ a b c, v = .agg #[.int .i64 a, .int .i64 b, .int .i64 c] := by
  obtain ⟨x0, x1, x2, y0, y1, y2, m, rfl, _, _, hy0, hy1, hy2⟩ := open_agg3 Tryz.underlying34 (by kernel_rfl) cellsVec3 hv h
  obtain ⟨a, e0, _, _⟩ := DataW.trod_int Tryz.underlying3 hy0
  obtain ⟨b, e1, _, _⟩ := DataW.trod_int Tryz.underlying3 hy1
  obtain ⟨c, e2, _, _⟩ := DataW.trod_int Tryz.underlying3 hy2
  simp at e0 e1 e2
  subst e0 e1 e2
  exact ⟨a, b, c, rfl⟩

theorem own : ownKnob Tryz.prog.godebug = none := by kernel_rfl
theorem laidOutAll : laidOutB Tryz.prog = true := by kernel_rfl
end Go.Proofs.YtmpjebkjopfejaaGreat

namespace Go.Proofs.YtmpjebkjopfejaaGreat
open Go.ChangeShapes Go.WideShapes Go.ChangeAt Go.RowKit Go.Joins Go.Deep

theorem cellsRoom5 : Tryz.prog.cellsOf 32 = 5 := by kernel_rfl
theorem cellsBool1 : Tryz.prog.cellsOf 4 = 1 := by kernel_rfl
theorem cellsBoolS1 : Tryz.prog.cellsOf 26 = 1 := by kernel_rfl
theorem cellsProfS1 : Tryz.prog.cellsOf 27 = 1 := by kernel_rfl
theorem cellsIntS1 : Tryz.prog.cellsOf 22 = 1 := by kernel_rfl
theorem cellsNodeS1 : Tryz.prog.cellsOf 23 = 1 := by kernel_rfl

set_option maxRecDepth 100000 in
/-- Bools that came in. -/
theorem bools_opened {H : Type} {enc : TypeId × Value → H} {W : World} {fuel : Nat} {held : Bool} {v : Value} {x : DataW H × List MemPlace}
    (h : DataW.trod enc Tryz.prog W 0 (fun _ => true) held fuel 26 [v] = some x) : ∃ a xs cap, v = .slice a (xs : List Bool).length cap ∧ xs.length ≤ maxLen ∧ Sq W a (bools xs) := by
  rcases open_slice Tryz.underlying26 h with ⟨hcs, _⟩ | ⟨a, len, cap, m, n, D, Pl, hcs, _, hl, hm, hmm, _, hx⟩
  · simp at hcs
    subst hcs
    exact ⟨none, [], 0, rfl, Nat.zero_le _, ⟨fun i u hu => by simp [bools] at hu⟩⟩
  · simp at hcs
    subst hcs
    simp only [if_true] at hmm
    have each : ∀ i, i < len → ∃ b : Bool, W.cell? (a.add i) = some (.bool b) := fun i hi => by
      obtain ⟨cs, h1, h2⟩ := hx i (by omega)
      rw [cellsBool1] at h1
      obtain ⟨b, rfl, _⟩ := DataW.trod_bool Tryz.underlying4 h2
      obtain ⟨_, _, hcell⟩ := World.cells?_some h1
      exact ⟨b, by simpa [Addr.add] using hcell 0 (by decide)⟩
    obtain ⟨xs, hxl, hxs⟩ := exists_list len _ each
    refine ⟨some a, xs, cap, by rw [hxl], by omega, ⟨fun i u hu => ?_⟩⟩
    have hi : i < xs.length := by
      have := (List.getElem?_eq_some_iff.1 hu).1
      rw [bools_len] at this
      exact this
    rw [bools_at xs i hi] at hu
    cases hu
    have hc := hxs i hi
    refine ⟨a, rfl, ?_, hc⟩
    have := World.block_lt_of_cell? _ _ hc
    rwa [block_add] at this

set_option maxRecDepth 100000 in
/-- A profile's cell that came in. -/
theorem prof_cell {H : Type} {enc : TypeId × Value → H} {W : World} {fuel : Nat} {held : Bool} {v : Value} {x : DataW H × List MemPlace}
    (h : DataW.trod enc Tryz.prog W 0 (fun _ => true) held fuel 30 [v] = some x) : ∃ a xs cap, v = .slice a (xs : List Nd).length cap ∧ xs.length ≤ maxLen ∧ Sq W a (flat xs) := by
  obtain ⟨y0, n, _, _, h0⟩ := trod_struct1 Tryz.underlying30 h
  have h0' : DataW.trod enc Tryz.prog W 0 (fun _ => true) held n 28 [v] = some y0 := by simpa [cellsPtS1] using h0
  exact pts_opened h0'

set_option maxRecDepth 100000 in
/-- Profiles that came in. -/
theorem profs_opened {H : Type} {enc : TypeId × Value → H} {W : World} {fuel : Nat} {held : Bool} {v : Value} {x : DataW H × List MemPlace}
    (h : DataW.trod enc Tryz.prog W 0 (fun _ => true) held fuel 27 [v] = some x) : ∃ a pss cap, v = .slice a (pss : List (List Nd)).length cap ∧ pss.length ≤ maxLen ∧ (∀ ns ∈ pss, ns.length ≤ maxLen) ∧ PVs W a pss := by
  rcases open_slice Tryz.underlying27 h with ⟨hcs, _⟩ | ⟨a, len, cap, m, n, D, Pl, hcs, _, hl, hm, hmm, _, hx⟩
  · simp at hcs
    subst hcs
    exact ⟨none, [], 0, rfl, Nat.zero_le _, fun ns h => by simp at h, ⟨fun i u hu => by simp at hu⟩⟩
  · simp at hcs
    subst hcs
    simp only [if_true] at hmm
    have each : ∀ i, i < len → ∃ ns : List Nd, ns.length ≤ maxLen ∧ ∃ q c, W.cell? (a.add i) = some (.slice q ns.length c) ∧ Sq W q (flat ns) := fun i hi => by
      obtain ⟨cs, h1, h2⟩ := hx i (by omega)
      rw [cellsProf1] at h1
      obtain ⟨_, hlen, hcell⟩ := World.cells?_some h1
      obtain ⟨v, rfl⟩ : ∃ v, cs = [v] := by
        have hl1 : cs.length = 1 := by
          have := (trod_struct1 Tryz.underlying30 h2)
          obtain ⟨_, _, _, hh, _⟩ := this
          rw [cellsProf1] at hh
          exact hh
        exact List.length_eq_one_iff.1 hl1
      obtain ⟨q, ns, c, rfl, hn, hs⟩ := prof_cell h2
      exact ⟨ns, hn, q, c, by simpa [Addr.add] using hcell 0 (by decide), hs⟩
    obtain ⟨pss, hxl, hxs⟩ := exists_list len _ each
    refine ⟨some a, pss, cap, by rw [hxl], by omega, fun ns hns => ?_, ⟨fun i ns hi => ?_⟩⟩
    · obtain ⟨i, hi⟩ := List.getElem?_of_mem hns
      obtain ⟨hil, rfl⟩ := List.getElem?_eq_some_iff.1 hi
      exact (hxs i hil).1
    · obtain ⟨hil, rfl⟩ := List.getElem?_eq_some_iff.1 hi
      obtain ⟨_, q, c, hc, hs⟩ := hxs i hil
      refine ⟨a, q, c, rfl, ?_, hc, hs⟩
      have := World.block_lt_of_cell? _ _ hc
      rwa [block_add] at this

set_option maxRecDepth 100000 in
set_option maxHeartbeats 1000000 in
/-- A room that came in. -/
theorem room_opened {H : Type} {enc : TypeId × Value → H} {W : World} {r : Reach} {b0 : Nat} {v : Value} {d : DataW H} {p : List MemPlace} (hv : Value.okWide Tryz.prog W r b0 32 v)
    (h : DataW.Trod enc Tryz.prog W 0 (fun _ => true) true 32 v d p) : ∃ (A : Ra) (R : Rm), v = .agg #[.slice A.aP R.ps.length A.cP, .slice A.aN R.ns.length A.cN, .slice A.aU R.up.length A.cU, .slice A.aQ R.pss.length A.cQ, .slice A.aL R.lic.length A.cL] ∧ RWide R ∧ RAt W A R := by
  obtain ⟨cs, rfl, hsz⟩ := okWide_struct Tryz.underlying32 hv
  rw [cellsRoom5] at hsz
  obtain ⟨fuel, hf⟩ := h
  obtain ⟨xs, k, _, _, hl, hxl, hg⟩ := DataW.trod_struct Tryz.underlying32 hf
  obtain ⟨l, rfl⟩ : ∃ l : List Value, cs = l.toArray := ⟨cs.toList, rfl⟩
  have hl5 : l.length = 5 := by simpa using hsz
  match l, hl5, xs, hxl with
  | [v0, v1, v2, v3, v4], _, [x0, x1, x2, x3], _ =>
    have g0 : DataW.trod enc Tryz.prog W 0 (fun _ => true) true k 25 [v0, v1] = some x0 := by simpa [Value.cells, cellsTopo2, cellsBoolS1, cellsProfS1, cellsProf1] using hg 0 _ rfl
    have g1 : DataW.trod enc Tryz.prog W 0 (fun _ => true) true k 26 [v2] = some x1 := by simpa [Value.cells, cellsTopo2, cellsBoolS1, cellsProfS1, cellsProf1] using hg 1 _ rfl
    have g2 : DataW.trod enc Tryz.prog W 0 (fun _ => true) true k 27 [v3] = some x2 := by simpa [Value.cells, cellsTopo2, cellsBoolS1, cellsProfS1, cellsProf1] using hg 2 _ rfl
    have g3 : DataW.trod enc Tryz.prog W 0 (fun _ => true) true k 30 [v4] = some x3 := by simpa [Value.cells, cellsTopo2, cellsBoolS1, cellsProfS1, cellsProf1] using hg 3 _ rfl
    obtain ⟨y0, y1, n, _, _, t0, t1⟩ := trod_struct2 Tryz.underlying25 g0
    have t0' : DataW.trod enc Tryz.prog W 0 (fun _ => true) true n 22 [v0] = some y0 := by simpa [cellsIntS1, cellsNodeS1] using t0
    have t1' : DataW.trod enc Tryz.prog W 0 (fun _ => true) true n 23 [v1] = some y1 := by simpa [cellsIntS1, cellsNodeS1] using t1
    obtain ⟨aP, ps, cP, rfl, hp, sP⟩ := ints_opened t0'
    obtain ⟨aN, ns, cN, rfl, hn, sN⟩ := nodes_opened t1'
    obtain ⟨aU, up, cU, rfl, hu, sU⟩ := bools_opened g1
    obtain ⟨aQ, pss, cQ, rfl, hq, he, sQ⟩ := profs_opened g2
    obtain ⟨aL, lic, cL, rfl, hli, sL⟩ := prof_cell g3
    exact ⟨⟨aP, aN, aU, aQ, aL, cP, cN, cU, cQ, cL⟩, ⟨ps, ns, up, pss, lic⟩, rfl, ⟨hp, hn, hu, hq, he, hli⟩, sP, sN, sU, sQ, sL⟩
end Go.Proofs.YtmpjebkjopfejaaGreat
