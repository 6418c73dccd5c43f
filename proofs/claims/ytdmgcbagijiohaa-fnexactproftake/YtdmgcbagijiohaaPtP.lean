/- The argument of a law that is a profile, opened. -/
import Derived.Test.YtdmgcbagijiohaaPtA
import Derived.Test.YtdmgcbagijiohaaTopP
import Derived.OpenShut
import Derived.Carry
namespace Go.Proofs.Ytdmgcbagijiohaa
open Go.ChangeShapes Go.WideShapes Go.ChangeAt Go.RowKit Go.Joins Go.Deep

theorem cellsPt4 : Try.prog.cellsOf 112 = 4 := by kernel_rfl
theorem cellsProf1 : Try.prog.cellsOf 41 = 1 := by kernel_rfl
theorem cellsPtS1 : Try.prog.cellsOf 39 = 1 := by kernel_rfl

set_option maxRecDepth 100000 in
theorem pt_opened {H : Type} {enc : TypeId × Value → H} {W : World} {base fuel : Nat} {spare : Nat → Bool} {held : Bool} {cs : List Value} {x : DataW H × List MemPlace}
    (h : DataW.trod enc Try.prog W base spare held fuel 112 cs = some x) : ∃ n : Nd, cs = n.cells := by
  obtain ⟨y0, y1, k, _, hl, h0, h1⟩ := trod_struct2 Try.underlying112 h
  rw [cellsPt4] at hl
  match cs, hl with
  | [v0, v1, v2, v3], _ =>
    simp only [cellsInt1, cellsVec3] at h0 h1
    obtain ⟨l, e0, _, _⟩ := DataW.trod_int Try.underlying3 h0
    obtain ⟨xs, k2, _, _, hl2, hxl, hf⟩ := DataW.trod_struct Try.underlying42 h1
    match xs, hxl with
    | [x0, x1, x2], _ =>
      have g0 : DataW.trod enc Try.prog W base spare held k2 3 [v1] = some x0 := by simpa [cellsInt1] using hf 0 _ rfl
      have g1 : DataW.trod enc Try.prog W base spare held k2 3 [v2] = some x1 := by simpa [cellsInt1] using hf 1 _ rfl
      have g2 : DataW.trod enc Try.prog W base spare held k2 3 [v3] = some x2 := by simpa [cellsInt1] using hf 2 _ rfl
      obtain ⟨a, ea, _, _⟩ := DataW.trod_int Try.underlying3 g0
      obtain ⟨b, eb, _, _⟩ := DataW.trod_int Try.underlying3 g1
      obtain ⟨c, ec, _, _⟩ := DataW.trod_int Try.underlying3 g2
      simp at e0 ea eb ec
      subst e0 ea eb ec
      exact ⟨⟨l, a, b, c⟩, rfl⟩

set_option maxRecDepth 100000 in
/-- Points that came in. -/
theorem pts_opened {H : Type} {enc : TypeId × Value → H} {W : World} {fuel : Nat} {held : Bool} {v : Value} {x : DataW H × List MemPlace}
    (h : DataW.trod enc Try.prog W 0 (fun _ => true) held fuel 39 [v] = some x) : ∃ a xs cap, v = .slice a xs.length cap ∧ xs.length ≤ maxLen ∧ Sq W a (flat xs) := by
  rcases open_slice Try.underlying39 h with ⟨hcs, _⟩ | ⟨a, len, cap, m, n, D, Pl, hcs, _, hl, hm, hmm, _, hx⟩
  · simp at hcs
    subst hcs
    exact ⟨none, [], 0, rfl, Nat.zero_le _, ⟨fun i u hu => by simp [flat] at hu⟩⟩
  · simp at hcs
    subst hcs
    simp only [if_true] at hmm
    have each : ∀ i, i < len → ∃ nd : Nd, ∀ k, k < 4 → W.cell? ((a.add (i * 4)).add k) = nd.cells[k]? := fun i hi => by
      obtain ⟨cs, h1, h2⟩ := hx i (by omega)
      rw [cellsPt4] at h1
      obtain ⟨nd, rfl⟩ := pt_opened h2
      obtain ⟨_, _, hcell⟩ := World.cells?_some h1
      exact ⟨nd, fun k hk => by simpa using hcell k hk⟩
    obtain ⟨xs, hxl, hxs⟩ := exists_list len _ each
    refine ⟨some a, xs, cap, by rw [hxl], by omega, ⟨fun q u hu => ?_⟩⟩
    have hq : q < 4 * len := by
      have := (List.getElem?_eq_some_iff.1 hu).1
      rw [flat_len, hxl] at this
      exact this
    have hg := flat_get xs (q / 4) (q % 4) (by omega) (by omega)
    have hc := hxs (q / 4) (by omega) (q % 4) (by omega)
    rw [show q / 4 * 4 + q % 4 = q by omega, hu] at hg
    rw [add_add, show q / 4 * 4 + q % 4 = q by omega, ← hg] at hc
    refine ⟨a, rfl, ?_, hc⟩
    have := World.block_lt_of_cell? _ _ hc
    rwa [block_add] at this

set_option maxRecDepth 100000 in
/-- A profile that came in. -/
theorem prof_opened {H : Type} {enc : TypeId × Value → H} {W : World} {r : Reach} {b0 : Nat} {v : Value} {d : DataW H} {p : List MemPlace} (hv : Value.okWide Try.prog W r b0 41 v)
    (h : DataW.Trod enc Try.prog W 0 (fun _ => true) true 41 v d p) :
    ∃ b e ns, v = .agg #[.slice b (ns : List Nd).length e] ∧ ns.length ≤ maxLen ∧ Sq W b (flat ns) := by
  obtain ⟨cs, rfl, hsz⟩ := okWide_struct Try.underlying41 hv
  rw [cellsProf1] at hsz
  obtain ⟨v0, rfl⟩ : ∃ v0, cs = #[v0] := by
    have hl : cs.toList.length = 1 := hsz
    obtain ⟨v0, hv0⟩ := List.length_eq_one_iff.1 hl
    exact ⟨v0, Array.ext' hv0⟩
  obtain ⟨fuel, hf⟩ := h
  obtain ⟨y0, n, _, _, h0⟩ := trod_struct1 Try.underlying41 hf
  have h0' : DataW.trod enc Try.prog W 0 (fun _ => true) true n 39 [v0] = some y0 := by simpa [Value.cells, cellsPtS1] using h0
  obtain ⟨b, ns, e, rfl, hn, hs'⟩ := pts_opened h0'
  exact ⟨b, e, ns, rfl, hn, hs'⟩

set_option maxRecDepth 100000 in
/-- A vector that came in. -/
theorem vec_opened {H : Type} {enc : TypeId × Value → H} {W : World} {r : Reach} {b0 : Nat} {v : Value} {d : DataW H} {p : List MemPlace} (hv : Value.okWide Try.prog W r b0 42 v)
    (h : DataW.Trod enc Try.prog W 0 (fun _ => true) true 42 v d p) : ∃ a b c, v = .agg #[.int .i64 a, .int .i64 b, .int .i64 c] := by
  obtain ⟨x0, x1, x2, y0, y1, y2, m, rfl, _, _, hy0, hy1, hy2⟩ := open_agg3 Try.underlying42 (by kernel_rfl) cellsVec3 hv h
  obtain ⟨a, e0, _, _⟩ := DataW.trod_int Try.underlying3 hy0
  obtain ⟨b, e1, _, _⟩ := DataW.trod_int Try.underlying3 hy1
  obtain ⟨c, e2, _, _⟩ := DataW.trod_int Try.underlying3 hy2
  simp at e0 e1 e2
  subst e0 e1 e2
  exact ⟨a, b, c, rfl⟩

theorem own : ownKnob Try.prog.godebug = none := by kernel_rfl
theorem laidOutAll : laidOutB Try.prog = true := by kernel_rfl
end Go.Proofs.Ytdmgcbagijiohaa
