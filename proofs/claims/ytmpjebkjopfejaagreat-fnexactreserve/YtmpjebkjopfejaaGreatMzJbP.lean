/- The argument of a law that is a job, opened. -/
import Derived.Test.YtmpjebkjopfejaaGreatMzJbA
import Derived.Test.YtmpjebkjopfejaaGreatMzTopP
import Derived.OpenShut
import Derived.Carry
namespace Go.Proofs.YtmpjebkjopfejaaGreat
open Go.ChangeShapes Go.WideShapes Go.ChangeAt Go.RowKit Go.Joins Go.Deep

theorem cellsJob11 : Tryz.prog.cellsOf 36 = 11 := by kernel_rfl

set_option maxRecDepth 100000 in
theorem vec_cells {H : Type} {enc : TypeId × Value → H} {W : World} {base fuel : Nat} {spare : Nat → Bool} {held : Bool} {v1 v2 v3 : Value} {x : DataW H × List MemPlace}
    (h : DataW.trod enc Tryz.prog W base spare held fuel 34 [v1, v2, v3] = some x) : ∃ a b c, v1 = .int .i64 a ∧ v2 = .int .i64 b ∧ v3 = .int .i64 c := by
  obtain ⟨xs, k2, _, _, hl2, hxl, hf⟩ := DataW.trod_struct Tryz.underlying34 h
  match xs, hxl with
  | [x0, x1, x2], _ =>
    have g0 : DataW.trod enc Tryz.prog W base spare held k2 3 [v1] = some x0 := by simpa [cellsInt1] using hf 0 _ rfl
    have g1 : DataW.trod enc Tryz.prog W base spare held k2 3 [v2] = some x1 := by simpa [cellsInt1] using hf 1 _ rfl
    have g2 : DataW.trod enc Tryz.prog W base spare held k2 3 [v3] = some x2 := by simpa [cellsInt1] using hf 2 _ rfl
    obtain ⟨a, ea, _, _⟩ := DataW.trod_int Tryz.underlying3 g0
    obtain ⟨b, eb, _, _⟩ := DataW.trod_int Tryz.underlying3 g1
    obtain ⟨c, ec, _, _⟩ := DataW.trod_int Tryz.underlying3 g2
    simp at ea eb ec
    exact ⟨a, b, c, ea, eb, ec⟩

set_option maxRecDepth 100000 in
set_option maxHeartbeats 1000000 in
/-- A job that came in. -/
theorem job_opened {H : Type} {enc : TypeId × Value → H} {W : World} {r : Reach} {b0 : Nat} {v : Value} {d : DataW H} {p : List MemPlace} (hv : Value.okWide Tryz.prog W r b0 36 v)
    (h : DataW.Trod enc Tryz.prog W 0 (fun _ => true) true 36 v d p) : ∃ j : Jb, v = .agg #[.int .i64 j.id, .int .i64 j.pr, .int .i64 j.nd, .int .i64 j.na, .int .i64 j.nb, .int .i64 j.nc, .int .i64 j.la, .int .i64 j.lb, .int .i64 j.lc, .int .i64 j.wl, .int .i64 j.lv] := by
  obtain ⟨cs, rfl, hsz⟩ := okWide_struct Tryz.underlying36 hv
  rw [cellsJob11] at hsz
  obtain ⟨fuel, hf⟩ := h
  obtain ⟨xs, k, _, _, hl, hxl, hg⟩ := DataW.trod_struct Tryz.underlying36 hf
  obtain ⟨l, rfl⟩ : ∃ l : List Value, cs = l.toArray := ⟨cs.toList, rfl⟩
  have hl11 : l.length = 11 := by simpa using hsz
  match l, hl11, xs, hxl with
  | [v0, v1, v2, v3, v4, v5, v6, v7, v8, v9, v10], _, [x0, x1, x2, x3, x4, x5, x6], _ =>
    have g0 : DataW.trod enc Tryz.prog W 0 (fun _ => true) true k 3 [v0] = some x0 := by simpa [Value.cells, cellsInt1, cellsVec3] using hg 0 _ rfl
    have g1 : DataW.trod enc Tryz.prog W 0 (fun _ => true) true k 3 [v1] = some x1 := by simpa [Value.cells, cellsInt1, cellsVec3] using hg 1 _ rfl
    have g2 : DataW.trod enc Tryz.prog W 0 (fun _ => true) true k 3 [v2] = some x2 := by simpa [Value.cells, cellsInt1, cellsVec3] using hg 2 _ rfl
    have g3 : DataW.trod enc Tryz.prog W 0 (fun _ => true) true k 34 [v3, v4, v5] = some x3 := by simpa [Value.cells, cellsInt1, cellsVec3] using hg 3 _ rfl
    have g4 : DataW.trod enc Tryz.prog W 0 (fun _ => true) true k 34 [v6, v7, v8] = some x4 := by simpa [Value.cells, cellsInt1, cellsVec3] using hg 4 _ rfl
    have g5 : DataW.trod enc Tryz.prog W 0 (fun _ => true) true k 3 [v9] = some x5 := by simpa [Value.cells, cellsInt1, cellsVec3] using hg 5 _ rfl
    have g6 : DataW.trod enc Tryz.prog W 0 (fun _ => true) true k 3 [v10] = some x6 := by simpa [Value.cells, cellsInt1, cellsVec3] using hg 6 _ rfl
    obtain ⟨i0, e0, _, _⟩ := DataW.trod_int Tryz.underlying3 g0
    obtain ⟨i1, e1, _, _⟩ := DataW.trod_int Tryz.underlying3 g1
    obtain ⟨i2, e2, _, _⟩ := DataW.trod_int Tryz.underlying3 g2
    obtain ⟨a, b, c, rfl, rfl, rfl⟩ := vec_cells g3
    obtain ⟨a', b', c', rfl, rfl, rfl⟩ := vec_cells g4
    obtain ⟨i5, e5, _, _⟩ := DataW.trod_int Tryz.underlying3 g5
    obtain ⟨i6, e6, _, _⟩ := DataW.trod_int Tryz.underlying3 g6
    simp at e0 e1 e2 e5 e6
    subst e0 e1 e2 e5 e6
    exact ⟨⟨i0, i1, i2, a, b, c, a', b', c', i5, i6⟩, rfl⟩
end Go.Proofs.YtmpjebkjopfejaaGreat
