/- The argument of a law that is a command, opened. -/
import Derived.Test.YtccilaffmonbdaaDoorJbP
import Derived.Test.YtccilaffmonbdaaDoorCmD
namespace Go.Proofs.YtccilaffmonbdaaDoor
open Go.ChangeShapes Go.WideShapes Go.ChangeAt Go.RowKit Go.Joins Go.Deep

theorem cellsCmd16 : Tryd.prog.cellsOf 52 = 16 := by kernel_rfl

set_option maxRecDepth 100000 in
set_option maxHeartbeats 1000000 in
theorem job_cells {H : Type} {enc : TypeId × Value → H} {W : World} {base fuel : Nat} {spare : Nat → Bool} {held : Bool} {l : List Value} {x : DataW H × List MemPlace} (hl11 : l.length = 11)
    (h : DataW.trod enc Tryd.prog W base spare held fuel 50 l = some x) : ∃ j : Jb, l = j.cells := by
  obtain ⟨xs, k, _, _, hl, hxl, hg⟩ := DataW.trod_struct Tryd.underlying50 h
  match l, hl11, xs, hxl with
  | [v0, v1, v2, v3, v4, v5, v6, v7, v8, v9, v10], _, [x0, x1, x2, x3, x4, x5, x6], _ =>
    have g0 : DataW.trod enc Tryd.prog W base spare held k 3 [v0] = some x0 := by simpa [Value.cells, cellsInt1, cellsVec3] using hg 0 _ rfl
    have g1 : DataW.trod enc Tryd.prog W base spare held k 3 [v1] = some x1 := by simpa [Value.cells, cellsInt1, cellsVec3] using hg 1 _ rfl
    have g2 : DataW.trod enc Tryd.prog W base spare held k 3 [v2] = some x2 := by simpa [Value.cells, cellsInt1, cellsVec3] using hg 2 _ rfl
    have g3 : DataW.trod enc Tryd.prog W base spare held k 48 [v3, v4, v5] = some x3 := by simpa [Value.cells, cellsInt1, cellsVec3] using hg 3 _ rfl
    have g4 : DataW.trod enc Tryd.prog W base spare held k 48 [v6, v7, v8] = some x4 := by simpa [Value.cells, cellsInt1, cellsVec3] using hg 4 _ rfl
    have g5 : DataW.trod enc Tryd.prog W base spare held k 3 [v9] = some x5 := by simpa [Value.cells, cellsInt1, cellsVec3] using hg 5 _ rfl
    have g6 : DataW.trod enc Tryd.prog W base spare held k 3 [v10] = some x6 := by simpa [Value.cells, cellsInt1, cellsVec3] using hg 6 _ rfl
    obtain ⟨i0, e0, _, _⟩ := DataW.trod_int Tryd.underlying3 g0
    obtain ⟨i1, e1, _, _⟩ := DataW.trod_int Tryd.underlying3 g1
    obtain ⟨i2, e2, _, _⟩ := DataW.trod_int Tryd.underlying3 g2
    obtain ⟨a, b, c, rfl, rfl, rfl⟩ := vec_cells g3
    obtain ⟨a', b', c', rfl, rfl, rfl⟩ := vec_cells g4
    obtain ⟨i5, e5, _, _⟩ := DataW.trod_int Tryd.underlying3 g5
    obtain ⟨i6, e6, _, _⟩ := DataW.trod_int Tryd.underlying3 g6
    simp at e0 e1 e2 e5 e6
    subst e0 e1 e2 e5 e6
    exact ⟨⟨i0, i1, i2, a, b, c, a', b', c', i5, i6⟩, rfl⟩

set_option maxRecDepth 100000 in
set_option maxHeartbeats 1000000 in
/-- A command that came in. -/
theorem cmd_opened {H : Type} {enc : TypeId × Value → H} {W : World} {r : Reach} {b0 : Nat} {v : Value} {d : DataW H} {p : List MemPlace} (hv : Value.okWide Tryd.prog W r b0 52 v)
    (h : DataW.Trod enc Tryd.prog W 0 (fun _ => true) true 52 v d p) : ∃ (s : Int) (j : Jb) (n a b c : Int), v = .agg #[.int .i64 s, .int .i64 j.id, .int .i64 j.pr, .int .i64 j.nd, .int .i64 j.na, .int .i64 j.nb, .int .i64 j.nc, .int .i64 j.la, .int .i64 j.lb, .int .i64 j.lc, .int .i64 j.wl, .int .i64 j.lv, .int .i64 n, .int .i64 a, .int .i64 b, .int .i64 c] := by
  obtain ⟨cs, rfl, hsz⟩ := okWide_struct Tryd.underlying52 hv
  rw [cellsCmd16] at hsz
  obtain ⟨fuel, hf⟩ := h
  obtain ⟨xs, k, _, _, hl, hxl, hg⟩ := DataW.trod_struct Tryd.underlying52 hf
  obtain ⟨l, rfl⟩ : ∃ l : List Value, cs = l.toArray := ⟨cs.toList, rfl⟩
  have hl16 : l.length = 16 := by simpa using hsz
  match l, hl16, xs, hxl with
  | [v0, v1, v2, v3, v4, v5, v6, v7, v8, v9, v10, v11, v12, v13, v14, v15], _, [x0, x1, x2, x3], _ =>
    have g0 : DataW.trod enc Tryd.prog W 0 (fun _ => true) true k 3 [v0] = some x0 := by simpa [Value.cells, cellsInt1, cellsVec3, cellsJob11] using hg 0 _ rfl
    have g1 : DataW.trod enc Tryd.prog W 0 (fun _ => true) true k 50 [v1, v2, v3, v4, v5, v6, v7, v8, v9, v10, v11] = some x1 := by simpa [Value.cells, cellsInt1, cellsVec3, cellsJob11] using hg 1 _ rfl
    have g2 : DataW.trod enc Tryd.prog W 0 (fun _ => true) true k 3 [v12] = some x2 := by simpa [Value.cells, cellsInt1, cellsVec3, cellsJob11] using hg 2 _ rfl
    have g3 : DataW.trod enc Tryd.prog W 0 (fun _ => true) true k 48 [v13, v14, v15] = some x3 := by simpa [Value.cells, cellsInt1, cellsVec3, cellsJob11] using hg 3 _ rfl
    obtain ⟨s, e0, _, _⟩ := DataW.trod_int Tryd.underlying3 g0
    obtain ⟨j, ej⟩ := job_cells rfl g1
    obtain ⟨n, e2, _, _⟩ := DataW.trod_int Tryd.underlying3 g2
    obtain ⟨a, b, c, rfl, rfl, rfl⟩ := vec_cells g3
    simp at e0 e2
    simp only [Jb.cells, List.cons.injEq, and_true] at ej
    obtain ⟨rfl, rfl, rfl, rfl, rfl, rfl, rfl, rfl, rfl, rfl, rfl⟩ := ej
    subst e0 e2
    exact ⟨s, j, n, a, b, c, rfl⟩
end Go.Proofs.YtccilaffmonbdaaDoor
