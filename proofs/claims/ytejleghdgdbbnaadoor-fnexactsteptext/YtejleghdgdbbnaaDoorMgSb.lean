/- The argument of a law that is a step, opened. -/
import Derived.Test.YtejleghdgdbbnaaDoorTopD
import Derived.ProofKit
import Derived.Lib.SmallJoins
import Derived.Deep.Slices
import Derived.Test.YtejleghdgdbbnaaDoorJbA
import Derived.OpenShut
import Derived.Carry
import Derived.Test.YtejleghdgdbbnaaDoorCmD
import Derived.Test.YtejleghdgdbbnaaDoorMgSa
namespace Go.Proofs.YtejleghdgdbbnaaDoor
open Go.ChangeShapes Go.WideShapes Go.ChangeAt Go.RowKit Go.Joins Go.Deep

theorem cellsInt1 : Tryd.prog.cellsOf 3 = 1 := by kernel_rfl
theorem cellsVec3 : Tryd.prog.cellsOf 48 = 3 := by kernel_rfl
theorem exists_list {α : Type} (n : Nat) (P : Nat → α → Prop) (h : ∀ i, i < n → ∃ x, P i x) : ∃ xs : List α, xs.length = n ∧ ∀ i (hi : i < xs.length), P i xs[i] := by
  induction n with
  | zero => exact ⟨[], rfl, fun i hi => by simp at hi⟩
  | succ n ih =>
    obtain ⟨xs, hl, hx⟩ := ih (fun i hi => h i (by omega))
    obtain ⟨y, hy⟩ := h n (by omega)
    refine ⟨xs ++ [y], by simp [hl], fun i hi => ?_⟩
    by_cases e : i < xs.length
    · rw [List.getElem_append_left e]; exact hx i e
    · have e2 : i = xs.length := by simp at hi; omega
      subst e2
      rw [List.getElem_append_right (Nat.le_refl _)]
      simpa [hl] using hy

theorem add_add (p : Addr) (m k : Nat) : (p.add m).add k = p.add (m + k) := by
  unfold Addr.add
  by_cases hk : k = 0
  · subst hk; simp
  · by_cases hm : m = 0
    · subst hm; simp [hk]
    · simp [hk, hm, Nat.add_assoc]

end Go.Proofs.YtejleghdgdbbnaaDoor

namespace Go.Proofs.YtejleghdgdbbnaaDoor
open Go.ChangeShapes Go.WideShapes Go.ChangeAt Go.RowKit Go.Joins Go.Deep

theorem cellsJob11 : Tryd.prog.cellsOf 50 = 11 := by kernel_rfl

set_option maxRecDepth 100000 in
theorem vec_cells {H : Type} {enc : TypeId × Value → H} {W : World} {base fuel : Nat} {spare : Nat → Bool} {held : Bool} {v1 v2 v3 : Value} {x : DataW H × List MemPlace}
    (h : DataW.trod enc Tryd.prog W base spare held fuel 48 [v1, v2, v3] = some x) : ∃ a b c, v1 = .int .i64 a ∧ v2 = .int .i64 b ∧ v3 = .int .i64 c := by
  obtain ⟨xs, k2, _, _, hl2, hxl, hf⟩ := DataW.trod_struct Tryd.underlying48 h
  match xs, hxl with
  | [x0, x1, x2], _ =>
    have g0 : DataW.trod enc Tryd.prog W base spare held k2 3 [v1] = some x0 := by simpa [cellsInt1] using hf 0 _ rfl
    have g1 : DataW.trod enc Tryd.prog W base spare held k2 3 [v2] = some x1 := by simpa [cellsInt1] using hf 1 _ rfl
    have g2 : DataW.trod enc Tryd.prog W base spare held k2 3 [v3] = some x2 := by simpa [cellsInt1] using hf 2 _ rfl
    obtain ⟨a, ea, _, _⟩ := DataW.trod_int Tryd.underlying3 g0
    obtain ⟨b, eb, _, _⟩ := DataW.trod_int Tryd.underlying3 g1
    obtain ⟨c, ec, _, _⟩ := DataW.trod_int Tryd.underlying3 g2
    simp at ea eb ec
    exact ⟨a, b, c, ea, eb, ec⟩

set_option maxRecDepth 100000 in
set_option maxHeartbeats 1000000 in
/-- A job that came in. -/
theorem job_opened {H : Type} {enc : TypeId × Value → H} {W : World} {r : Reach} {b0 : Nat} {v : Value} {d : DataW H} {p : List MemPlace} (hv : Value.okWide Tryd.prog W r b0 50 v)
    (h : DataW.Trod enc Tryd.prog W 0 (fun _ => true) true 50 v d p) : ∃ j : Jb, v = .agg #[.int .i64 j.id, .int .i64 j.pr, .int .i64 j.nd, .int .i64 j.na, .int .i64 j.nb, .int .i64 j.nc, .int .i64 j.la, .int .i64 j.lb, .int .i64 j.lc, .int .i64 j.wl, .int .i64 j.lv] := by
  obtain ⟨cs, rfl, hsz⟩ := okWide_struct Tryd.underlying50 hv
  rw [cellsJob11] at hsz
  obtain ⟨fuel, hf⟩ := h
  obtain ⟨xs, k, _, _, hl, hxl, hg⟩ := DataW.trod_struct Tryd.underlying50 hf
  obtain ⟨l, rfl⟩ : ∃ l : List Value, cs = l.toArray := ⟨cs.toList, rfl⟩
  have hl11 : l.length = 11 := by simpa using hsz
  match l, hl11, xs, hxl with
  | [v0, v1, v2, v3, v4, v5, v6, v7, v8, v9, v10], _, [x0, x1, x2, x3, x4, x5, x6], _ =>
    have g0 : DataW.trod enc Tryd.prog W 0 (fun _ => true) true k 3 [v0] = some x0 := by simpa [Value.cells, cellsInt1, cellsVec3] using hg 0 _ rfl
    have g1 : DataW.trod enc Tryd.prog W 0 (fun _ => true) true k 3 [v1] = some x1 := by simpa [Value.cells, cellsInt1, cellsVec3] using hg 1 _ rfl
    have g2 : DataW.trod enc Tryd.prog W 0 (fun _ => true) true k 3 [v2] = some x2 := by simpa [Value.cells, cellsInt1, cellsVec3] using hg 2 _ rfl
    have g3 : DataW.trod enc Tryd.prog W 0 (fun _ => true) true k 48 [v3, v4, v5] = some x3 := by simpa [Value.cells, cellsInt1, cellsVec3] using hg 3 _ rfl
    have g4 : DataW.trod enc Tryd.prog W 0 (fun _ => true) true k 48 [v6, v7, v8] = some x4 := by simpa [Value.cells, cellsInt1, cellsVec3] using hg 4 _ rfl
    have g5 : DataW.trod enc Tryd.prog W 0 (fun _ => true) true k 3 [v9] = some x5 := by simpa [Value.cells, cellsInt1, cellsVec3] using hg 5 _ rfl
    have g6 : DataW.trod enc Tryd.prog W 0 (fun _ => true) true k 3 [v10] = some x6 := by simpa [Value.cells, cellsInt1, cellsVec3] using hg 6 _ rfl
    obtain ⟨i0, e0, _, _⟩ := DataW.trod_int Tryd.underlying3 g0
    obtain ⟨i1, e1, _, _⟩ := DataW.trod_int Tryd.underlying3 g1
    obtain ⟨i2, e2, _, _⟩ := DataW.trod_int Tryd.underlying3 g2
    obtain ⟨a, b, c, rfl, rfl, rfl⟩ := vec_cells g3
    obtain ⟨a', b', c', rfl, rfl, rfl⟩ := vec_cells g4
    obtain ⟨i5, e5, _, _⟩ := DataW.trod_int Tryd.underlying3 g5
    obtain ⟨i6, e6, _, _⟩ := DataW.trod_int Tryd.underlying3 g6
    simp at e0 e1 e2 e5 e6
    subst e0 e1 e2 e5 e6
    exact ⟨⟨i0, i1, i2, a, b, c, a', b', c', i5, i6⟩, rfl⟩
end Go.Proofs.YtejleghdgdbbnaaDoor

namespace Go.Proofs.YtejleghdgdbbnaaDoor
open Go.ChangeShapes Go.WideShapes Go.ChangeAt Go.RowKit Go.Joins Go.Deep

theorem cellsCmd16 : Tryd.prog.cellsOf 52 = 16 := by kernel_rfl

set_option maxRecDepth 100000 in
set_option maxHeartbeats 1000000 in
theorem job_cells {H : Type} {enc : TypeId × Value → H} {W : World} {base fuel : Nat} {spare : Nat → Bool} {held : Bool} {l : List Value} {x : DataW H × List MemPlace} (hl11 : l.length = 11)
    (h : DataW.trod enc Tryd.prog W base spare held fuel 50 l = some x) : ∃ j : Jb, l = j.cells := by
  obtain ⟨xs, k, _, _, hl, hxl, hg⟩ := DataW.trod_struct Tryd.underlying50 h
  match l, hl11, xs, hxl with
  | [v0, v1, v2, v3, v4, v5, v6, v7, v8, v9, v10], _, [x0, x1, x2, x3, x4, x5, x6], _ =>
    have g0 : DataW.trod enc Tryd.prog W base spare held k 3 [v0] = some x0 := by simpa [Value.cells, cellsInt1, cellsVec3] using hg 0 _ rfl
    have g1 : DataW.trod enc Tryd.prog W base spare held k 3 [v1] = some x1 := by simpa [Value.cells, cellsInt1, cellsVec3] using hg 1 _ rfl
    have g2 : DataW.trod enc Tryd.prog W base spare held k 3 [v2] = some x2 := by simpa [Value.cells, cellsInt1, cellsVec3] using hg 2 _ rfl
    have g3 : DataW.trod enc Tryd.prog W base spare held k 48 [v3, v4, v5] = some x3 := by simpa [Value.cells, cellsInt1, cellsVec3] using hg 3 _ rfl
    have g4 : DataW.trod enc Tryd.prog W base spare held k 48 [v6, v7, v8] = some x4 := by simpa [Value.cells, cellsInt1, cellsVec3] using hg 4 _ rfl
    have g5 : DataW.trod enc Tryd.prog W base spare held k 3 [v9] = some x5 := by simpa [Value.cells, cellsInt1, cellsVec3] using hg 5 _ rfl
    have g6 : DataW.trod enc Tryd.prog W base spare held k 3 [v10] = some x6 := by simpa [Value.cells, cellsInt1, cellsVec3] using hg 6 _ rfl
    obtain ⟨i0, e0, _, _⟩ := DataW.trod_int Tryd.underlying3 g0
    obtain ⟨i1, e1, _, _⟩ := DataW.trod_int Tryd.underlying3 g1
    obtain ⟨i2, e2, _, _⟩ := DataW.trod_int Tryd.underlying3 g2
    obtain ⟨a, b, c, rfl, rfl, rfl⟩ := vec_cells g3
    obtain ⟨a', b', c', rfl, rfl, rfl⟩ := vec_cells g4
    obtain ⟨i5, e5, _, _⟩ := DataW.trod_int Tryd.underlying3 g5
    obtain ⟨i6, e6, _, _⟩ := DataW.trod_int Tryd.underlying3 g6
    simp at e0 e1 e2 e5 e6
    subst e0 e1 e2 e5 e6
    exact ⟨⟨i0, i1, i2, a, b, c, a', b', c', i5, i6⟩, rfl⟩

set_option maxRecDepth 100000 in
set_option maxHeartbeats 1000000 in
/-- A command that came in. -/
theorem cmd_opened {H : Type} {enc : TypeId × Value → H} {W : World} {r : Reach} {b0 : Nat} {v : Value} {d : DataW H} {p : List MemPlace} (hv : Value.okWide Tryd.prog W r b0 52 v)
    (h : DataW.Trod enc Tryd.prog W 0 (fun _ => true) true 52 v d p) : ∃ (s : Int) (j : Jb) (n a b c : Int), v = .agg #[.int .i64 s, .int .i64 j.id, .int .i64 j.pr, .int .i64 j.nd, .int .i64 j.na, .int .i64 j.nb, .int .i64 j.nc, .int .i64 j.la, .int .i64 j.lb, .int .i64 j.lc, .int .i64 j.wl, .int .i64 j.lv, .int .i64 n, .int .i64 a, .int .i64 b, .int .i64 c] := by
  obtain ⟨cs, rfl, hsz⟩ := okWide_struct Tryd.underlying52 hv
  rw [cellsCmd16] at hsz
  obtain ⟨fuel, hf⟩ := h
  obtain ⟨xs, k, _, _, hl, hxl, hg⟩ := DataW.trod_struct Tryd.underlying52 hf
  obtain ⟨l, rfl⟩ : ∃ l : List Value, cs = l.toArray := ⟨cs.toList, rfl⟩
  have hl16 : l.length = 16 := by simpa using hsz
  match l, hl16, xs, hxl with
  | [v0, v1, v2, v3, v4, v5, v6, v7, v8, v9, v10, v11, v12, v13, v14, v15], _, [x0, x1, x2, x3], _ =>
    have g0 : DataW.trod enc Tryd.prog W 0 (fun _ => true) true k 3 [v0] = some x0 := by simpa [Value.cells, cellsInt1, cellsVec3, cellsJob11] using hg 0 _ rfl
    have g1 : DataW.trod enc Tryd.prog W 0 (fun _ => true) true k 50 [v1, v2, v3, v4, v5, v6, v7, v8, v9, v10, v11] = some x1 := by simpa [Value.cells, cellsInt1, cellsVec3, cellsJob11] using hg 1 _ rfl
    have g2 : DataW.trod enc Tryd.prog W 0 (fun _ => true) true k 3 [v12] = some x2 := by simpa [Value.cells, cellsInt1, cellsVec3, cellsJob11] using hg 2 _ rfl
    have g3 : DataW.trod enc Tryd.prog W 0 (fun _ => true) true k 48 [v13, v14, v15] = some x3 := by simpa [Value.cells, cellsInt1, cellsVec3, cellsJob11] using hg 3 _ rfl
    obtain ⟨s, e0, _, _⟩ := DataW.trod_int Tryd.underlying3 g0
    obtain ⟨j, ej⟩ := job_cells rfl g1
    obtain ⟨n, e2, _, _⟩ := DataW.trod_int Tryd.underlying3 g2
    obtain ⟨a, b, c, rfl, rfl, rfl⟩ := vec_cells g3
    simp at e0 e2
    simp only [Jb.cells, List.cons.injEq, and_true] at ej
    obtain ⟨rfl, rfl, rfl, rfl, rfl, rfl, rfl, rfl, rfl, rfl, rfl⟩ := ej
    subst e0 e2
    exact ⟨s, j, n, a, b, c, rfl⟩
end Go.Proofs.YtejleghdgdbbnaaDoor

namespace Go.Proofs.YtejleghdgdbbnaaDoor
open Go.ChangeShapes Go.WideShapes Go.ChangeAt Go.RowKit

theorem szLCm : (Tryd.prog.info? 52).map (·.size) = some 16 := by kernel_rfl
set_option maxHeartbeats 2000000 in
set_option maxRecDepth 100000 in
theorem toStep_c (k : Int) (x : Cm) (kp : Int) (w : World) : Calls Tryd.prog 20 #[.agg #[.int .i64 k, .int .i64 x.s, .int .i64 x.j.id, .int .i64 x.j.pr, .int .i64 x.j.nd, .int .i64 x.j.na, .int .i64 x.j.nb, .int .i64 x.j.nc, .int .i64 x.j.la, .int .i64 x.j.lb, .int .i64 x.j.lc, .int .i64 x.j.wl, .int .i64 x.j.lv, .int .i64 x.n, .int .i64 x.a, .int .i64 x.b, .int .i64 x.c, .int .i64 kp]] w fun e w' => e = .returned (.agg #[.int .i64 k, .int .i64 x.s, .int .i64 x.j.id, .int .i64 x.j.pr, .int .i64 x.j.nd, .int .i64 x.j.na, .int .i64 x.j.nb, .int .i64 x.j.nc, .int .i64 x.j.la, .int .i64 x.j.lb, .int .i64 x.j.lc, .int .i64 x.j.wl, .int .i64 x.j.lv, .int .i64 x.n, .int .i64 x.a, .int .i64 x.b, .int .i64 x.c, .int .i64 kp]) ∧ Below w.heap.size w w' := by
  go_enter Tryd.func20, Tryd.ntmps20
  go_wp2_with (refine stay_load 52 ?_)
  refine ⟨?_⟩
  generalize hV : ((w.alloc (.cells #[.int .i64 k, .int .i64 x.s, .int .i64 x.j.id, .int .i64 x.j.pr, .int .i64 x.j.nd, .int .i64 x.j.na, .int .i64 x.j.nb, .int .i64 x.j.nc, .int .i64 x.j.la, .int .i64 x.j.lb, .int .i64 x.j.lc, .int .i64 x.j.wl, .int .i64 x.j.lv, .int .i64 x.n, .int .i64 x.a, .int .i64 x.b, .int .i64 x.c, .int .i64 kp] 54)).alloc (.cells #[.int .i64 0, .int .i64 0, .int .i64 0, .int .i64 0, .int .i64 0, .int .i64 0, .int .i64 0, .int .i64 0, .int .i64 0, .int .i64 0, .int .i64 0, .int .i64 0, .int .i64 0, .int .i64 0, .int .i64 0, .int .i64 0, .int .i64 0, .int .i64 0] 57)).alloc (.cells #[.int .i64 k, .int .i64 0, .int .i64 0, .int .i64 0, .int .i64 0, .int .i64 0, .int .i64 0, .int .i64 0, .int .i64 0, .int .i64 0, .int .i64 0, .int .i64 0, .int .i64 0, .int .i64 0, .int .i64 0, .int .i64 0, .int .i64 0, .int .i64 0] 57) = V
  have s1 : (w.alloc (.cells #[.int .i64 k, .int .i64 x.s, .int .i64 x.j.id, .int .i64 x.j.pr, .int .i64 x.j.nd, .int .i64 x.j.na, .int .i64 x.j.nb, .int .i64 x.j.nc, .int .i64 x.j.la, .int .i64 x.j.lb, .int .i64 x.j.lc, .int .i64 x.j.wl, .int .i64 x.j.lv, .int .i64 x.n, .int .i64 x.a, .int .i64 x.b, .int .i64 x.c, .int .i64 kp] 54)).heap.size = w.heap.size + 1 := by simp [go_sem]
  have s2 : ((w.alloc (.cells #[.int .i64 k, .int .i64 x.s, .int .i64 x.j.id, .int .i64 x.j.pr, .int .i64 x.j.nd, .int .i64 x.j.na, .int .i64 x.j.nb, .int .i64 x.j.nc, .int .i64 x.j.la, .int .i64 x.j.lb, .int .i64 x.j.lc, .int .i64 x.j.wl, .int .i64 x.j.lv, .int .i64 x.n, .int .i64 x.a, .int .i64 x.b, .int .i64 x.c, .int .i64 kp] 54)).alloc (.cells #[.int .i64 0, .int .i64 0, .int .i64 0, .int .i64 0, .int .i64 0, .int .i64 0, .int .i64 0, .int .i64 0, .int .i64 0, .int .i64 0, .int .i64 0, .int .i64 0, .int .i64 0, .int .i64 0, .int .i64 0, .int .i64 0, .int .i64 0, .int .i64 0] 57)).heap.size = w.heap.size + 1 + 1 := by simp [go_sem]
  have HA : Hid (Row V w.heap.size [.int .i64 k, .int .i64 x.s, .int .i64 x.j.id, .int .i64 x.j.pr, .int .i64 x.j.nd, .int .i64 x.j.na, .int .i64 x.j.nb, .int .i64 x.j.nc, .int .i64 x.j.la, .int .i64 x.j.lb, .int .i64 x.j.lc, .int .i64 x.j.wl, .int .i64 x.j.lv, .int .i64 x.n, .int .i64 x.a, .int .i64 x.b, .int .i64 x.c, .int .i64 kp]) := by subst hV; exact ((row_fresh w [.int .i64 k, .int .i64 x.s, .int .i64 x.j.id, .int .i64 x.j.pr, .int .i64 x.j.nd, .int .i64 x.j.na, .int .i64 x.j.nb, .int .i64 x.j.nc, .int .i64 x.j.la, .int .i64 x.j.lb, .int .i64 x.j.lc, .int .i64 x.j.wl, .int .i64 x.j.lv, .int .i64 x.n, .int .i64 x.a, .int .i64 x.b, .int .i64 x.c, .int .i64 kp] 54).below (low_alloc _ _)).below (low_alloc _ _)
  have HO : Hid (Row V (w.heap.size + 1 + 1) [.int .i64 k, .int .i64 0, .int .i64 0, .int .i64 0, .int .i64 0, .int .i64 0, .int .i64 0, .int .i64 0, .int .i64 0, .int .i64 0, .int .i64 0, .int .i64 0, .int .i64 0, .int .i64 0, .int .i64 0, .int .i64 0, .int .i64 0, .int .i64 0]) := by subst hV; have h := row_fresh ((w.alloc (.cells #[.int .i64 k, .int .i64 x.s, .int .i64 x.j.id, .int .i64 x.j.pr, .int .i64 x.j.nd, .int .i64 x.j.na, .int .i64 x.j.nb, .int .i64 x.j.nc, .int .i64 x.j.la, .int .i64 x.j.lb, .int .i64 x.j.lc, .int .i64 x.j.wl, .int .i64 x.j.lv, .int .i64 x.n, .int .i64 x.a, .int .i64 x.b, .int .i64 x.c, .int .i64 kp] 54)).alloc (.cells #[.int .i64 0, .int .i64 0, .int .i64 0, .int .i64 0, .int .i64 0, .int .i64 0, .int .i64 0, .int .i64 0, .int .i64 0, .int .i64 0, .int .i64 0, .int .i64 0, .int .i64 0, .int .i64 0, .int .i64 0, .int .i64 0, .int .i64 0, .int .i64 0] 57)) [.int .i64 k, .int .i64 0, .int .i64 0, .int .i64 0, .int .i64 0, .int .i64 0, .int .i64 0, .int .i64 0, .int .i64 0, .int .i64 0, .int .i64 0, .int .i64 0, .int .i64 0, .int .i64 0, .int .i64 0, .int .i64 0, .int .i64 0, .int .i64 0] 57; rw [s2] at h; exact h
  have HZ : Hid (Row V (w.heap.size + 1) [.int .i64 0, .int .i64 0, .int .i64 0, .int .i64 0, .int .i64 0, .int .i64 0, .int .i64 0, .int .i64 0, .int .i64 0, .int .i64 0, .int .i64 0, .int .i64 0, .int .i64 0, .int .i64 0, .int .i64 0, .int .i64 0, .int .i64 0, .int .i64 0]) := by subst hV; have h := row_fresh (w.alloc (.cells #[.int .i64 k, .int .i64 x.s, .int .i64 x.j.id, .int .i64 x.j.pr, .int .i64 x.j.nd, .int .i64 x.j.na, .int .i64 x.j.nb, .int .i64 x.j.nc, .int .i64 x.j.la, .int .i64 x.j.lb, .int .i64 x.j.lc, .int .i64 x.j.wl, .int .i64 x.j.lv, .int .i64 x.n, .int .i64 x.a, .int .i64 x.b, .int .i64 x.c, .int .i64 kp] 54)) [.int .i64 0, .int .i64 0, .int .i64 0, .int .i64 0, .int .i64 0, .int .i64 0, .int .i64 0, .int .i64 0, .int .i64 0, .int .i64 0, .int .i64 0, .int .i64 0, .int .i64 0, .int .i64 0, .int .i64 0, .int .i64 0, .int .i64 0, .int .i64 0] 57; rw [s1] at h; exact h.below (low_alloc _ _)
  have HB : Hid (Below w.heap.size w V) := by subst hV; exact behind_alloc (behind_alloc (low_alloc _ _) _) _
  clear hV s1 s2
  refine wpList_load_mid rfl 52 _ rfl w.heap.size 1 rfl [.int .i64 x.s, .int .i64 x.j.id, .int .i64 x.j.pr, .int .i64 x.j.nd, .int .i64 x.j.na, .int .i64 x.j.nb, .int .i64 x.j.nc, .int .i64 x.j.la, .int .i64 x.j.lb, .int .i64 x.j.lc, .int .i64 x.j.wl, .int .i64 x.j.lv, .int .i64 x.n, .int .i64 x.a, .int .i64 x.b, .int .i64 x.c] _ (HA.out.sub 1 16) Tryd.underlying52 rfl szLCm ?_
  go_wp2_with fail
  refine (toCmd_c x.s x.j x.n x.a x.b x.c _).mono ?_
  rintro e w1 ⟨rfl, hb⟩
  replace HA : Hid (Row w1 w.heap.size [.int .i64 k, .int .i64 x.s, .int .i64 x.j.id, .int .i64 x.j.pr, .int .i64 x.j.nd, .int .i64 x.j.na, .int .i64 x.j.nb, .int .i64 x.j.nc, .int .i64 x.j.la, .int .i64 x.j.lb, .int .i64 x.j.lc, .int .i64 x.j.wl, .int .i64 x.j.lv, .int .i64 x.n, .int .i64 x.a, .int .i64 x.b, .int .i64 x.c, .int .i64 kp]) := HA.out.below hb
  replace HO : Hid (Row w1 (w.heap.size + 1 + 1) [.int .i64 k, .int .i64 0, .int .i64 0, .int .i64 0, .int .i64 0, .int .i64 0, .int .i64 0, .int .i64 0, .int .i64 0, .int .i64 0, .int .i64 0, .int .i64 0, .int .i64 0, .int .i64 0, .int .i64 0, .int .i64 0, .int .i64 0, .int .i64 0]) := HO.out.below hb
  replace HB : Hid (Below w.heap.size w w1) := below_then HB.out hb
  replace HZ : Hid (Row w1 (w.heap.size + 1) [.int .i64 0, .int .i64 0, .int .i64 0, .int .i64 0, .int .i64 0, .int .i64 0, .int .i64 0, .int .i64 0, .int .i64 0, .int .i64 0, .int .i64 0, .int .i64 0, .int .i64 0, .int .i64 0, .int .i64 0, .int .i64 0, .int .i64 0, .int .i64 0]) := HZ.out.below hb
  clear hb
  generalize hg : w.heap.size + 1 + 1 = g at HO ⊢
  go_wp2_with (refine stay_store 28 ?_)
  refine ⟨?_⟩
  refine wpList_store_mid rfl 28 _ _ rfl g 1 (#[.int .i64 x.s, .int .i64 x.j.id, .int .i64 x.j.pr, .int .i64 x.j.nd, .int .i64 x.j.na, .int .i64 x.j.nb, .int .i64 x.j.nc, .int .i64 x.j.la, .int .i64 x.j.lb, .int .i64 x.j.lc, .int .i64 x.j.wl, .int .i64 x.j.lv, .int .i64 x.n, .int .i64 x.a, .int .i64 x.b, .int .i64 x.c]) rfl rfl (HO.out.room 1 16 (by simp)) szCmdC (by simp [Value.oneCell']) ?_
  replace HO : Hid (Row (w1.setCells g 1 (#[.int .i64 x.s, .int .i64 x.j.id, .int .i64 x.j.pr, .int .i64 x.j.nd, .int .i64 x.j.na, .int .i64 x.j.nb, .int .i64 x.j.nc, .int .i64 x.j.la, .int .i64 x.j.lb, .int .i64 x.j.lc, .int .i64 x.j.wl, .int .i64 x.j.lv, .int .i64 x.n, .int .i64 x.a, .int .i64 x.b, .int .i64 x.c] : Array Value).toList) g [.int .i64 k, .int .i64 x.s, .int .i64 x.j.id, .int .i64 x.j.pr, .int .i64 x.j.nd, .int .i64 x.j.na, .int .i64 x.j.nb, .int .i64 x.j.nc, .int .i64 x.j.la, .int .i64 x.j.lb, .int .i64 x.j.lc, .int .i64 x.j.wl, .int .i64 x.j.lv, .int .i64 x.n, .int .i64 x.a, .int .i64 x.b, .int .i64 x.c, .int .i64 0]) := Row.setCs _ 1 HO.out (by simp)
  replace HA : Hid (Row (w1.setCells g 1 (#[.int .i64 x.s, .int .i64 x.j.id, .int .i64 x.j.pr, .int .i64 x.j.nd, .int .i64 x.j.na, .int .i64 x.j.nb, .int .i64 x.j.nc, .int .i64 x.j.la, .int .i64 x.j.lb, .int .i64 x.j.lc, .int .i64 x.j.wl, .int .i64 x.j.lv, .int .i64 x.n, .int .i64 x.a, .int .i64 x.b, .int .i64 x.c] : Array Value).toList) w.heap.size [.int .i64 k, .int .i64 x.s, .int .i64 x.j.id, .int .i64 x.j.pr, .int .i64 x.j.nd, .int .i64 x.j.na, .int .i64 x.j.nb, .int .i64 x.j.nc, .int .i64 x.j.la, .int .i64 x.j.lb, .int .i64 x.j.lc, .int .i64 x.j.wl, .int .i64 x.j.lv, .int .i64 x.n, .int .i64 x.a, .int .i64 x.b, .int .i64 x.c, .int .i64 kp]) := HA.out.apartCs (by omega) _ 1
  replace HZ : Hid (Row (w1.setCells g 1 (#[.int .i64 x.s, .int .i64 x.j.id, .int .i64 x.j.pr, .int .i64 x.j.nd, .int .i64 x.j.na, .int .i64 x.j.nb, .int .i64 x.j.nc, .int .i64 x.j.la, .int .i64 x.j.lb, .int .i64 x.j.lc, .int .i64 x.j.wl, .int .i64 x.j.lv, .int .i64 x.n, .int .i64 x.a, .int .i64 x.b, .int .i64 x.c] : Array Value).toList) (w.heap.size + 1) [.int .i64 0, .int .i64 0, .int .i64 0, .int .i64 0, .int .i64 0, .int .i64 0, .int .i64 0, .int .i64 0, .int .i64 0, .int .i64 0, .int .i64 0, .int .i64 0, .int .i64 0, .int .i64 0, .int .i64 0, .int .i64 0, .int .i64 0, .int .i64 0]) := HZ.out.apartCs (by omega) _ 1
  replace HB : Hid (Below w.heap.size w (w1.setCells g 1 (#[.int .i64 x.s, .int .i64 x.j.id, .int .i64 x.j.pr, .int .i64 x.j.nd, .int .i64 x.j.na, .int .i64 x.j.nb, .int .i64 x.j.nc, .int .i64 x.j.la, .int .i64 x.j.lb, .int .i64 x.j.lc, .int .i64 x.j.wl, .int .i64 x.j.lv, .int .i64 x.n, .int .i64 x.a, .int .i64 x.b, .int .i64 x.c] : Array Value).toList)) := below_setCs (by omega) _ _ HB.out
  generalize w1.setCells g 1 _ = w2 at HO HA HZ HB ⊢
  have d17 := HO.out.cell 17 _ rfl
  have f17 := HO.out.free 17
  have a17 := HA.out.cell 17 _ rfl
  have hne : ¬ g = w.heap.size := by omega
  have hne' : ¬ w.heap.size = g := by omega
  go_wp2_with (refine stay_load 57 ?_)
  refine ⟨?_⟩
  clear d17 f17 a17
  replace HO : Hid (Row (w2.setCell ⟨g, 17, none⟩ (.int .i64 kp)) g [.int .i64 k, .int .i64 x.s, .int .i64 x.j.id, .int .i64 x.j.pr, .int .i64 x.j.nd, .int .i64 x.j.na, .int .i64 x.j.nb, .int .i64 x.j.nc, .int .i64 x.j.la, .int .i64 x.j.lb, .int .i64 x.j.lc, .int .i64 x.j.wl, .int .i64 x.j.lv, .int .i64 x.n, .int .i64 x.a, .int .i64 x.b, .int .i64 x.c, .int .i64 kp]) := HO.out.set 17 (by simp) _
  replace HZ : Hid (Row (w2.setCell ⟨g, 17, none⟩ (.int .i64 kp)) (w.heap.size + 1) [.int .i64 0, .int .i64 0, .int .i64 0, .int .i64 0, .int .i64 0, .int .i64 0, .int .i64 0, .int .i64 0, .int .i64 0, .int .i64 0, .int .i64 0, .int .i64 0, .int .i64 0, .int .i64 0, .int .i64 0, .int .i64 0, .int .i64 0, .int .i64 0]) := HZ.out.apart g 17 _ (by omega)
  replace HB : Hid (Below w.heap.size w (w2.setCell ⟨g, 17, none⟩ (.int .i64 kp))) := HB.out.setCell (by show w.heap.size ≤ g; omega) _
  clear HA
  generalize w2.setCell ⟨g, 17, none⟩ (.int .i64 kp) = w3 at HO HZ HB ⊢
  refine wpList_load_mid rfl 57 _ rfl g 0 rfl [.int .i64 k, .int .i64 x.s, .int .i64 x.j.id, .int .i64 x.j.pr, .int .i64 x.j.nd, .int .i64 x.j.na, .int .i64 x.j.nb, .int .i64 x.j.nc, .int .i64 x.j.la, .int .i64 x.j.lb, .int .i64 x.j.lc, .int .i64 x.j.wl, .int .i64 x.j.lv, .int .i64 x.n, .int .i64 x.a, .int .i64 x.b, .int .i64 x.c, .int .i64 kp] _ HO.out.all Tryd.underlying57 rfl szStep ?_
  go_wp2_with (refine stay_store 57 ?_)
  refine ⟨?_⟩
  refine wpList_store_mid rfl 57 _ _ rfl (w.heap.size + 1) 0 (#[.int .i64 k, .int .i64 x.s, .int .i64 x.j.id, .int .i64 x.j.pr, .int .i64 x.j.nd, .int .i64 x.j.na, .int .i64 x.j.nb, .int .i64 x.j.nc, .int .i64 x.j.la, .int .i64 x.j.lb, .int .i64 x.j.lc, .int .i64 x.j.wl, .int .i64 x.j.lv, .int .i64 x.n, .int .i64 x.a, .int .i64 x.b, .int .i64 x.c, .int .i64 kp]) rfl rfl (HZ.out.room 0 18 (by simp)) szStep (by simp [Value.oneCell']) ?_
  replace HZ : Hid (Row (w3.setCells (w.heap.size + 1) 0 (#[.int .i64 k, .int .i64 x.s, .int .i64 x.j.id, .int .i64 x.j.pr, .int .i64 x.j.nd, .int .i64 x.j.na, .int .i64 x.j.nb, .int .i64 x.j.nc, .int .i64 x.j.la, .int .i64 x.j.lb, .int .i64 x.j.lc, .int .i64 x.j.wl, .int .i64 x.j.lv, .int .i64 x.n, .int .i64 x.a, .int .i64 x.b, .int .i64 x.c, .int .i64 kp] : Array Value).toList) (w.heap.size + 1) [.int .i64 k, .int .i64 x.s, .int .i64 x.j.id, .int .i64 x.j.pr, .int .i64 x.j.nd, .int .i64 x.j.na, .int .i64 x.j.nb, .int .i64 x.j.nc, .int .i64 x.j.la, .int .i64 x.j.lb, .int .i64 x.j.lc, .int .i64 x.j.wl, .int .i64 x.j.lv, .int .i64 x.n, .int .i64 x.a, .int .i64 x.b, .int .i64 x.c, .int .i64 kp]) := Row.setCs _ 0 HZ.out (by simp)
  replace HB : Hid (Below w.heap.size w (w3.setCells (w.heap.size + 1) 0 (#[.int .i64 k, .int .i64 x.s, .int .i64 x.j.id, .int .i64 x.j.pr, .int .i64 x.j.nd, .int .i64 x.j.na, .int .i64 x.j.nb, .int .i64 x.j.nc, .int .i64 x.j.la, .int .i64 x.j.lb, .int .i64 x.j.lc, .int .i64 x.j.wl, .int .i64 x.j.lv, .int .i64 x.n, .int .i64 x.a, .int .i64 x.b, .int .i64 x.c, .int .i64 kp] : Array Value).toList)) := below_setCs (by omega) _ _ HB.out
  generalize w3.setCells (w.heap.size + 1) 0 _ = w6 at HZ HB ⊢
  clear HO hne hne'
  go_wp2_with fail
  have r0 := HZ.out.cell 0 _ rfl
  have r1 := HZ.out.cell 1 _ rfl
  have r2 := HZ.out.cell 2 _ rfl
  have r3 := HZ.out.cell 3 _ rfl
  have r4 := HZ.out.cell 4 _ rfl
  have r5 := HZ.out.cell 5 _ rfl
  have r6 := HZ.out.cell 6 _ rfl
  have r7 := HZ.out.cell 7 _ rfl
  have r8 := HZ.out.cell 8 _ rfl
  have r9 := HZ.out.cell 9 _ rfl
  have r10 := HZ.out.cell 10 _ rfl
  have r11 := HZ.out.cell 11 _ rfl
  have r12 := HZ.out.cell 12 _ rfl
  have r13 := HZ.out.cell 13 _ rfl
  have r14 := HZ.out.cell 14 _ rfl
  have r15 := HZ.out.cell 15 _ rfl
  have r16 := HZ.out.cell 16 _ rfl
  have r17 := HZ.out.cell 17 _ rfl
  exact bodyPost_ret (v := .agg #[.int .i64 k, .int .i64 x.s, .int .i64 x.j.id, .int .i64 x.j.pr, .int .i64 x.j.nd, .int .i64 x.j.na, .int .i64 x.j.nb, .int .i64 x.j.nc, .int .i64 x.j.la, .int .i64 x.j.lb, .int .i64 x.j.lc, .int .i64 x.j.wl, .int .i64 x.j.lv, .int .i64 x.n, .int .i64 x.a, .int .i64 x.b, .int .i64 x.c, .int .i64 kp]) (by simp [results, Tryd.results20, go_sem, *]) rfl ⟨rfl, HB.out⟩
end Go.Proofs.YtejleghdgdbbnaaDoor

namespace Go.Proofs.YtejleghdgdbbnaaDoor
open Go.ChangeShapes Go.WideShapes Go.ChangeAt Go.RowKit Go.Joins Go.Deep

theorem cellsStep18 : Tryd.prog.cellsOf 54 = 18 := by kernel_rfl
set_option maxRecDepth 100000 in
set_option maxHeartbeats 1000000 in
theorem cmd_cells {H : Type} {enc : TypeId × Value → H} {W : World} {base fuel : Nat} {spare : Nat → Bool} {held : Bool} {l : List Value} {x : DataW H × List MemPlace} (hl16 : l.length = 16)
    (h : DataW.trod enc Tryd.prog W base spare held fuel 52 l = some x) : ∃ y : Cm, l = y.cells := by
  obtain ⟨xs, k, _, _, hl, hxl, hg⟩ := DataW.trod_struct Tryd.underlying52 h
  match l, hl16, xs, hxl with
  | [v0, v1, v2, v3, v4, v5, v6, v7, v8, v9, v10, v11, v12, v13, v14, v15], _, [x0, x1, x2, x3], _ =>
    have g0 : DataW.trod enc Tryd.prog W base spare held k 3 [v0] = some x0 := by simpa [Value.cells, cellsInt1, cellsVec3, cellsJob11] using hg 0 _ rfl
    have g1 : DataW.trod enc Tryd.prog W base spare held k 50 [v1, v2, v3, v4, v5, v6, v7, v8, v9, v10, v11] = some x1 := by simpa [Value.cells, cellsInt1, cellsVec3, cellsJob11] using hg 1 _ rfl
    have g2 : DataW.trod enc Tryd.prog W base spare held k 3 [v12] = some x2 := by simpa [Value.cells, cellsInt1, cellsVec3, cellsJob11] using hg 2 _ rfl
    have g3 : DataW.trod enc Tryd.prog W base spare held k 48 [v13, v14, v15] = some x3 := by simpa [Value.cells, cellsInt1, cellsVec3, cellsJob11] using hg 3 _ rfl
    obtain ⟨s, e0, _, _⟩ := DataW.trod_int Tryd.underlying3 g0
    obtain ⟨j, ej⟩ := job_cells rfl g1
    obtain ⟨n, e2, _, _⟩ := DataW.trod_int Tryd.underlying3 g2
    obtain ⟨a, b, c, rfl, rfl, rfl⟩ := vec_cells g3
    simp at e0 e2
    simp only [Jb.cells, List.cons.injEq, and_true] at ej
    obtain ⟨rfl, rfl, rfl, rfl, rfl, rfl, rfl, rfl, rfl, rfl, rfl⟩ := ej
    subst e0 e2
    exact ⟨⟨s, j, n, a, b, c⟩, rfl⟩
set_option maxRecDepth 100000 in
set_option maxHeartbeats 1000000 in
/-- A step that came in. -/
theorem step_opened {H : Type} {enc : TypeId × Value → H} {W : World} {r : Reach} {b0 : Nat} {v : Value} {d : DataW H} {p : List MemPlace} (hv : Value.okWide Tryd.prog W r b0 54 v)
    (h : DataW.Trod enc Tryd.prog W 0 (fun _ => true) true 54 v d p) : ∃ (k : Int) (x : Cm) (kp : Int), v = .agg #[.int .i64 k, .int .i64 x.s, .int .i64 x.j.id, .int .i64 x.j.pr, .int .i64 x.j.nd, .int .i64 x.j.na, .int .i64 x.j.nb, .int .i64 x.j.nc, .int .i64 x.j.la, .int .i64 x.j.lb, .int .i64 x.j.lc, .int .i64 x.j.wl, .int .i64 x.j.lv, .int .i64 x.n, .int .i64 x.a, .int .i64 x.b, .int .i64 x.c, .int .i64 kp] := by
  obtain ⟨cs, rfl, hsz⟩ := okWide_struct Tryd.underlying54 hv
  rw [cellsStep18] at hsz
  obtain ⟨fuel, hf⟩ := h
  obtain ⟨xs, k, _, _, hl, hxl, hg⟩ := DataW.trod_struct Tryd.underlying54 hf
  obtain ⟨l, rfl⟩ : ∃ l : List Value, cs = l.toArray := ⟨cs.toList, rfl⟩
  have hl18 : l.length = 18 := by simpa using hsz
  match l, hl18, xs, hxl with
  | [v0, v1, v2, v3, v4, v5, v6, v7, v8, v9, v10, v11, v12, v13, v14, v15, v16, v17], _, [x0, x1, x2], _ =>
    have g0 : DataW.trod enc Tryd.prog W 0 (fun _ => true) true k 3 [v0] = some x0 := by simpa [Value.cells, cellsInt1, cellsCmd16] using hg 0 _ rfl
    have g1 : DataW.trod enc Tryd.prog W 0 (fun _ => true) true k 52 [v1, v2, v3, v4, v5, v6, v7, v8, v9, v10, v11, v12, v13, v14, v15, v16] = some x1 := by simpa [Value.cells, cellsInt1, cellsCmd16] using hg 1 _ rfl
    have g2 : DataW.trod enc Tryd.prog W 0 (fun _ => true) true k 3 [v17] = some x2 := by simpa [Value.cells, cellsInt1, cellsCmd16] using hg 2 _ rfl
    obtain ⟨s, e0, _, _⟩ := DataW.trod_int Tryd.underlying3 g0
    obtain ⟨y, ey⟩ := cmd_cells rfl g1
    obtain ⟨n, e2, _, _⟩ := DataW.trod_int Tryd.underlying3 g2
    simp at e0 e2
    simp only [Cm.cells, List.cons.injEq, and_true] at ey
    obtain ⟨rfl, rfl, rfl, rfl, rfl, rfl, rfl, rfl, rfl, rfl, rfl, rfl, rfl, rfl, rfl, rfl⟩ := ey
    subst e0 e2
    exact ⟨s, y, n, rfl⟩
end Go.Proofs.YtejleghdgdbbnaaDoor
