/- noneAbove and the face functions VecOk, VecFits. -/
import Derived.Test.YtmpjebkjopfejaaGreatMzVecB
namespace Go.Proofs.YtmpjebkjopfejaaGreat
open Go.ChangeShapes Go.WideShapes Go.ChangeAt Go.RowKit

theorem min3 (a b c x y z : Int) : (min a x == a && (min b y == b && min c z == c)) = nabB a b c x y z := by
  rw [Bool.eq_iff_iff]; simp [nabB]; omega

set_option maxRecDepth 100000 in
/-- Two arrays of three numbers, held against each other. -/
theorem eq_three (a b c x y z : Int) (w : World) : (Op.equalIn 10000 148 (.agg #[.int .i64 a, .int .i64 b, .int .i64 c]) (.agg #[.int .i64 x, .int .i64 y, .int .i64 z])).run Tryz.prog w = .ok (a == x && (b == y && c == z)) w := by
  rw [run_equalIn_array w 9999 (n := 3) (e := 3) _ _ Tryz.underlying148 (by rfl)]
  have hc : Tryz.prog.cellsOf 3 = 1 := by kernel_rfl
  rw [hc]
  cases h1 : a == x <;> cases h2 : b == y <;> cases h3 : c == z <;> simp_all [Op.eqItems, List.range, List.range.loop, go_sem]

set_option maxHeartbeats 1000000 in
theorem noneAbove_c (a b c x y z : Int) (w : World) :
    Calls Tryz.prog 124 #[.agg #[.int .i64 a, .int .i64 b, .int .i64 c], .agg #[.int .i64 x, .int .i64 y, .int .i64 z]] w fun e w' => e = .returned (.bool (nabB a b c x y z)) ∧ Below w.heap.size w w' := by
  have heq := eq_three (min a x) (min b y) (min c z) a b c
  rw [min3] at heq
  go_enter Tryz.func124, Tryz.ntmps124
  go_wp2
  go_region_held3 (fun w' => w'.cell? ⟨w.heap.size, 0, none⟩ = some (.int .i64 a) ∧ w'.cell? ⟨w.heap.size, 1, none⟩ = some (.int .i64 b) ∧ w'.cell? ⟨w.heap.size, 2, none⟩ = some (.int .i64 c) ∧ w'.cell? ⟨w.heap.size + 1, 0, none⟩ = some (.int .i64 x) ∧ w'.cell? ⟨w.heap.size + 1, 1, none⟩ = some (.int .i64 y) ∧ w'.cell? ⟨w.heap.size + 1, 2, none⟩ = some (.int .i64 z)) (first | (go_keep; done) | (refine ⟨?_, ?_, ?_, ?_, ?_, ?_⟩ <;> (rw [hc _ _ (by go_size)]; simp))) ((go_at_call 121; refine (pairwise_lesser _ _ _ _ _ _ _).mono ?_; rintro e w' ⟨rfl, hb⟩; obtain ⟨hc, hf⟩ := bcell hb))
  go_wp2
  go_ret
  exact ⟨rfl, below_then (by go_grown) hb⟩

theorem vok_nab (a b c : Int) : (nabB 0 0 0 a b c && nabB a b c 1000000 1000000 1000000) = vokB a b c := by
  rw [Bool.eq_iff_iff]; simp [nabB, vokB, resB]; omega

set_option maxHeartbeats 1000000 in
theorem implVecOk_c (a b c : Int) (w : World) :
    Calls Tryz.prog 107 #[.agg #[.int .i64 a, .int .i64 b, .int .i64 c]] w fun e w' => e = .returned (.bool (vokB a b c)) ∧ Below w.heap.size w w' := by
  rw [← vok_nab]
  cases hn : nabB 0 0 0 a b c
  all_goals
    have Hn : Hid (nabB 0 0 0 a b c = _) := hn
    clear hn
    go_enter Tryz.func107, Tryz.ntmps107
    go_wp2_with fail
    refine (amounts_c _ _ _ _).mono ?_
    rintro e w1 ⟨rfl, hb1⟩
    go_wp2_with fail
    refine (noneAbove_c _ _ _ _ _ _ _).mono ?_
    rintro e w2 ⟨rfl, hb2⟩
    have B2 := below_then hb1 hb2
    obtain ⟨c0, c1, c2⟩ := kept3 B2 w.heap.size (.int .i64 a) (.int .i64 b) (.int .i64 c) (by go_size) (by simp)
    rw [Hn.out]
    go_wp2_with fail
  · go_ret
    exact ⟨by simp, below_then (by go_grown) B2⟩
  · refine (amounts_c _ _ _ _).mono ?_
    rintro e w3 ⟨rfl, hb3⟩
    go_wp2_with fail
    refine (noneAbove_c _ _ _ _ _ _ _).mono ?_
    rintro e w4 ⟨rfl, hb4⟩
    have B4 := below_then (below_then B2 hb3) hb4
    go_wp2_with fail
    go_ret
    exact ⟨by simp, below_then (by go_grown) B4⟩
end Go.Proofs.YtmpjebkjopfejaaGreat
