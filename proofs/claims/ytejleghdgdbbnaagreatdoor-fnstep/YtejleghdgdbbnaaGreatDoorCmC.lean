/- CmdOk: the specification's, and both for every kind. -/
import Derived.Test.YtejleghdgdbbnaaGreatDoorCmB
namespace Go.Proofs.YtejleghdgdbbnaaGreatDoor
open Go.ChangeShapes Go.WideShapes Go.ChangeAt Go.RowKit

theorem jeq0 (j : Jb) (W : World) : (Op.equalIn 10000 26 (.agg #[.int .i64 j.id, .int .i64 j.pr, .int .i64 j.nd, .int .i64 j.na, .int .i64 j.nb, .int .i64 j.nc, .int .i64 j.la, .int .i64 j.lb, .int .i64 j.lc, .int .i64 j.wl, .int .i64 j.lv]) (.agg #[.int .i64 0, .int .i64 0, .int .i64 0, .int .i64 0, .int .i64 0, .int .i64 0, .int .i64 0, .int .i64 0, .int .i64 0, .int .i64 0, .int .i64 0])).run Tryz.prog W = .ok (jeB j jb0) W := eq_job 9997 j jb0 W
theorem veq0 (a b c : Int) (W : World) : (Op.equalIn 10000 24 (.agg #[.int .i64 a, .int .i64 b, .int .i64 c]) (.agg #[.int .i64 0, .int .i64 0, .int .i64 0])).run Tryz.prog W = .ok (veB a b c 0 0 0) W := eq_vec 9998 a b c 0 0 0 W

set_option maxHeartbeats 2000000 in
set_option maxRecDepth 100000 in
theorem implCmdOk_no (s : Int) (j : Jb) (n a b c : Int) (w : World) (h : s < 1 ∨ 7 < s) : Calls Tryz.prog 28 #[.agg #[.int .i64 s, .int .i64 j.id, .int .i64 j.pr, .int .i64 j.nd, .int .i64 j.na, .int .i64 j.nb, .int .i64 j.nc, .int .i64 j.la, .int .i64 j.lb, .int .i64 j.lc, .int .i64 j.wl, .int .i64 j.lv, .int .i64 n, .int .i64 a, .int .i64 b, .int .i64 c]] w fun e w' => e = .returned (.bool false) ∧ Below w.heap.size w w' := by
  have n1 : (s == 1) = false := by simp; omega
  have n2 : (s == 2) = false := by simp; omega
  have n3 : (s == 3) = false := by simp; omega
  have n4 : (s == 4) = false := by simp; omega
  have n5 : (s == 5) = false := by simp; omega
  have n6 : (s == 6) = false := by simp; omega
  have n7 : (s == 7) = false := by simp; omega
  clear h
  go_enter Tryz.func28, Tryz.ntmps28
  go_wp2_with fail
  go_ret
  exact ⟨rfl, low_alloc _ _⟩

set_option maxHeartbeats 2000000 in
set_option maxRecDepth 100000 in
theorem specCmdOk_2 (j : Jb) (n a b c : Int) (w : World) : Calls Tryz.prog 33 #[.agg #[.int .i64 2, .int .i64 j.id, .int .i64 j.pr, .int .i64 j.nd, .int .i64 j.na, .int .i64 j.nb, .int .i64 j.nc, .int .i64 j.la, .int .i64 j.lb, .int .i64 j.lc, .int .i64 j.wl, .int .i64 j.lv, .int .i64 n, .int .i64 a, .int .i64 b, .int .i64 c]] w fun e w' => e = .returned (.bool (cmdB 2 j n a b c)) ∧ Below w.heap.size w w' := by
  have hjq := jeq0 j
  have hvq := veq0 a b c
  cases hJ : jeB j jb0
  · have HN : Hid (cmdB 2 j n a b c = false) := by show _ = _; simp [cmdB, hJ]
    rw [hJ] at hjq
    clear hJ
    go_enter Tryz.func33, Tryz.ntmps33
    go_wp2_with fail; go_ret; exact ⟨by rw [HN.out]; rfl, low_alloc _ _⟩
  · rw [hJ] at hjq
    cases hV : veB a b c 0 0 0
    · have HN : Hid (cmdB 2 j n a b c = false) := by show _ = _; simp [cmdB, hV]
      rw [hV] at hvq
      clear hJ hV
      go_enter Tryz.func33, Tryz.ntmps33
      go_wp2_with fail; go_ret; exact ⟨by rw [HN.out]; rfl, low_alloc _ _⟩
    · rw [hV] at hvq
      by_cases p : 1 ≤ n
      · by_cases q : n ≤ 999
        · have HN : Hid (cmdB 2 j n a b c = true) := by show _ = _; simp [cmdB, hJ, hV, btwB, p, q]
          have q' : n < 1000 := by omega
          clear hJ hV
          go_enter Tryz.func33, Tryz.ntmps33
          go_wp2_with fail
          go_ret
          exact ⟨by rw [HN.out]; rfl, low_alloc _ _⟩
        · have HN : Hid (cmdB 2 j n a b c = false) := by show _ = _; simp [cmdB, hJ, hV, btwB, p, q]
          have q' : ¬ n < 1000 := by omega
          clear hJ hV
          go_enter Tryz.func33, Tryz.ntmps33
          go_wp2_with fail
          go_ret
          exact ⟨by rw [HN.out]; rfl, low_alloc _ _⟩
      · have HN : Hid (cmdB 2 j n a b c = false) := by show _ = _; simp [cmdB, hJ, hV, btwB, p]
        clear hJ hV
        go_enter Tryz.func33, Tryz.ntmps33
        go_wp2_with fail; go_ret; exact ⟨by rw [HN.out]; rfl, low_alloc _ _⟩
set_option maxHeartbeats 2000000 in
set_option maxRecDepth 100000 in
theorem specCmdOk_3 (j : Jb) (n a b c : Int) (w : World) : Calls Tryz.prog 33 #[.agg #[.int .i64 3, .int .i64 j.id, .int .i64 j.pr, .int .i64 j.nd, .int .i64 j.na, .int .i64 j.nb, .int .i64 j.nc, .int .i64 j.la, .int .i64 j.lb, .int .i64 j.lc, .int .i64 j.wl, .int .i64 j.lv, .int .i64 n, .int .i64 a, .int .i64 b, .int .i64 c]] w fun e w' => e = .returned (.bool (cmdB 3 j n a b c)) ∧ Below w.heap.size w w' := by
  have hjq := jeq0 j
  have hvq := veq0 a b c
  cases hJ : jeB j jb0
  · have HN : Hid (cmdB 3 j n a b c = false) := by show _ = _; simp [cmdB, hJ]
    rw [hJ] at hjq
    clear hJ
    go_enter Tryz.func33, Tryz.ntmps33
    go_wp2_with fail; go_ret; exact ⟨by rw [HN.out]; rfl, low_alloc _ _⟩
  · rw [hJ] at hjq
    cases hV : veB a b c 0 0 0
    · have HN : Hid (cmdB 3 j n a b c = false) := by show _ = _; simp [cmdB, hV]
      rw [hV] at hvq
      clear hJ hV
      go_enter Tryz.func33, Tryz.ntmps33
      go_wp2_with fail; go_ret; exact ⟨by rw [HN.out]; rfl, low_alloc _ _⟩
    · rw [hV] at hvq
      by_cases p : 1 ≤ n
      · by_cases q : n ≤ 999
        · have HN : Hid (cmdB 3 j n a b c = true) := by show _ = _; simp [cmdB, hJ, hV, btwB, p, q]
          have q' : n < 1000 := by omega
          clear hJ hV
          go_enter Tryz.func33, Tryz.ntmps33
          go_wp2_with fail
          go_ret
          exact ⟨by rw [HN.out]; rfl, low_alloc _ _⟩
        · have HN : Hid (cmdB 3 j n a b c = false) := by show _ = _; simp [cmdB, hJ, hV, btwB, p, q]
          have q' : ¬ n < 1000 := by omega
          clear hJ hV
          go_enter Tryz.func33, Tryz.ntmps33
          go_wp2_with fail
          go_ret
          exact ⟨by rw [HN.out]; rfl, low_alloc _ _⟩
      · have HN : Hid (cmdB 3 j n a b c = false) := by show _ = _; simp [cmdB, hJ, hV, btwB, p]
        clear hJ hV
        go_enter Tryz.func33, Tryz.ntmps33
        go_wp2_with fail; go_ret; exact ⟨by rw [HN.out]; rfl, low_alloc _ _⟩
set_option maxHeartbeats 2000000 in
set_option maxRecDepth 100000 in
theorem specCmdOk_4 (j : Jb) (n a b c : Int) (w : World) : Calls Tryz.prog 33 #[.agg #[.int .i64 4, .int .i64 j.id, .int .i64 j.pr, .int .i64 j.nd, .int .i64 j.na, .int .i64 j.nb, .int .i64 j.nc, .int .i64 j.la, .int .i64 j.lb, .int .i64 j.lc, .int .i64 j.wl, .int .i64 j.lv, .int .i64 n, .int .i64 a, .int .i64 b, .int .i64 c]] w fun e w' => e = .returned (.bool (cmdB 4 j n a b c)) ∧ Below w.heap.size w w' := by
  have hjq := jeq0 j
  have hvq := veq0 a b c
  cases hJ : jeB j jb0
  · have HN : Hid (cmdB 4 j n a b c = false) := by show _ = _; simp [cmdB, hJ]
    rw [hJ] at hjq
    clear hJ
    go_enter Tryz.func33, Tryz.ntmps33
    go_wp2_with fail; go_ret; exact ⟨by rw [HN.out]; rfl, low_alloc _ _⟩
  · rw [hJ] at hjq
    cases hV : veB a b c 0 0 0
    · have HN : Hid (cmdB 4 j n a b c = false) := by show _ = _; simp [cmdB, hV]
      rw [hV] at hvq
      clear hJ hV
      go_enter Tryz.func33, Tryz.ntmps33
      go_wp2_with fail; go_ret; exact ⟨by rw [HN.out]; rfl, low_alloc _ _⟩
    · rw [hV] at hvq
      by_cases p : 0 ≤ n
      · by_cases q : n ≤ 23
        · have HN : Hid (cmdB 4 j n a b c = true) := by show _ = _; simp [cmdB, hJ, hV, btwB, p, q]
          have q' : n < 24 := by omega
          clear hJ hV
          go_enter Tryz.func33, Tryz.ntmps33
          go_wp2_with fail
          go_ret
          exact ⟨by rw [HN.out]; rfl, low_alloc _ _⟩
        · have HN : Hid (cmdB 4 j n a b c = false) := by show _ = _; simp [cmdB, hJ, hV, btwB, p, q]
          have q' : ¬ n < 24 := by omega
          clear hJ hV
          go_enter Tryz.func33, Tryz.ntmps33
          go_wp2_with fail
          go_ret
          exact ⟨by rw [HN.out]; rfl, low_alloc _ _⟩
      · have HN : Hid (cmdB 4 j n a b c = false) := by show _ = _; simp [cmdB, hJ, hV, btwB, p]
        clear hJ hV
        go_enter Tryz.func33, Tryz.ntmps33
        go_wp2_with fail; go_ret; exact ⟨by rw [HN.out]; rfl, low_alloc _ _⟩
set_option maxHeartbeats 2000000 in
set_option maxRecDepth 100000 in
theorem specCmdOk_5 (j : Jb) (n a b c : Int) (w : World) : Calls Tryz.prog 33 #[.agg #[.int .i64 5, .int .i64 j.id, .int .i64 j.pr, .int .i64 j.nd, .int .i64 j.na, .int .i64 j.nb, .int .i64 j.nc, .int .i64 j.la, .int .i64 j.lb, .int .i64 j.lc, .int .i64 j.wl, .int .i64 j.lv, .int .i64 n, .int .i64 a, .int .i64 b, .int .i64 c]] w fun e w' => e = .returned (.bool (cmdB 5 j n a b c)) ∧ Below w.heap.size w w' := by
  have hjq := jeq0 j
  have hvq := veq0 a b c
  cases hJ : jeB j jb0
  · have HN : Hid (cmdB 5 j n a b c = false) := by show _ = _; simp [cmdB, hJ]
    rw [hJ] at hjq
    clear hJ
    go_enter Tryz.func33, Tryz.ntmps33
    go_wp2_with fail; go_ret; exact ⟨by rw [HN.out]; rfl, low_alloc _ _⟩
  · rw [hJ] at hjq
    cases hV : veB a b c 0 0 0
    · have HN : Hid (cmdB 5 j n a b c = false) := by show _ = _; simp [cmdB, hV]
      rw [hV] at hvq
      clear hJ hV
      go_enter Tryz.func33, Tryz.ntmps33
      go_wp2_with fail; go_ret; exact ⟨by rw [HN.out]; rfl, low_alloc _ _⟩
    · rw [hV] at hvq
      by_cases p : 0 ≤ n
      · by_cases q : n ≤ 23
        · have HN : Hid (cmdB 5 j n a b c = true) := by show _ = _; simp [cmdB, hJ, hV, btwB, p, q]
          have q' : n < 24 := by omega
          clear hJ hV
          go_enter Tryz.func33, Tryz.ntmps33
          go_wp2_with fail
          go_ret
          exact ⟨by rw [HN.out]; rfl, low_alloc _ _⟩
        · have HN : Hid (cmdB 5 j n a b c = false) := by show _ = _; simp [cmdB, hJ, hV, btwB, p, q]
          have q' : ¬ n < 24 := by omega
          clear hJ hV
          go_enter Tryz.func33, Tryz.ntmps33
          go_wp2_with fail
          go_ret
          exact ⟨by rw [HN.out]; rfl, low_alloc _ _⟩
      · have HN : Hid (cmdB 5 j n a b c = false) := by show _ = _; simp [cmdB, hJ, hV, btwB, p]
        clear hJ hV
        go_enter Tryz.func33, Tryz.ntmps33
        go_wp2_with fail; go_ret; exact ⟨by rw [HN.out]; rfl, low_alloc _ _⟩

set_option maxHeartbeats 2000000 in
set_option maxRecDepth 100000 in
theorem specCmdOk_7 (j : Jb) (n a b c : Int) (w : World) : Calls Tryz.prog 33 #[.agg #[.int .i64 7, .int .i64 j.id, .int .i64 j.pr, .int .i64 j.nd, .int .i64 j.na, .int .i64 j.nb, .int .i64 j.nc, .int .i64 j.la, .int .i64 j.lb, .int .i64 j.lc, .int .i64 j.wl, .int .i64 j.lv, .int .i64 n, .int .i64 a, .int .i64 b, .int .i64 c]] w fun e w' => e = .returned (.bool (cmdB 7 j n a b c)) ∧ Below w.heap.size w w' := by
  have hjq := jeq0 j
  have hvq := veq0 a b c
  cases hJ : jeB j jb0
  · have HN : Hid (cmdB 7 j n a b c = false) := by show _ = _; simp [cmdB, hJ]
    rw [hJ] at hjq
    clear hJ
    go_enter Tryz.func33, Tryz.ntmps33
    go_wp2_with fail; go_ret; exact ⟨by rw [HN.out]; rfl, low_alloc _ _⟩
  · rw [hJ] at hjq
    cases hV : veB a b c 0 0 0
    · have HN : Hid (cmdB 7 j n a b c = false) := by show _ = _; simp [cmdB, hV]
      rw [hV] at hvq
      clear hJ hV
      go_enter Tryz.func33, Tryz.ntmps33
      go_wp2_with fail; go_ret; exact ⟨by rw [HN.out]; rfl, low_alloc _ _⟩
    · rw [hV] at hvq
      have HN : Hid (cmdB 7 j n a b c = timB n) := by show _ = _; simp [cmdB, hJ, hV]
      clear hJ hV
      go_enter Tryz.func33, Tryz.ntmps33
      go_wp2_with fail
      refine (l01Time_c _ _).mono ?_
      rintro e w1 ⟨rfl, rfl⟩
      go_wp2_with fail
      go_ret
      exact ⟨by rw [HN.out]; rfl, low_alloc _ _⟩

set_option maxHeartbeats 2000000 in
set_option maxRecDepth 100000 in
theorem specCmdOk_6 (j : Jb) (n a b c : Int) (w : World) : Calls Tryz.prog 33 #[.agg #[.int .i64 6, .int .i64 j.id, .int .i64 j.pr, .int .i64 j.nd, .int .i64 j.na, .int .i64 j.nb, .int .i64 j.nc, .int .i64 j.la, .int .i64 j.lb, .int .i64 j.lc, .int .i64 j.wl, .int .i64 j.lv, .int .i64 n, .int .i64 a, .int .i64 b, .int .i64 c]] w fun e w' => e = .returned (.bool (cmdB 6 j n a b c)) ∧ Below w.heap.size w w' := by
  have hjq := jeq0 j
  have hvq := veq0 a b c
  generalize veB a b c 0 0 0 = v at hvq
  cases hJ : jeB j jb0
  · have HN : Hid (cmdB 6 j n a b c = false) := by show _ = _; simp [cmdB, hJ]
    rw [hJ] at hjq
    clear hJ
    go_enter Tryz.func33, Tryz.ntmps33
    go_wp2_with fail; go_ret; exact ⟨by rw [HN.out]; rfl, low_alloc _ _⟩
  · rw [hJ] at hjq
    cases hz : n == 0
    · have HN : Hid (cmdB 6 j n a b c = false) := by show _ = _; simp [cmdB, hz]
      clear hJ
      go_enter Tryz.func33, Tryz.ntmps33
      go_wp2_with fail; go_ret; exact ⟨by rw [HN.out]; rfl, low_alloc _ _⟩
    · have HN : Hid (cmdB 6 j n a b c = vokB a b c) := by show _ = _; simp [cmdB, hJ, hz]
      clear hJ
      obtain rfl : n = 0 := by simpa using hz
      clear hz
      go_enter Tryz.func33, Tryz.ntmps33
      go_wp2_with fail
      generalize hV : w.alloc _ = V
      have HV : Hid (Below w.heap.size w V) := by subst hV; exact low_alloc _ _
      clear hV
      refine (specVecOk_c a b c _).mono ?_
      rintro e w1 ⟨rfl, hb⟩
      have HB : Hid (Below w.heap.size w w1) := below_then HV.out hb
      clear hb HV
      go_wp2_with fail
      go_ret
      exact ⟨by rw [HN.out]; rfl, HB.out⟩

set_option maxHeartbeats 2000000 in
set_option maxRecDepth 100000 in
theorem specCmdOk_1 (j : Jb) (n a b c : Int) (w : World) : Calls Tryz.prog 33 #[.agg #[.int .i64 1, .int .i64 j.id, .int .i64 j.pr, .int .i64 j.nd, .int .i64 j.na, .int .i64 j.nb, .int .i64 j.nc, .int .i64 j.la, .int .i64 j.lb, .int .i64 j.lc, .int .i64 j.wl, .int .i64 j.lv, .int .i64 n, .int .i64 a, .int .i64 b, .int .i64 c]] w fun e w' => e = .returned (.bool (cmdB 1 j n a b c)) ∧ Below w.heap.size w w' := by
  have hjq := jeq0 j
  have hvq := veq0 a b c
  generalize jeB j jb0 = u at hjq
  have HD : Hid (cmdB 1 j n a b c = (jobB j && (n == 0 && veB a b c 0 0 0))) := rfl
  generalize cmdB 1 j n a b c = res at HD
  generalize veB a b c 0 0 0 = v at HD hvq
  go_enter Tryz.func33, Tryz.ntmps33
  go_wp2_with fail
  have HR : Hid (Row (w.alloc (.cells #[.int .i64 1, .int .i64 j.id, .int .i64 j.pr, .int .i64 j.nd, .int .i64 j.na, .int .i64 j.nb, .int .i64 j.nc, .int .i64 j.la, .int .i64 j.lb, .int .i64 j.lc, .int .i64 j.wl, .int .i64 j.lv, .int .i64 n, .int .i64 a, .int .i64 b, .int .i64 c] 28)) w.heap.size [.int .i64 1, .int .i64 j.id, .int .i64 j.pr, .int .i64 j.nd, .int .i64 j.na, .int .i64 j.nb, .int .i64 j.nc, .int .i64 j.la, .int .i64 j.lb, .int .i64 j.lc, .int .i64 j.wl, .int .i64 j.lv, .int .i64 n, .int .i64 a, .int .i64 b, .int .i64 c]) := row_fresh w [.int .i64 1, .int .i64 j.id, .int .i64 j.pr, .int .i64 j.nd, .int .i64 j.na, .int .i64 j.nb, .int .i64 j.nc, .int .i64 j.la, .int .i64 j.lb, .int .i64 j.lc, .int .i64 j.wl, .int .i64 j.lv, .int .i64 n, .int .i64 a, .int .i64 b, .int .i64 c] 28
  have HB : Hid (Below w.heap.size w (w.alloc (.cells #[.int .i64 1, .int .i64 j.id, .int .i64 j.pr, .int .i64 j.nd, .int .i64 j.na, .int .i64 j.nb, .int .i64 j.nc, .int .i64 j.la, .int .i64 j.lb, .int .i64 j.lc, .int .i64 j.wl, .int .i64 j.lv, .int .i64 n, .int .i64 a, .int .i64 b, .int .i64 c] 28))) := low_alloc _ _
  generalize w.alloc (.cells #[.int .i64 1, .int .i64 j.id, .int .i64 j.pr, .int .i64 j.nd, .int .i64 j.na, .int .i64 j.nb, .int .i64 j.nc, .int .i64 j.la, .int .i64 j.lb, .int .i64 j.lc, .int .i64 j.wl, .int .i64 j.lv, .int .i64 n, .int .i64 a, .int .i64 b, .int .i64 c] 28) = w0 at HR HB
  refine (specJobOk_c j _).mono ?_
  rintro e w1 ⟨rfl, hb⟩
  have HB1 : Hid (Below w.heap.size w w1) := below_then HB.out hb
  have d12 := (HR.out.below hb).cell 12 _ rfl
  clear hb HR HB
  cases hj : jobB j
  · rw [hj] at HD
    go_wp2_with fail
    go_ret
    exact ⟨by rw [HD.out]; rfl, HB1.out⟩
  · rw [hj] at HD
    cases hz : n == 0
    · rw [hz] at HD
      go_wp2_with fail
      go_ret
      exact ⟨by rw [HD.out]; rfl, HB1.out⟩
    · rw [hz] at HD
      go_wp2_with fail
      go_ret
      exact ⟨by rw [HD.out]; rfl, HB1.out⟩

set_option maxHeartbeats 2000000 in
set_option maxRecDepth 100000 in
theorem specCmdOk_no (s : Int) (j : Jb) (n a b c : Int) (w : World) (h : s < 1 ∨ 7 < s) : Calls Tryz.prog 33 #[.agg #[.int .i64 s, .int .i64 j.id, .int .i64 j.pr, .int .i64 j.nd, .int .i64 j.na, .int .i64 j.nb, .int .i64 j.nc, .int .i64 j.la, .int .i64 j.lb, .int .i64 j.lc, .int .i64 j.wl, .int .i64 j.lv, .int .i64 n, .int .i64 a, .int .i64 b, .int .i64 c]] w fun e w' => e = .returned (.bool false) ∧ Below w.heap.size w w' := by
  have hjq := jeq0 j
  have hvq := veq0 a b c
  generalize jeB j jb0 = u at hjq
  generalize veB a b c 0 0 0 = v at hvq
  have n1 : (s == 1) = false := by simp; omega
  have n2 : (s == 2) = false := by simp; omega
  have n3 : (s == 3) = false := by simp; omega
  have n4 : (s == 4) = false := by simp; omega
  have n5 : (s == 5) = false := by simp; omega
  have n6 : (s == 6) = false := by simp; omega
  have n7 : (s == 7) = false := by simp; omega
  clear h
  go_enter Tryz.func33, Tryz.ntmps33
  go_wp2_with fail
  go_ret
  exact ⟨rfl, low_alloc _ _⟩

theorem cmdB_no (s : Int) (j : Jb) (n a b c : Int) (h : s < 1 ∨ 7 < s) : cmdB s j n a b c = false := by
  unfold cmdB
  rw [if_neg (by omega), if_neg (by omega), if_neg (by omega), if_neg (by omega), if_neg (by omega)]

theorem implCmdOk_c (s : Int) (j : Jb) (n a b c : Int) (w : World) : Calls Tryz.prog 28 #[.agg #[.int .i64 s, .int .i64 j.id, .int .i64 j.pr, .int .i64 j.nd, .int .i64 j.na, .int .i64 j.nb, .int .i64 j.nc, .int .i64 j.la, .int .i64 j.lb, .int .i64 j.lc, .int .i64 j.wl, .int .i64 j.lv, .int .i64 n, .int .i64 a, .int .i64 b, .int .i64 c]] w fun e w' => e = .returned (.bool (cmdB s j n a b c)) ∧ Below w.heap.size w w' := by
  by_cases h : s < 1 ∨ 7 < s
  · rw [cmdB_no s j n a b c h]
    exact implCmdOk_no s j n a b c w h
  · have h7 : s = 1 ∨ s = 2 ∨ s = 3 ∨ s = 4 ∨ s = 5 ∨ s = 6 ∨ s = 7 := by omega
    rcases h7 with rfl | rfl | rfl | rfl | rfl | rfl | rfl
    · exact implCmdOk_1 j n a b c w
    · exact implCmdOk_2 j n a b c w
    · exact implCmdOk_3 j n a b c w
    · exact implCmdOk_4 j n a b c w
    · exact implCmdOk_5 j n a b c w
    · exact implCmdOk_6 j n a b c w
    · exact implCmdOk_7 j n a b c w
theorem specCmdOk_c (s : Int) (j : Jb) (n a b c : Int) (w : World) : Calls Tryz.prog 33 #[.agg #[.int .i64 s, .int .i64 j.id, .int .i64 j.pr, .int .i64 j.nd, .int .i64 j.na, .int .i64 j.nb, .int .i64 j.nc, .int .i64 j.la, .int .i64 j.lb, .int .i64 j.lc, .int .i64 j.wl, .int .i64 j.lv, .int .i64 n, .int .i64 a, .int .i64 b, .int .i64 c]] w fun e w' => e = .returned (.bool (cmdB s j n a b c)) ∧ Below w.heap.size w w' := by
  by_cases h : s < 1 ∨ 7 < s
  · rw [cmdB_no s j n a b c h]
    exact specCmdOk_no s j n a b c w h
  · have h7 : s = 1 ∨ s = 2 ∨ s = 3 ∨ s = 4 ∨ s = 5 ∨ s = 6 ∨ s = 7 := by omega
    rcases h7 with rfl | rfl | rfl | rfl | rfl | rfl | rfl
    · exact specCmdOk_1 j n a b c w
    · exact specCmdOk_2 j n a b c w
    · exact specCmdOk_3 j n a b c w
    · exact specCmdOk_4 j n a b c w
    · exact specCmdOk_5 j n a b c w
    · exact specCmdOk_6 j n a b c w
    · exact specCmdOk_7 j n a b c w

end Go.Proofs.YtejleghdgdbbnaaGreatDoor
