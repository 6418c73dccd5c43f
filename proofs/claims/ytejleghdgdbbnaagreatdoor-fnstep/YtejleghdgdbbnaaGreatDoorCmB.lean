/- CmdOk: the program's. -/
import Derived.Test.YtejleghdgdbbnaaGreatDoorCmA
import Derived.Test.YtejleghdgdbbnaaGreatDoorNumA
namespace Go.Proofs.YtejleghdgdbbnaaGreatDoor
open Go.ChangeShapes Go.WideShapes Go.ChangeAt Go.RowKit

def jb0 : Jb := ⟨0, 0, 0, 0, 0, 0, 0, 0, 0, 0, 0⟩
/-- A right command. -/
def cmdB (s : Int) (j : Jb) (n a b c : Int) : Bool :=
  if s = 1 then jobB j && (n == 0 && veB a b c 0 0 0)
  else if s = 2 ∨ s = 3 then btwB 1 n 999 && (jeB j jb0 && veB a b c 0 0 0)
  else if s = 4 ∨ s = 5 then btwB 0 n 23 && (jeB j jb0 && veB a b c 0 0 0)
  else if s = 6 then vokB a b c && (jeB j jb0 && n == 0)
  else if s = 7 then timB n && (jeB j jb0 && veB a b c 0 0 0)
  else false

theorem jeB_self (j : Jb) : jeB j j = true := by simp [jeB, veB]
theorem veB_self (a b c : Int) : veB a b c a b c = true := by simp [veB]
theorem ceq_sub (s : Int) (j : Jb) (n a b c : Int) (W : World) : (Op.equalIn 10000 28 (.agg #[.int .i64 s, .int .i64 j.id, .int .i64 j.pr, .int .i64 j.nd, .int .i64 j.na, .int .i64 j.nb, .int .i64 j.nc, .int .i64 j.la, .int .i64 j.lb, .int .i64 j.lc, .int .i64 j.wl, .int .i64 j.lv, .int .i64 n, .int .i64 a, .int .i64 b, .int .i64 c]) (.agg #[.int .i64 s, .int .i64 j.id, .int .i64 j.pr, .int .i64 j.nd, .int .i64 j.na, .int .i64 j.nb, .int .i64 j.nc, .int .i64 j.la, .int .i64 j.lb, .int .i64 j.lc, .int .i64 j.wl, .int .i64 j.lv, .int .i64 0, .int .i64 0, .int .i64 0, .int .i64 0])).run Tryz.prog W = .ok (n == 0 && veB a b c 0 0 0) W := by
  have h := eq_cmd 9996 s j n a b c s j 0 0 0 0 W
  rw [show ceB s j n a b c s j 0 0 0 0 = (n == 0 && veB a b c 0 0 0) by simp [ceB, jeB_self]] at h
  exact h
theorem ceq_num (s : Int) (j : Jb) (n a b c : Int) (W : World) : (Op.equalIn 10000 28 (.agg #[.int .i64 s, .int .i64 j.id, .int .i64 j.pr, .int .i64 j.nd, .int .i64 j.na, .int .i64 j.nb, .int .i64 j.nc, .int .i64 j.la, .int .i64 j.lb, .int .i64 j.lc, .int .i64 j.wl, .int .i64 j.lv, .int .i64 n, .int .i64 a, .int .i64 b, .int .i64 c]) (.agg #[.int .i64 s, .int .i64 0, .int .i64 0, .int .i64 0, .int .i64 0, .int .i64 0, .int .i64 0, .int .i64 0, .int .i64 0, .int .i64 0, .int .i64 0, .int .i64 0, .int .i64 n, .int .i64 0, .int .i64 0, .int .i64 0])).run Tryz.prog W = .ok (jeB j jb0 && veB a b c 0 0 0) W := by
  have h := eq_cmd 9996 s j n a b c s jb0 n 0 0 0 W
  rw [show ceB s j n a b c s jb0 n 0 0 0 = (jeB j jb0 && veB a b c 0 0 0) by simp [ceB]] at h
  exact h
theorem ceq_lic (s : Int) (j : Jb) (n a b c : Int) (W : World) : (Op.equalIn 10000 28 (.agg #[.int .i64 s, .int .i64 j.id, .int .i64 j.pr, .int .i64 j.nd, .int .i64 j.na, .int .i64 j.nb, .int .i64 j.nc, .int .i64 j.la, .int .i64 j.lb, .int .i64 j.lc, .int .i64 j.wl, .int .i64 j.lv, .int .i64 n, .int .i64 a, .int .i64 b, .int .i64 c]) (.agg #[.int .i64 s, .int .i64 0, .int .i64 0, .int .i64 0, .int .i64 0, .int .i64 0, .int .i64 0, .int .i64 0, .int .i64 0, .int .i64 0, .int .i64 0, .int .i64 0, .int .i64 0, .int .i64 a, .int .i64 b, .int .i64 c])).run Tryz.prog W = .ok (jeB j jb0 && n == 0) W := by
  have h := eq_cmd 9996 s j n a b c s jb0 0 a b c W
  rw [show ceB s j n a b c s jb0 0 a b c = (jeB j jb0 && n == 0) by simp [ceB, veB_self]] at h
  exact h

set_option maxHeartbeats 2000000 in
set_option maxRecDepth 100000 in
theorem implCmdOk_1 (j : Jb) (n a b c : Int) (w : World) : Calls Tryz.prog 28 #[.agg #[.int .i64 1, .int .i64 j.id, .int .i64 j.pr, .int .i64 j.nd, .int .i64 j.na, .int .i64 j.nb, .int .i64 j.nc, .int .i64 j.la, .int .i64 j.lb, .int .i64 j.lc, .int .i64 j.wl, .int .i64 j.lv, .int .i64 n, .int .i64 a, .int .i64 b, .int .i64 c]] w fun e w' => e = .returned (.bool (cmdB 1 j n a b c)) ∧ Below w.heap.size w w' := by
  have heq := ceq_sub 1 j n a b c
  have hd := show cmdB 1 j n a b c = (jobB j && _) from rfl
  generalize cmdB 1 j n a b c = res at hd
  have HD : Hid _ := hd
  clear hd
  go_enter Tryz.func28, Tryz.ntmps28
  go_wp2_with fail
  have HR : Hid (Row (w.alloc (.cells #[.int .i64 1, .int .i64 j.id, .int .i64 j.pr, .int .i64 j.nd, .int .i64 j.na, .int .i64 j.nb, .int .i64 j.nc, .int .i64 j.la, .int .i64 j.lb, .int .i64 j.lc, .int .i64 j.wl, .int .i64 j.lv, .int .i64 n, .int .i64 a, .int .i64 b, .int .i64 c] 28)) w.heap.size [.int .i64 1, .int .i64 j.id, .int .i64 j.pr, .int .i64 j.nd, .int .i64 j.na, .int .i64 j.nb, .int .i64 j.nc, .int .i64 j.la, .int .i64 j.lb, .int .i64 j.lc, .int .i64 j.wl, .int .i64 j.lv, .int .i64 n, .int .i64 a, .int .i64 b, .int .i64 c]) := row_fresh w [.int .i64 1, .int .i64 j.id, .int .i64 j.pr, .int .i64 j.nd, .int .i64 j.na, .int .i64 j.nb, .int .i64 j.nc, .int .i64 j.la, .int .i64 j.lb, .int .i64 j.lc, .int .i64 j.wl, .int .i64 j.lv, .int .i64 n, .int .i64 a, .int .i64 b, .int .i64 c] 28
  have HB : Hid (Below w.heap.size w (w.alloc (.cells #[.int .i64 1, .int .i64 j.id, .int .i64 j.pr, .int .i64 j.nd, .int .i64 j.na, .int .i64 j.nb, .int .i64 j.nc, .int .i64 j.la, .int .i64 j.lb, .int .i64 j.lc, .int .i64 j.wl, .int .i64 j.lv, .int .i64 n, .int .i64 a, .int .i64 b, .int .i64 c] 28))) := low_alloc _ _
  generalize w.alloc (.cells #[.int .i64 1, .int .i64 j.id, .int .i64 j.pr, .int .i64 j.nd, .int .i64 j.na, .int .i64 j.nb, .int .i64 j.nc, .int .i64 j.la, .int .i64 j.lb, .int .i64 j.lc, .int .i64 j.wl, .int .i64 j.lv, .int .i64 n, .int .i64 a, .int .i64 b, .int .i64 c] 28) = w0 at HR HB
  refine (implJobOk_c j _).mono ?_
  rintro e w1 ⟨rfl, hb⟩
  have HB1 : Hid (Below w.heap.size w w1) := below_then HB.out (by first | exact hb | (subst hb; exact Below.refl _ _))
  have HR1 : Hid (Row w1 w.heap.size [.int .i64 1, .int .i64 j.id, .int .i64 j.pr, .int .i64 j.nd, .int .i64 j.na, .int .i64 j.nb, .int .i64 j.nc, .int .i64 j.la, .int .i64 j.lb, .int .i64 j.lc, .int .i64 j.wl, .int .i64 j.lv, .int .i64 n, .int .i64 a, .int .i64 b, .int .i64 c]) := HR.out.below (by first | exact hb | (subst hb; exact Below.refl _ _))
  clear hb HR HB
  cases hj : jobB j
  · rw [hj] at HD
    go_wp2_with fail
    go_ret
    exact ⟨by rw [HD.out]; rfl, HB1.out⟩
  · rw [hj] at HD
    have d0 := HR1.out.cell 0 _ rfl
    have d1 := HR1.out.cell 1 _ rfl
    have d2 := HR1.out.cell 2 _ rfl
    have d3 := HR1.out.cell 3 _ rfl
    have d4 := HR1.out.cell 4 _ rfl
    have d5 := HR1.out.cell 5 _ rfl
    have d6 := HR1.out.cell 6 _ rfl
    have d7 := HR1.out.cell 7 _ rfl
    have d8 := HR1.out.cell 8 _ rfl
    have d9 := HR1.out.cell 9 _ rfl
    have d10 := HR1.out.cell 10 _ rfl
    have d11 := HR1.out.cell 11 _ rfl
    have d12 := HR1.out.cell 12 _ rfl
    have d13 := HR1.out.cell 13 _ rfl
    have d14 := HR1.out.cell 14 _ rfl
    have d15 := HR1.out.cell 15 _ rfl
    go_wp2_with fail
    go_ret
    exact ⟨by rw [HD.out]; rfl, HB1.out⟩
set_option maxHeartbeats 2000000 in
set_option maxRecDepth 100000 in
theorem implCmdOk_2 (j : Jb) (n a b c : Int) (w : World) : Calls Tryz.prog 28 #[.agg #[.int .i64 2, .int .i64 j.id, .int .i64 j.pr, .int .i64 j.nd, .int .i64 j.na, .int .i64 j.nb, .int .i64 j.nc, .int .i64 j.la, .int .i64 j.lb, .int .i64 j.lc, .int .i64 j.wl, .int .i64 j.lv, .int .i64 n, .int .i64 a, .int .i64 b, .int .i64 c]] w fun e w' => e = .returned (.bool (cmdB 2 j n a b c)) ∧ Below w.heap.size w w' := by
  have heq := ceq_num 2 j n a b c
  have hd := show cmdB 2 j n a b c = (btwB 1 n 999 && _) from rfl
  generalize cmdB 2 j n a b c = res at hd
  have HD : Hid _ := hd
  clear hd
  go_enter Tryz.func28, Tryz.ntmps28
  go_wp2_with fail
  have HR : Hid (Row (w.alloc (.cells #[.int .i64 2, .int .i64 j.id, .int .i64 j.pr, .int .i64 j.nd, .int .i64 j.na, .int .i64 j.nb, .int .i64 j.nc, .int .i64 j.la, .int .i64 j.lb, .int .i64 j.lc, .int .i64 j.wl, .int .i64 j.lv, .int .i64 n, .int .i64 a, .int .i64 b, .int .i64 c] 28)) w.heap.size [.int .i64 2, .int .i64 j.id, .int .i64 j.pr, .int .i64 j.nd, .int .i64 j.na, .int .i64 j.nb, .int .i64 j.nc, .int .i64 j.la, .int .i64 j.lb, .int .i64 j.lc, .int .i64 j.wl, .int .i64 j.lv, .int .i64 n, .int .i64 a, .int .i64 b, .int .i64 c]) := row_fresh w [.int .i64 2, .int .i64 j.id, .int .i64 j.pr, .int .i64 j.nd, .int .i64 j.na, .int .i64 j.nb, .int .i64 j.nc, .int .i64 j.la, .int .i64 j.lb, .int .i64 j.lc, .int .i64 j.wl, .int .i64 j.lv, .int .i64 n, .int .i64 a, .int .i64 b, .int .i64 c] 28
  have HB : Hid (Below w.heap.size w (w.alloc (.cells #[.int .i64 2, .int .i64 j.id, .int .i64 j.pr, .int .i64 j.nd, .int .i64 j.na, .int .i64 j.nb, .int .i64 j.nc, .int .i64 j.la, .int .i64 j.lb, .int .i64 j.lc, .int .i64 j.wl, .int .i64 j.lv, .int .i64 n, .int .i64 a, .int .i64 b, .int .i64 c] 28))) := low_alloc _ _
  generalize w.alloc (.cells #[.int .i64 2, .int .i64 j.id, .int .i64 j.pr, .int .i64 j.nd, .int .i64 j.na, .int .i64 j.nb, .int .i64 j.nc, .int .i64 j.la, .int .i64 j.lb, .int .i64 j.lc, .int .i64 j.wl, .int .i64 j.lv, .int .i64 n, .int .i64 a, .int .i64 b, .int .i64 c] 28) = w0 at HR HB
  refine (between_c 1 n 999 _).mono ?_
  rintro e w1 ⟨rfl, hb⟩
  have HB1 : Hid (Below w.heap.size w w1) := below_then HB.out (by first | exact hb | (subst hb; exact Below.refl _ _))
  have HR1 : Hid (Row w1 w.heap.size [.int .i64 2, .int .i64 j.id, .int .i64 j.pr, .int .i64 j.nd, .int .i64 j.na, .int .i64 j.nb, .int .i64 j.nc, .int .i64 j.la, .int .i64 j.lb, .int .i64 j.lc, .int .i64 j.wl, .int .i64 j.lv, .int .i64 n, .int .i64 a, .int .i64 b, .int .i64 c]) := HR.out.below (by first | exact hb | (subst hb; exact Below.refl _ _))
  clear hb HR HB
  cases hj : btwB 1 n 999
  · rw [hj] at HD
    go_wp2_with fail
    go_ret
    exact ⟨by rw [HD.out]; rfl, HB1.out⟩
  · rw [hj] at HD
    have d0 := HR1.out.cell 0 _ rfl
    have d1 := HR1.out.cell 1 _ rfl
    have d2 := HR1.out.cell 2 _ rfl
    have d3 := HR1.out.cell 3 _ rfl
    have d4 := HR1.out.cell 4 _ rfl
    have d5 := HR1.out.cell 5 _ rfl
    have d6 := HR1.out.cell 6 _ rfl
    have d7 := HR1.out.cell 7 _ rfl
    have d8 := HR1.out.cell 8 _ rfl
    have d9 := HR1.out.cell 9 _ rfl
    have d10 := HR1.out.cell 10 _ rfl
    have d11 := HR1.out.cell 11 _ rfl
    have d12 := HR1.out.cell 12 _ rfl
    have d13 := HR1.out.cell 13 _ rfl
    have d14 := HR1.out.cell 14 _ rfl
    have d15 := HR1.out.cell 15 _ rfl
    go_wp2_with fail
    go_ret
    exact ⟨by rw [HD.out]; rfl, HB1.out⟩
set_option maxHeartbeats 2000000 in
set_option maxRecDepth 100000 in
theorem implCmdOk_3 (j : Jb) (n a b c : Int) (w : World) : Calls Tryz.prog 28 #[.agg #[.int .i64 3, .int .i64 j.id, .int .i64 j.pr, .int .i64 j.nd, .int .i64 j.na, .int .i64 j.nb, .int .i64 j.nc, .int .i64 j.la, .int .i64 j.lb, .int .i64 j.lc, .int .i64 j.wl, .int .i64 j.lv, .int .i64 n, .int .i64 a, .int .i64 b, .int .i64 c]] w fun e w' => e = .returned (.bool (cmdB 3 j n a b c)) ∧ Below w.heap.size w w' := by
  have heq := ceq_num 3 j n a b c
  have hd := show cmdB 3 j n a b c = (btwB 1 n 999 && _) from rfl
  generalize cmdB 3 j n a b c = res at hd
  have HD : Hid _ := hd
  clear hd
  go_enter Tryz.func28, Tryz.ntmps28
  go_wp2_with fail
  have HR : Hid (Row (w.alloc (.cells #[.int .i64 3, .int .i64 j.id, .int .i64 j.pr, .int .i64 j.nd, .int .i64 j.na, .int .i64 j.nb, .int .i64 j.nc, .int .i64 j.la, .int .i64 j.lb, .int .i64 j.lc, .int .i64 j.wl, .int .i64 j.lv, .int .i64 n, .int .i64 a, .int .i64 b, .int .i64 c] 28)) w.heap.size [.int .i64 3, .int .i64 j.id, .int .i64 j.pr, .int .i64 j.nd, .int .i64 j.na, .int .i64 j.nb, .int .i64 j.nc, .int .i64 j.la, .int .i64 j.lb, .int .i64 j.lc, .int .i64 j.wl, .int .i64 j.lv, .int .i64 n, .int .i64 a, .int .i64 b, .int .i64 c]) := row_fresh w [.int .i64 3, .int .i64 j.id, .int .i64 j.pr, .int .i64 j.nd, .int .i64 j.na, .int .i64 j.nb, .int .i64 j.nc, .int .i64 j.la, .int .i64 j.lb, .int .i64 j.lc, .int .i64 j.wl, .int .i64 j.lv, .int .i64 n, .int .i64 a, .int .i64 b, .int .i64 c] 28
  have HB : Hid (Below w.heap.size w (w.alloc (.cells #[.int .i64 3, .int .i64 j.id, .int .i64 j.pr, .int .i64 j.nd, .int .i64 j.na, .int .i64 j.nb, .int .i64 j.nc, .int .i64 j.la, .int .i64 j.lb, .int .i64 j.lc, .int .i64 j.wl, .int .i64 j.lv, .int .i64 n, .int .i64 a, .int .i64 b, .int .i64 c] 28))) := low_alloc _ _
  generalize w.alloc (.cells #[.int .i64 3, .int .i64 j.id, .int .i64 j.pr, .int .i64 j.nd, .int .i64 j.na, .int .i64 j.nb, .int .i64 j.nc, .int .i64 j.la, .int .i64 j.lb, .int .i64 j.lc, .int .i64 j.wl, .int .i64 j.lv, .int .i64 n, .int .i64 a, .int .i64 b, .int .i64 c] 28) = w0 at HR HB
  refine (between_c 1 n 999 _).mono ?_
  rintro e w1 ⟨rfl, hb⟩
  have HB1 : Hid (Below w.heap.size w w1) := below_then HB.out (by first | exact hb | (subst hb; exact Below.refl _ _))
  have HR1 : Hid (Row w1 w.heap.size [.int .i64 3, .int .i64 j.id, .int .i64 j.pr, .int .i64 j.nd, .int .i64 j.na, .int .i64 j.nb, .int .i64 j.nc, .int .i64 j.la, .int .i64 j.lb, .int .i64 j.lc, .int .i64 j.wl, .int .i64 j.lv, .int .i64 n, .int .i64 a, .int .i64 b, .int .i64 c]) := HR.out.below (by first | exact hb | (subst hb; exact Below.refl _ _))
  clear hb HR HB
  cases hj : btwB 1 n 999
  · rw [hj] at HD
    go_wp2_with fail
    go_ret
    exact ⟨by rw [HD.out]; rfl, HB1.out⟩
  · rw [hj] at HD
    have d0 := HR1.out.cell 0 _ rfl
    have d1 := HR1.out.cell 1 _ rfl
    have d2 := HR1.out.cell 2 _ rfl
    have d3 := HR1.out.cell 3 _ rfl
    have d4 := HR1.out.cell 4 _ rfl
    have d5 := HR1.out.cell 5 _ rfl
    have d6 := HR1.out.cell 6 _ rfl
    have d7 := HR1.out.cell 7 _ rfl
    have d8 := HR1.out.cell 8 _ rfl
    have d9 := HR1.out.cell 9 _ rfl
    have d10 := HR1.out.cell 10 _ rfl
    have d11 := HR1.out.cell 11 _ rfl
    have d12 := HR1.out.cell 12 _ rfl
    have d13 := HR1.out.cell 13 _ rfl
    have d14 := HR1.out.cell 14 _ rfl
    have d15 := HR1.out.cell 15 _ rfl
    go_wp2_with fail
    go_ret
    exact ⟨by rw [HD.out]; rfl, HB1.out⟩
set_option maxHeartbeats 2000000 in
set_option maxRecDepth 100000 in
theorem implCmdOk_4 (j : Jb) (n a b c : Int) (w : World) : Calls Tryz.prog 28 #[.agg #[.int .i64 4, .int .i64 j.id, .int .i64 j.pr, .int .i64 j.nd, .int .i64 j.na, .int .i64 j.nb, .int .i64 j.nc, .int .i64 j.la, .int .i64 j.lb, .int .i64 j.lc, .int .i64 j.wl, .int .i64 j.lv, .int .i64 n, .int .i64 a, .int .i64 b, .int .i64 c]] w fun e w' => e = .returned (.bool (cmdB 4 j n a b c)) ∧ Below w.heap.size w w' := by
  have heq := ceq_num 4 j n a b c
  have hd := show cmdB 4 j n a b c = (btwB 0 n 23 && _) from rfl
  generalize cmdB 4 j n a b c = res at hd
  have HD : Hid _ := hd
  clear hd
  go_enter Tryz.func28, Tryz.ntmps28
  go_wp2_with fail
  have HR : Hid (Row (w.alloc (.cells #[.int .i64 4, .int .i64 j.id, .int .i64 j.pr, .int .i64 j.nd, .int .i64 j.na, .int .i64 j.nb, .int .i64 j.nc, .int .i64 j.la, .int .i64 j.lb, .int .i64 j.lc, .int .i64 j.wl, .int .i64 j.lv, .int .i64 n, .int .i64 a, .int .i64 b, .int .i64 c] 28)) w.heap.size [.int .i64 4, .int .i64 j.id, .int .i64 j.pr, .int .i64 j.nd, .int .i64 j.na, .int .i64 j.nb, .int .i64 j.nc, .int .i64 j.la, .int .i64 j.lb, .int .i64 j.lc, .int .i64 j.wl, .int .i64 j.lv, .int .i64 n, .int .i64 a, .int .i64 b, .int .i64 c]) := row_fresh w [.int .i64 4, .int .i64 j.id, .int .i64 j.pr, .int .i64 j.nd, .int .i64 j.na, .int .i64 j.nb, .int .i64 j.nc, .int .i64 j.la, .int .i64 j.lb, .int .i64 j.lc, .int .i64 j.wl, .int .i64 j.lv, .int .i64 n, .int .i64 a, .int .i64 b, .int .i64 c] 28
  have HB : Hid (Below w.heap.size w (w.alloc (.cells #[.int .i64 4, .int .i64 j.id, .int .i64 j.pr, .int .i64 j.nd, .int .i64 j.na, .int .i64 j.nb, .int .i64 j.nc, .int .i64 j.la, .int .i64 j.lb, .int .i64 j.lc, .int .i64 j.wl, .int .i64 j.lv, .int .i64 n, .int .i64 a, .int .i64 b, .int .i64 c] 28))) := low_alloc _ _
  generalize w.alloc (.cells #[.int .i64 4, .int .i64 j.id, .int .i64 j.pr, .int .i64 j.nd, .int .i64 j.na, .int .i64 j.nb, .int .i64 j.nc, .int .i64 j.la, .int .i64 j.lb, .int .i64 j.lc, .int .i64 j.wl, .int .i64 j.lv, .int .i64 n, .int .i64 a, .int .i64 b, .int .i64 c] 28) = w0 at HR HB
  refine (between_c 0 n 23 _).mono ?_
  rintro e w1 ⟨rfl, hb⟩
  have HB1 : Hid (Below w.heap.size w w1) := below_then HB.out (by first | exact hb | (subst hb; exact Below.refl _ _))
  have HR1 : Hid (Row w1 w.heap.size [.int .i64 4, .int .i64 j.id, .int .i64 j.pr, .int .i64 j.nd, .int .i64 j.na, .int .i64 j.nb, .int .i64 j.nc, .int .i64 j.la, .int .i64 j.lb, .int .i64 j.lc, .int .i64 j.wl, .int .i64 j.lv, .int .i64 n, .int .i64 a, .int .i64 b, .int .i64 c]) := HR.out.below (by first | exact hb | (subst hb; exact Below.refl _ _))
  clear hb HR HB
  cases hj : btwB 0 n 23
  · rw [hj] at HD
    go_wp2_with fail
    go_ret
    exact ⟨by rw [HD.out]; rfl, HB1.out⟩
  · rw [hj] at HD
    have d0 := HR1.out.cell 0 _ rfl
    have d1 := HR1.out.cell 1 _ rfl
    have d2 := HR1.out.cell 2 _ rfl
    have d3 := HR1.out.cell 3 _ rfl
    have d4 := HR1.out.cell 4 _ rfl
    have d5 := HR1.out.cell 5 _ rfl
    have d6 := HR1.out.cell 6 _ rfl
    have d7 := HR1.out.cell 7 _ rfl
    have d8 := HR1.out.cell 8 _ rfl
    have d9 := HR1.out.cell 9 _ rfl
    have d10 := HR1.out.cell 10 _ rfl
    have d11 := HR1.out.cell 11 _ rfl
    have d12 := HR1.out.cell 12 _ rfl
    have d13 := HR1.out.cell 13 _ rfl
    have d14 := HR1.out.cell 14 _ rfl
    have d15 := HR1.out.cell 15 _ rfl
    go_wp2_with fail
    go_ret
    exact ⟨by rw [HD.out]; rfl, HB1.out⟩
set_option maxHeartbeats 2000000 in
set_option maxRecDepth 100000 in
theorem implCmdOk_5 (j : Jb) (n a b c : Int) (w : World) : Calls Tryz.prog 28 #[.agg #[.int .i64 5, .int .i64 j.id, .int .i64 j.pr, .int .i64 j.nd, .int .i64 j.na, .int .i64 j.nb, .int .i64 j.nc, .int .i64 j.la, .int .i64 j.lb, .int .i64 j.lc, .int .i64 j.wl, .int .i64 j.lv, .int .i64 n, .int .i64 a, .int .i64 b, .int .i64 c]] w fun e w' => e = .returned (.bool (cmdB 5 j n a b c)) ∧ Below w.heap.size w w' := by
  have heq := ceq_num 5 j n a b c
  have hd := show cmdB 5 j n a b c = (btwB 0 n 23 && _) from rfl
  generalize cmdB 5 j n a b c = res at hd
  have HD : Hid _ := hd
  clear hd
  go_enter Tryz.func28, Tryz.ntmps28
  go_wp2_with fail
  have HR : Hid (Row (w.alloc (.cells #[.int .i64 5, .int .i64 j.id, .int .i64 j.pr, .int .i64 j.nd, .int .i64 j.na, .int .i64 j.nb, .int .i64 j.nc, .int .i64 j.la, .int .i64 j.lb, .int .i64 j.lc, .int .i64 j.wl, .int .i64 j.lv, .int .i64 n, .int .i64 a, .int .i64 b, .int .i64 c] 28)) w.heap.size [.int .i64 5, .int .i64 j.id, .int .i64 j.pr, .int .i64 j.nd, .int .i64 j.na, .int .i64 j.nb, .int .i64 j.nc, .int .i64 j.la, .int .i64 j.lb, .int .i64 j.lc, .int .i64 j.wl, .int .i64 j.lv, .int .i64 n, .int .i64 a, .int .i64 b, .int .i64 c]) := row_fresh w [.int .i64 5, .int .i64 j.id, .int .i64 j.pr, .int .i64 j.nd, .int .i64 j.na, .int .i64 j.nb, .int .i64 j.nc, .int .i64 j.la, .int .i64 j.lb, .int .i64 j.lc, .int .i64 j.wl, .int .i64 j.lv, .int .i64 n, .int .i64 a, .int .i64 b, .int .i64 c] 28
  have HB : Hid (Below w.heap.size w (w.alloc (.cells #[.int .i64 5, .int .i64 j.id, .int .i64 j.pr, .int .i64 j.nd, .int .i64 j.na, .int .i64 j.nb, .int .i64 j.nc, .int .i64 j.la, .int .i64 j.lb, .int .i64 j.lc, .int .i64 j.wl, .int .i64 j.lv, .int .i64 n, .int .i64 a, .int .i64 b, .int .i64 c] 28))) := low_alloc _ _
  generalize w.alloc (.cells #[.int .i64 5, .int .i64 j.id, .int .i64 j.pr, .int .i64 j.nd, .int .i64 j.na, .int .i64 j.nb, .int .i64 j.nc, .int .i64 j.la, .int .i64 j.lb, .int .i64 j.lc, .int .i64 j.wl, .int .i64 j.lv, .int .i64 n, .int .i64 a, .int .i64 b, .int .i64 c] 28) = w0 at HR HB
  refine (between_c 0 n 23 _).mono ?_
  rintro e w1 ⟨rfl, hb⟩
  have HB1 : Hid (Below w.heap.size w w1) := below_then HB.out (by first | exact hb | (subst hb; exact Below.refl _ _))
  have HR1 : Hid (Row w1 w.heap.size [.int .i64 5, .int .i64 j.id, .int .i64 j.pr, .int .i64 j.nd, .int .i64 j.na, .int .i64 j.nb, .int .i64 j.nc, .int .i64 j.la, .int .i64 j.lb, .int .i64 j.lc, .int .i64 j.wl, .int .i64 j.lv, .int .i64 n, .int .i64 a, .int .i64 b, .int .i64 c]) := HR.out.below (by first | exact hb | (subst hb; exact Below.refl _ _))
  clear hb HR HB
  cases hj : btwB 0 n 23
  · rw [hj] at HD
    go_wp2_with fail
    go_ret
    exact ⟨by rw [HD.out]; rfl, HB1.out⟩
  · rw [hj] at HD
    have d0 := HR1.out.cell 0 _ rfl
    have d1 := HR1.out.cell 1 _ rfl
    have d2 := HR1.out.cell 2 _ rfl
    have d3 := HR1.out.cell 3 _ rfl
    have d4 := HR1.out.cell 4 _ rfl
    have d5 := HR1.out.cell 5 _ rfl
    have d6 := HR1.out.cell 6 _ rfl
    have d7 := HR1.out.cell 7 _ rfl
    have d8 := HR1.out.cell 8 _ rfl
    have d9 := HR1.out.cell 9 _ rfl
    have d10 := HR1.out.cell 10 _ rfl
    have d11 := HR1.out.cell 11 _ rfl
    have d12 := HR1.out.cell 12 _ rfl
    have d13 := HR1.out.cell 13 _ rfl
    have d14 := HR1.out.cell 14 _ rfl
    have d15 := HR1.out.cell 15 _ rfl
    go_wp2_with fail
    go_ret
    exact ⟨by rw [HD.out]; rfl, HB1.out⟩
set_option maxHeartbeats 2000000 in
set_option maxRecDepth 100000 in
theorem implCmdOk_6 (j : Jb) (n a b c : Int) (w : World) : Calls Tryz.prog 28 #[.agg #[.int .i64 6, .int .i64 j.id, .int .i64 j.pr, .int .i64 j.nd, .int .i64 j.na, .int .i64 j.nb, .int .i64 j.nc, .int .i64 j.la, .int .i64 j.lb, .int .i64 j.lc, .int .i64 j.wl, .int .i64 j.lv, .int .i64 n, .int .i64 a, .int .i64 b, .int .i64 c]] w fun e w' => e = .returned (.bool (cmdB 6 j n a b c)) ∧ Below w.heap.size w w' := by
  have heq := ceq_lic 6 j n a b c
  have hd := show cmdB 6 j n a b c = (vokB a b c && _) from rfl
  generalize cmdB 6 j n a b c = res at hd
  have HD : Hid _ := hd
  clear hd
  go_enter Tryz.func28, Tryz.ntmps28
  go_wp2_with fail
  have HR : Hid (Row (w.alloc (.cells #[.int .i64 6, .int .i64 j.id, .int .i64 j.pr, .int .i64 j.nd, .int .i64 j.na, .int .i64 j.nb, .int .i64 j.nc, .int .i64 j.la, .int .i64 j.lb, .int .i64 j.lc, .int .i64 j.wl, .int .i64 j.lv, .int .i64 n, .int .i64 a, .int .i64 b, .int .i64 c] 28)) w.heap.size [.int .i64 6, .int .i64 j.id, .int .i64 j.pr, .int .i64 j.nd, .int .i64 j.na, .int .i64 j.nb, .int .i64 j.nc, .int .i64 j.la, .int .i64 j.lb, .int .i64 j.lc, .int .i64 j.wl, .int .i64 j.lv, .int .i64 n, .int .i64 a, .int .i64 b, .int .i64 c]) := row_fresh w [.int .i64 6, .int .i64 j.id, .int .i64 j.pr, .int .i64 j.nd, .int .i64 j.na, .int .i64 j.nb, .int .i64 j.nc, .int .i64 j.la, .int .i64 j.lb, .int .i64 j.lc, .int .i64 j.wl, .int .i64 j.lv, .int .i64 n, .int .i64 a, .int .i64 b, .int .i64 c] 28
  have HB : Hid (Below w.heap.size w (w.alloc (.cells #[.int .i64 6, .int .i64 j.id, .int .i64 j.pr, .int .i64 j.nd, .int .i64 j.na, .int .i64 j.nb, .int .i64 j.nc, .int .i64 j.la, .int .i64 j.lb, .int .i64 j.lc, .int .i64 j.wl, .int .i64 j.lv, .int .i64 n, .int .i64 a, .int .i64 b, .int .i64 c] 28))) := low_alloc _ _
  generalize w.alloc (.cells #[.int .i64 6, .int .i64 j.id, .int .i64 j.pr, .int .i64 j.nd, .int .i64 j.na, .int .i64 j.nb, .int .i64 j.nc, .int .i64 j.la, .int .i64 j.lb, .int .i64 j.lc, .int .i64 j.wl, .int .i64 j.lv, .int .i64 n, .int .i64 a, .int .i64 b, .int .i64 c] 28) = w0 at HR HB
  refine (implVecOk_c a b c _).mono ?_
  rintro e w1 ⟨rfl, hb⟩
  have HB1 : Hid (Below w.heap.size w w1) := below_then HB.out (by first | exact hb | (subst hb; exact Below.refl _ _))
  have HR1 : Hid (Row w1 w.heap.size [.int .i64 6, .int .i64 j.id, .int .i64 j.pr, .int .i64 j.nd, .int .i64 j.na, .int .i64 j.nb, .int .i64 j.nc, .int .i64 j.la, .int .i64 j.lb, .int .i64 j.lc, .int .i64 j.wl, .int .i64 j.lv, .int .i64 n, .int .i64 a, .int .i64 b, .int .i64 c]) := HR.out.below (by first | exact hb | (subst hb; exact Below.refl _ _))
  clear hb HR HB
  cases hj : vokB a b c
  · rw [hj] at HD
    go_wp2_with fail
    go_ret
    exact ⟨by rw [HD.out]; rfl, HB1.out⟩
  · rw [hj] at HD
    have d0 := HR1.out.cell 0 _ rfl
    have d1 := HR1.out.cell 1 _ rfl
    have d2 := HR1.out.cell 2 _ rfl
    have d3 := HR1.out.cell 3 _ rfl
    have d4 := HR1.out.cell 4 _ rfl
    have d5 := HR1.out.cell 5 _ rfl
    have d6 := HR1.out.cell 6 _ rfl
    have d7 := HR1.out.cell 7 _ rfl
    have d8 := HR1.out.cell 8 _ rfl
    have d9 := HR1.out.cell 9 _ rfl
    have d10 := HR1.out.cell 10 _ rfl
    have d11 := HR1.out.cell 11 _ rfl
    have d12 := HR1.out.cell 12 _ rfl
    have d13 := HR1.out.cell 13 _ rfl
    have d14 := HR1.out.cell 14 _ rfl
    have d15 := HR1.out.cell 15 _ rfl
    go_wp2_with fail
    go_ret
    exact ⟨by rw [HD.out]; rfl, HB1.out⟩
set_option maxHeartbeats 2000000 in
set_option maxRecDepth 100000 in
theorem implCmdOk_7 (j : Jb) (n a b c : Int) (w : World) : Calls Tryz.prog 28 #[.agg #[.int .i64 7, .int .i64 j.id, .int .i64 j.pr, .int .i64 j.nd, .int .i64 j.na, .int .i64 j.nb, .int .i64 j.nc, .int .i64 j.la, .int .i64 j.lb, .int .i64 j.lc, .int .i64 j.wl, .int .i64 j.lv, .int .i64 n, .int .i64 a, .int .i64 b, .int .i64 c]] w fun e w' => e = .returned (.bool (cmdB 7 j n a b c)) ∧ Below w.heap.size w w' := by
  have heq := ceq_num 7 j n a b c
  have hd := show cmdB 7 j n a b c = (timB n && _) from rfl
  generalize cmdB 7 j n a b c = res at hd
  have HD : Hid _ := hd
  clear hd
  go_enter Tryz.func28, Tryz.ntmps28
  go_wp2_with fail
  have HR : Hid (Row (w.alloc (.cells #[.int .i64 7, .int .i64 j.id, .int .i64 j.pr, .int .i64 j.nd, .int .i64 j.na, .int .i64 j.nb, .int .i64 j.nc, .int .i64 j.la, .int .i64 j.lb, .int .i64 j.lc, .int .i64 j.wl, .int .i64 j.lv, .int .i64 n, .int .i64 a, .int .i64 b, .int .i64 c] 28)) w.heap.size [.int .i64 7, .int .i64 j.id, .int .i64 j.pr, .int .i64 j.nd, .int .i64 j.na, .int .i64 j.nb, .int .i64 j.nc, .int .i64 j.la, .int .i64 j.lb, .int .i64 j.lc, .int .i64 j.wl, .int .i64 j.lv, .int .i64 n, .int .i64 a, .int .i64 b, .int .i64 c]) := row_fresh w [.int .i64 7, .int .i64 j.id, .int .i64 j.pr, .int .i64 j.nd, .int .i64 j.na, .int .i64 j.nb, .int .i64 j.nc, .int .i64 j.la, .int .i64 j.lb, .int .i64 j.lc, .int .i64 j.wl, .int .i64 j.lv, .int .i64 n, .int .i64 a, .int .i64 b, .int .i64 c] 28
  have HB : Hid (Below w.heap.size w (w.alloc (.cells #[.int .i64 7, .int .i64 j.id, .int .i64 j.pr, .int .i64 j.nd, .int .i64 j.na, .int .i64 j.nb, .int .i64 j.nc, .int .i64 j.la, .int .i64 j.lb, .int .i64 j.lc, .int .i64 j.wl, .int .i64 j.lv, .int .i64 n, .int .i64 a, .int .i64 b, .int .i64 c] 28))) := low_alloc _ _
  generalize w.alloc (.cells #[.int .i64 7, .int .i64 j.id, .int .i64 j.pr, .int .i64 j.nd, .int .i64 j.na, .int .i64 j.nb, .int .i64 j.nc, .int .i64 j.la, .int .i64 j.lb, .int .i64 j.lc, .int .i64 j.wl, .int .i64 j.lv, .int .i64 n, .int .i64 a, .int .i64 b, .int .i64 c] 28) = w0 at HR HB
  refine (timeOk_c n _).mono ?_
  rintro e w1 ⟨rfl, hb⟩
  have HB1 : Hid (Below w.heap.size w w1) := below_then HB.out (by first | exact hb | (subst hb; exact Below.refl _ _))
  have HR1 : Hid (Row w1 w.heap.size [.int .i64 7, .int .i64 j.id, .int .i64 j.pr, .int .i64 j.nd, .int .i64 j.na, .int .i64 j.nb, .int .i64 j.nc, .int .i64 j.la, .int .i64 j.lb, .int .i64 j.lc, .int .i64 j.wl, .int .i64 j.lv, .int .i64 n, .int .i64 a, .int .i64 b, .int .i64 c]) := HR.out.below (by first | exact hb | (subst hb; exact Below.refl _ _))
  clear hb HR HB
  cases hj : timB n
  · rw [hj] at HD
    go_wp2_with fail
    go_ret
    exact ⟨by rw [HD.out]; rfl, HB1.out⟩
  · rw [hj] at HD
    have d0 := HR1.out.cell 0 _ rfl
    have d1 := HR1.out.cell 1 _ rfl
    have d2 := HR1.out.cell 2 _ rfl
    have d3 := HR1.out.cell 3 _ rfl
    have d4 := HR1.out.cell 4 _ rfl
    have d5 := HR1.out.cell 5 _ rfl
    have d6 := HR1.out.cell 6 _ rfl
    have d7 := HR1.out.cell 7 _ rfl
    have d8 := HR1.out.cell 8 _ rfl
    have d9 := HR1.out.cell 9 _ rfl
    have d10 := HR1.out.cell 10 _ rfl
    have d11 := HR1.out.cell 11 _ rfl
    have d12 := HR1.out.cell 12 _ rfl
    have d13 := HR1.out.cell 13 _ rfl
    have d14 := HR1.out.cell 14 _ rfl
    have d15 := HR1.out.cell 15 _ rfl
    go_wp2_with fail
    go_ret
    exact ⟨by rw [HD.out]; rfl, HB1.out⟩
end Go.Proofs.YtejleghdgdbbnaaGreatDoor
