/- The text of a step: the specification's. -/
import Derived.Test.YtejleghdgdbbnaaGreatDoorCmD
import Derived.Test.YtejleghdgdbbnaaGreatDoorTcD
namespace Go.Proofs.YtejleghdgdbbnaaGreatDoor
open Go.ChangeShapes Go.WideShapes Go.ChangeAt Go.RowKit

/-- A command that is nothing. -/
def cmz (x : Cm) : Bool := ceB x.s x.j x.n x.a x.b x.c 0 jb0 0 0 0 0
/-- A right step. -/
def stB (k : Int) (x : Cm) (kp : Int) : Bool :=
  if k = 1 then cmdB x.s x.j x.n x.a x.b x.c && kp == 0 else if k = 2 then cmdB x.s x.j x.n x.a x.b x.c && timB kp else if k = 3 ∨ k = 4 then cmz x && kp == 0 else false
/-- The text of a step. -/
def stL (k : Int) (x : Cm) (kp : Int) : List UInt8 :=
  bif stB k x kp then (if k = 1 then [100, 111, 32] ++ ctL x.s x.j x.n x.a x.b x.c else if k = 2 then [116, 111, 114, 110, 32] ++ numL kp ++ [32] ++ ctL x.s x.j x.n x.a x.b x.c else if k = 3 then [99, 114, 97, 115, 104] else [115, 116, 97, 114, 116]) else []
theorem stepFields : (Tryz.prog.fieldsOf 30).toList.map (fun f => (f.name, f.type, f.offset)) = [("Kind", 3, 0), ("Cmd", 28, 1), ("Keep", 3, 17)] := by kernel_rfl
theorem szStep : (Tryz.prog.info? 30).map (·.size) = some 18 := by kernel_rfl
set_option maxRecDepth 100000 in
theorem eq_step (d : Nat) (k : Int) (x : Cm) (p m : Int) (y : Cm) (q : Int) (w : World) : (Op.equalIn (d + 5) 30 (.agg #[.int .i64 k, .int .i64 x.s, .int .i64 x.j.id, .int .i64 x.j.pr, .int .i64 x.j.nd, .int .i64 x.j.na, .int .i64 x.j.nb, .int .i64 x.j.nc, .int .i64 x.j.la, .int .i64 x.j.lb, .int .i64 x.j.lc, .int .i64 x.j.wl, .int .i64 x.j.lv, .int .i64 x.n, .int .i64 x.a, .int .i64 x.b, .int .i64 x.c, .int .i64 p]) (.agg #[.int .i64 m, .int .i64 y.s, .int .i64 y.j.id, .int .i64 y.j.pr, .int .i64 y.j.nd, .int .i64 y.j.na, .int .i64 y.j.nb, .int .i64 y.j.nc, .int .i64 y.j.la, .int .i64 y.j.lb, .int .i64 y.j.lc, .int .i64 y.j.wl, .int .i64 y.j.lv, .int .i64 y.n, .int .i64 y.a, .int .i64 y.b, .int .i64 y.c, .int .i64 q])).run Tryz.prog w = .ok ([k == m, ceB x.s x.j x.n x.a x.b x.c y.s y.j y.n y.a y.b y.c, p == q].all id) w := by
  rw [run_equalIn_struct w (d + 4) 30 _ _ (by rfl) (by kernel_rfl)]
  refine eqf_fits _ _ [k == m, ceB x.s x.j x.n x.a x.b x.c y.s y.j y.n y.a y.b y.c, p == q] stepFields ?_ w
  refine ⟨⟨by decide, .int .i64 k, .int .i64 m, fun w => by simp [go_sem], fun w => by simp [go_sem], fun w => run_equalIn_int w (d + 3) 3 _ _ _ _ Tryz.underlying3⟩, ?_⟩
  refine ⟨⟨by decide, .agg #[.int .i64 x.s, .int .i64 x.j.id, .int .i64 x.j.pr, .int .i64 x.j.nd, .int .i64 x.j.na, .int .i64 x.j.nb, .int .i64 x.j.nc, .int .i64 x.j.la, .int .i64 x.j.lb, .int .i64 x.j.lc, .int .i64 x.j.wl, .int .i64 x.j.lv, .int .i64 x.n, .int .i64 x.a, .int .i64 x.b, .int .i64 x.c], .agg #[.int .i64 y.s, .int .i64 y.j.id, .int .i64 y.j.pr, .int .i64 y.j.nd, .int .i64 y.j.na, .int .i64 y.j.nb, .int .i64 y.j.nc, .int .i64 y.j.la, .int .i64 y.j.lb, .int .i64 y.j.lc, .int .i64 y.j.wl, .int .i64 y.j.lv, .int .i64 y.n, .int .i64 y.a, .int .i64 y.b, .int .i64 y.c], fun w => by simp [go_sem], fun w => by simp [go_sem], fun w => eq_cmd d _ _ _ _ _ _ _ _ _ _ _ _ w⟩, ?_⟩
  exact ⟨⟨by decide, .int .i64 p, .int .i64 q, fun w => by simp [go_sem], fun w => by simp [go_sem], fun w => run_equalIn_int w (d + 3) 3 _ _ _ _ Tryz.underlying3⟩, trivial⟩
theorem seq0 (k : Int) (x : Cm) (p : Int) (W : World) : (Op.equalIn 10000 30 (.agg #[.int .i64 k, .int .i64 x.s, .int .i64 x.j.id, .int .i64 x.j.pr, .int .i64 x.j.nd, .int .i64 x.j.na, .int .i64 x.j.nb, .int .i64 x.j.nc, .int .i64 x.j.la, .int .i64 x.j.lb, .int .i64 x.j.lc, .int .i64 x.j.wl, .int .i64 x.j.lv, .int .i64 x.n, .int .i64 x.a, .int .i64 x.b, .int .i64 x.c, .int .i64 p]) (.agg #[.int .i64 k, .int .i64 0, .int .i64 0, .int .i64 0, .int .i64 0, .int .i64 0, .int .i64 0, .int .i64 0, .int .i64 0, .int .i64 0, .int .i64 0, .int .i64 0, .int .i64 0, .int .i64 0, .int .i64 0, .int .i64 0, .int .i64 0, .int .i64 0])).run Tryz.prog W = .ok (cmz x && p == 0) W := by
  have h := eq_step 9995 k x p k cm0 0 W
  rw [show [k == k, ceB x.s x.j x.n x.a x.b x.c cm0.s cm0.j cm0.n cm0.a cm0.b cm0.c, p == 0].all id = (cmz x && p == 0) by simp [cmz, cm0]] at h
  exact h
theorem ceq0 (x : Cm) (W : World) : (Op.equalIn 10000 28 (.agg #[.int .i64 x.s, .int .i64 x.j.id, .int .i64 x.j.pr, .int .i64 x.j.nd, .int .i64 x.j.na, .int .i64 x.j.nb, .int .i64 x.j.nc, .int .i64 x.j.la, .int .i64 x.j.lb, .int .i64 x.j.lc, .int .i64 x.j.wl, .int .i64 x.j.lv, .int .i64 x.n, .int .i64 x.a, .int .i64 x.b, .int .i64 x.c]) (.agg #[.int .i64 0, .int .i64 0, .int .i64 0, .int .i64 0, .int .i64 0, .int .i64 0, .int .i64 0, .int .i64 0, .int .i64 0, .int .i64 0, .int .i64 0, .int .i64 0, .int .i64 0, .int .i64 0, .int .i64 0, .int .i64 0])).run Tryz.prog W = .ok (cmz x) W := eq_cmd 9996 x.s x.j x.n x.a x.b x.c 0 jb0 0 0 0 0 W
theorem cmz_eq {x : Cm} (h : cmz x = true) : x = cm0 := by
  obtain ⟨s, ⟨j1, j2, j3, j4, j5, j6, j7, j8, j9, j10, j11⟩, n, a, b, c⟩ := x
  simp [cmz, ceB, jeB, veB, jb0] at h
  simp [cm0, jb0, h]
end Go.Proofs.YtejleghdgdbbnaaGreatDoor

namespace Go.Proofs.YtejleghdgdbbnaaGreatDoor
theorem ctL_ne' (x : Cm) (h : cmdB x.s x.j x.n x.a x.b x.c = true) : ctL x.s x.j x.n x.a x.b x.c ≠ [] := by
  rw [ctL, h]
  have h7 := cmdB_seven h
  intro e
  have e2 : (Lib.join (cwL x.s x.j x.n x.a x.b x.c) [32]).length = 0 := by
    have : Lib.join (cwL x.s x.j x.n x.a x.b x.c) [32] = [] := e
    rw [this]; rfl
  rcases h7 with h | h | h | h | h | h | h <;> (rw [h] at e2; simp [cwL, jwL, Lib.join, kwL, kws] at e2)
theorem ba_toL (l : List UInt8) : (⟨l.toArray⟩ : ByteArray).toList = l := by rw [ByteArray.toList_eq]
end Go.Proofs.YtejleghdgdbbnaaGreatDoor

namespace Go.Proofs.YtejleghdgdbbnaaGreatDoor
open Go.ChangeShapes Go.WideShapes Go.ChangeAt Go.RowKit

set_option maxHeartbeats 2000000 in
set_option maxRecDepth 100000 in
theorem implStepOk_no (k : Int) (x : Cm) (kp : Int) (w : World) (h : k < 1 ∨ 4 < k) : Calls Tryz.prog 13 #[.agg #[.int .i64 k, .int .i64 x.s, .int .i64 x.j.id, .int .i64 x.j.pr, .int .i64 x.j.nd, .int .i64 x.j.na, .int .i64 x.j.nb, .int .i64 x.j.nc, .int .i64 x.j.la, .int .i64 x.j.lb, .int .i64 x.j.lc, .int .i64 x.j.wl, .int .i64 x.j.lv, .int .i64 x.n, .int .i64 x.a, .int .i64 x.b, .int .i64 x.c, .int .i64 kp]] w fun e w' => e = .returned (.bool (stB k x kp)) ∧ Below w.heap.size w w' := by
  have hs : stB k x kp = false := by unfold stB; rw [if_neg (by omega), if_neg (by omega), if_neg (by omega)]
  rw [hs]
  have n1 : (k == 1) = false := by simp; omega
  have n2 : (k == 2) = false := by simp; omega
  have n3 : (k == 3) = false := by simp; omega
  have n4 : (k == 4) = false := by simp; omega
  clear h hs
  go_enter Tryz.func13, Tryz.ntmps13
  go_wp2_with fail
  go_ret
  exact ⟨rfl, low_alloc _ _⟩
set_option maxHeartbeats 2000000 in
set_option maxRecDepth 100000 in
theorem implStepOk_3 (x : Cm) (kp : Int) (w : World) : Calls Tryz.prog 13 #[.agg #[.int .i64 3, .int .i64 x.s, .int .i64 x.j.id, .int .i64 x.j.pr, .int .i64 x.j.nd, .int .i64 x.j.na, .int .i64 x.j.nb, .int .i64 x.j.nc, .int .i64 x.j.la, .int .i64 x.j.lb, .int .i64 x.j.lc, .int .i64 x.j.wl, .int .i64 x.j.lv, .int .i64 x.n, .int .i64 x.a, .int .i64 x.b, .int .i64 x.c, .int .i64 kp]] w fun e w' => e = .returned (.bool (stB 3 x kp)) ∧ Below w.heap.size w w' := by
  have heq := seq0 3 x kp
  rw [show stB 3 x kp = (cmz x && kp == 0) from rfl]
  generalize (cmz x && kp == 0) = r at heq ⊢
  go_enter Tryz.func13, Tryz.ntmps13
  go_wp2_with (refine stay_load 30 ?_)
  refine ⟨?_⟩
  have HR : Hid (Row (w.alloc (.cells #[.int .i64 3, .int .i64 x.s, .int .i64 x.j.id, .int .i64 x.j.pr, .int .i64 x.j.nd, .int .i64 x.j.na, .int .i64 x.j.nb, .int .i64 x.j.nc, .int .i64 x.j.la, .int .i64 x.j.lb, .int .i64 x.j.lc, .int .i64 x.j.wl, .int .i64 x.j.lv, .int .i64 x.n, .int .i64 x.a, .int .i64 x.b, .int .i64 x.c, .int .i64 kp] 30)) w.heap.size [.int .i64 3, .int .i64 x.s, .int .i64 x.j.id, .int .i64 x.j.pr, .int .i64 x.j.nd, .int .i64 x.j.na, .int .i64 x.j.nb, .int .i64 x.j.nc, .int .i64 x.j.la, .int .i64 x.j.lb, .int .i64 x.j.lc, .int .i64 x.j.wl, .int .i64 x.j.lv, .int .i64 x.n, .int .i64 x.a, .int .i64 x.b, .int .i64 x.c, .int .i64 kp]) := row_fresh w [.int .i64 3, .int .i64 x.s, .int .i64 x.j.id, .int .i64 x.j.pr, .int .i64 x.j.nd, .int .i64 x.j.na, .int .i64 x.j.nb, .int .i64 x.j.nc, .int .i64 x.j.la, .int .i64 x.j.lb, .int .i64 x.j.lc, .int .i64 x.j.wl, .int .i64 x.j.lv, .int .i64 x.n, .int .i64 x.a, .int .i64 x.b, .int .i64 x.c, .int .i64 kp] 30
  have HB : Hid (Below w.heap.size w (w.alloc (.cells #[.int .i64 3, .int .i64 x.s, .int .i64 x.j.id, .int .i64 x.j.pr, .int .i64 x.j.nd, .int .i64 x.j.na, .int .i64 x.j.nb, .int .i64 x.j.nc, .int .i64 x.j.la, .int .i64 x.j.lb, .int .i64 x.j.lc, .int .i64 x.j.wl, .int .i64 x.j.lv, .int .i64 x.n, .int .i64 x.a, .int .i64 x.b, .int .i64 x.c, .int .i64 kp] 30))) := low_alloc _ _
  generalize w.alloc (.cells #[.int .i64 3, .int .i64 x.s, .int .i64 x.j.id, .int .i64 x.j.pr, .int .i64 x.j.nd, .int .i64 x.j.na, .int .i64 x.j.nb, .int .i64 x.j.nc, .int .i64 x.j.la, .int .i64 x.j.lb, .int .i64 x.j.lc, .int .i64 x.j.wl, .int .i64 x.j.lv, .int .i64 x.n, .int .i64 x.a, .int .i64 x.b, .int .i64 x.c, .int .i64 kp] 30) = w0 at HR HB ⊢
  refine wpList_load_mid rfl 30 _ rfl w.heap.size 0 rfl [.int .i64 3, .int .i64 x.s, .int .i64 x.j.id, .int .i64 x.j.pr, .int .i64 x.j.nd, .int .i64 x.j.na, .int .i64 x.j.nb, .int .i64 x.j.nc, .int .i64 x.j.la, .int .i64 x.j.lb, .int .i64 x.j.lc, .int .i64 x.j.wl, .int .i64 x.j.lv, .int .i64 x.n, .int .i64 x.a, .int .i64 x.b, .int .i64 x.c, .int .i64 kp] _ HR.out.all Tryz.underlying30 rfl szStep ?_
  have d0 := HR.out.cell 0 _ rfl
  go_wp2_with fail
  go_ret
  exact ⟨rfl, HB.out⟩
set_option maxHeartbeats 2000000 in
set_option maxRecDepth 100000 in
theorem implStepOk_4 (x : Cm) (kp : Int) (w : World) : Calls Tryz.prog 13 #[.agg #[.int .i64 4, .int .i64 x.s, .int .i64 x.j.id, .int .i64 x.j.pr, .int .i64 x.j.nd, .int .i64 x.j.na, .int .i64 x.j.nb, .int .i64 x.j.nc, .int .i64 x.j.la, .int .i64 x.j.lb, .int .i64 x.j.lc, .int .i64 x.j.wl, .int .i64 x.j.lv, .int .i64 x.n, .int .i64 x.a, .int .i64 x.b, .int .i64 x.c, .int .i64 kp]] w fun e w' => e = .returned (.bool (stB 4 x kp)) ∧ Below w.heap.size w w' := by
  have heq := seq0 4 x kp
  rw [show stB 4 x kp = (cmz x && kp == 0) from rfl]
  generalize (cmz x && kp == 0) = r at heq ⊢
  go_enter Tryz.func13, Tryz.ntmps13
  go_wp2_with (refine stay_load 30 ?_)
  refine ⟨?_⟩
  have HR : Hid (Row (w.alloc (.cells #[.int .i64 4, .int .i64 x.s, .int .i64 x.j.id, .int .i64 x.j.pr, .int .i64 x.j.nd, .int .i64 x.j.na, .int .i64 x.j.nb, .int .i64 x.j.nc, .int .i64 x.j.la, .int .i64 x.j.lb, .int .i64 x.j.lc, .int .i64 x.j.wl, .int .i64 x.j.lv, .int .i64 x.n, .int .i64 x.a, .int .i64 x.b, .int .i64 x.c, .int .i64 kp] 30)) w.heap.size [.int .i64 4, .int .i64 x.s, .int .i64 x.j.id, .int .i64 x.j.pr, .int .i64 x.j.nd, .int .i64 x.j.na, .int .i64 x.j.nb, .int .i64 x.j.nc, .int .i64 x.j.la, .int .i64 x.j.lb, .int .i64 x.j.lc, .int .i64 x.j.wl, .int .i64 x.j.lv, .int .i64 x.n, .int .i64 x.a, .int .i64 x.b, .int .i64 x.c, .int .i64 kp]) := row_fresh w [.int .i64 4, .int .i64 x.s, .int .i64 x.j.id, .int .i64 x.j.pr, .int .i64 x.j.nd, .int .i64 x.j.na, .int .i64 x.j.nb, .int .i64 x.j.nc, .int .i64 x.j.la, .int .i64 x.j.lb, .int .i64 x.j.lc, .int .i64 x.j.wl, .int .i64 x.j.lv, .int .i64 x.n, .int .i64 x.a, .int .i64 x.b, .int .i64 x.c, .int .i64 kp] 30
  have HB : Hid (Below w.heap.size w (w.alloc (.cells #[.int .i64 4, .int .i64 x.s, .int .i64 x.j.id, .int .i64 x.j.pr, .int .i64 x.j.nd, .int .i64 x.j.na, .int .i64 x.j.nb, .int .i64 x.j.nc, .int .i64 x.j.la, .int .i64 x.j.lb, .int .i64 x.j.lc, .int .i64 x.j.wl, .int .i64 x.j.lv, .int .i64 x.n, .int .i64 x.a, .int .i64 x.b, .int .i64 x.c, .int .i64 kp] 30))) := low_alloc _ _
  generalize w.alloc (.cells #[.int .i64 4, .int .i64 x.s, .int .i64 x.j.id, .int .i64 x.j.pr, .int .i64 x.j.nd, .int .i64 x.j.na, .int .i64 x.j.nb, .int .i64 x.j.nc, .int .i64 x.j.la, .int .i64 x.j.lb, .int .i64 x.j.lc, .int .i64 x.j.wl, .int .i64 x.j.lv, .int .i64 x.n, .int .i64 x.a, .int .i64 x.b, .int .i64 x.c, .int .i64 kp] 30) = w0 at HR HB ⊢
  refine wpList_load_mid rfl 30 _ rfl w.heap.size 0 rfl [.int .i64 4, .int .i64 x.s, .int .i64 x.j.id, .int .i64 x.j.pr, .int .i64 x.j.nd, .int .i64 x.j.na, .int .i64 x.j.nb, .int .i64 x.j.nc, .int .i64 x.j.la, .int .i64 x.j.lb, .int .i64 x.j.lc, .int .i64 x.j.wl, .int .i64 x.j.lv, .int .i64 x.n, .int .i64 x.a, .int .i64 x.b, .int .i64 x.c, .int .i64 kp] _ HR.out.all Tryz.underlying30 rfl szStep ?_
  have d0 := HR.out.cell 0 _ rfl
  go_wp2_with fail
  go_ret
  exact ⟨rfl, HB.out⟩
set_option maxHeartbeats 2000000 in
set_option maxRecDepth 100000 in
theorem implStepOk_1 (x : Cm) (kp : Int) (w : World) : Calls Tryz.prog 13 #[.agg #[.int .i64 1, .int .i64 x.s, .int .i64 x.j.id, .int .i64 x.j.pr, .int .i64 x.j.nd, .int .i64 x.j.na, .int .i64 x.j.nb, .int .i64 x.j.nc, .int .i64 x.j.la, .int .i64 x.j.lb, .int .i64 x.j.lc, .int .i64 x.j.wl, .int .i64 x.j.lv, .int .i64 x.n, .int .i64 x.a, .int .i64 x.b, .int .i64 x.c, .int .i64 kp]] w fun e w' => e = .returned (.bool (stB 1 x kp)) ∧ Below w.heap.size w w' := by
  have HC : Hid (∀ W : World, Calls Tryz.prog 28 #[.agg #[.int .i64 x.s, .int .i64 x.j.id, .int .i64 x.j.pr, .int .i64 x.j.nd, .int .i64 x.j.na, .int .i64 x.j.nb, .int .i64 x.j.nc, .int .i64 x.j.la, .int .i64 x.j.lb, .int .i64 x.j.lc, .int .i64 x.j.wl, .int .i64 x.j.lv, .int .i64 x.n, .int .i64 x.a, .int .i64 x.b, .int .i64 x.c]] W fun e w' => e = .returned (.bool (cmdB x.s x.j x.n x.a x.b x.c)) ∧ Below W.heap.size W w') := fun W => implCmdOk_c x.s x.j x.n x.a x.b x.c W
  have HS : Hid (stB 1 x kp = (cmdB x.s x.j x.n x.a x.b x.c && (if (1 : Int) = 1 then kp == 0 else timB kp))) := rfl
  generalize stB 1 x kp = r at HS ⊢
  generalize cmdB x.s x.j x.n x.a x.b x.c = cb at HC HS
  go_enter Tryz.func13, Tryz.ntmps13
  go_wp2_with (refine stay_load 28 ?_)
  refine ⟨?_⟩
  have HR : Hid (Row (w.alloc (.cells #[.int .i64 1, .int .i64 x.s, .int .i64 x.j.id, .int .i64 x.j.pr, .int .i64 x.j.nd, .int .i64 x.j.na, .int .i64 x.j.nb, .int .i64 x.j.nc, .int .i64 x.j.la, .int .i64 x.j.lb, .int .i64 x.j.lc, .int .i64 x.j.wl, .int .i64 x.j.lv, .int .i64 x.n, .int .i64 x.a, .int .i64 x.b, .int .i64 x.c, .int .i64 kp] 30)) w.heap.size [.int .i64 1, .int .i64 x.s, .int .i64 x.j.id, .int .i64 x.j.pr, .int .i64 x.j.nd, .int .i64 x.j.na, .int .i64 x.j.nb, .int .i64 x.j.nc, .int .i64 x.j.la, .int .i64 x.j.lb, .int .i64 x.j.lc, .int .i64 x.j.wl, .int .i64 x.j.lv, .int .i64 x.n, .int .i64 x.a, .int .i64 x.b, .int .i64 x.c, .int .i64 kp]) := row_fresh w [.int .i64 1, .int .i64 x.s, .int .i64 x.j.id, .int .i64 x.j.pr, .int .i64 x.j.nd, .int .i64 x.j.na, .int .i64 x.j.nb, .int .i64 x.j.nc, .int .i64 x.j.la, .int .i64 x.j.lb, .int .i64 x.j.lc, .int .i64 x.j.wl, .int .i64 x.j.lv, .int .i64 x.n, .int .i64 x.a, .int .i64 x.b, .int .i64 x.c, .int .i64 kp] 30
  have HB : Hid (Below w.heap.size w (w.alloc (.cells #[.int .i64 1, .int .i64 x.s, .int .i64 x.j.id, .int .i64 x.j.pr, .int .i64 x.j.nd, .int .i64 x.j.na, .int .i64 x.j.nb, .int .i64 x.j.nc, .int .i64 x.j.la, .int .i64 x.j.lb, .int .i64 x.j.lc, .int .i64 x.j.wl, .int .i64 x.j.lv, .int .i64 x.n, .int .i64 x.a, .int .i64 x.b, .int .i64 x.c, .int .i64 kp] 30))) := low_alloc _ _
  generalize w.alloc (.cells #[.int .i64 1, .int .i64 x.s, .int .i64 x.j.id, .int .i64 x.j.pr, .int .i64 x.j.nd, .int .i64 x.j.na, .int .i64 x.j.nb, .int .i64 x.j.nc, .int .i64 x.j.la, .int .i64 x.j.lb, .int .i64 x.j.lc, .int .i64 x.j.wl, .int .i64 x.j.lv, .int .i64 x.n, .int .i64 x.a, .int .i64 x.b, .int .i64 x.c, .int .i64 kp] 30) = w0 at HR HB ⊢
  refine wpList_load_mid rfl 28 _ rfl w.heap.size 1 rfl [.int .i64 x.s, .int .i64 x.j.id, .int .i64 x.j.pr, .int .i64 x.j.nd, .int .i64 x.j.na, .int .i64 x.j.nb, .int .i64 x.j.nc, .int .i64 x.j.la, .int .i64 x.j.lb, .int .i64 x.j.lc, .int .i64 x.j.wl, .int .i64 x.j.lv, .int .i64 x.n, .int .i64 x.a, .int .i64 x.b, .int .i64 x.c] _ (HR.out.sub 1 16) Tryz.underlying28 rfl szCmdC ?_
  go_wp2_with fail
  refine (HC.out _).mono ?_
  rintro e w1 ⟨rfl, hb⟩
  replace HR : Hid (Row w1 w.heap.size [.int .i64 1, .int .i64 x.s, .int .i64 x.j.id, .int .i64 x.j.pr, .int .i64 x.j.nd, .int .i64 x.j.na, .int .i64 x.j.nb, .int .i64 x.j.nc, .int .i64 x.j.la, .int .i64 x.j.lb, .int .i64 x.j.lc, .int .i64 x.j.wl, .int .i64 x.j.lv, .int .i64 x.n, .int .i64 x.a, .int .i64 x.b, .int .i64 x.c, .int .i64 kp]) := HR.out.below hb
  replace HB : Hid (Below w.heap.size w w1) := below_then HB.out hb
  clear hb HC
  cases cb
  · go_wp2_with fail
    go_ret
    exact ⟨by rw [HS.out]; rfl, HB.out⟩
  · have d17 := HR.out.cell 17 _ rfl
    go_wp2_with (refine (timeOk_c kp _).mono ?_; rintro e w2 ⟨rfl, rfl⟩)
    go_ret
    exact ⟨by rw [HS.out]; rfl, HB.out⟩
set_option maxHeartbeats 2000000 in
set_option maxRecDepth 100000 in
theorem implStepOk_2 (x : Cm) (kp : Int) (w : World) : Calls Tryz.prog 13 #[.agg #[.int .i64 2, .int .i64 x.s, .int .i64 x.j.id, .int .i64 x.j.pr, .int .i64 x.j.nd, .int .i64 x.j.na, .int .i64 x.j.nb, .int .i64 x.j.nc, .int .i64 x.j.la, .int .i64 x.j.lb, .int .i64 x.j.lc, .int .i64 x.j.wl, .int .i64 x.j.lv, .int .i64 x.n, .int .i64 x.a, .int .i64 x.b, .int .i64 x.c, .int .i64 kp]] w fun e w' => e = .returned (.bool (stB 2 x kp)) ∧ Below w.heap.size w w' := by
  have HC : Hid (∀ W : World, Calls Tryz.prog 28 #[.agg #[.int .i64 x.s, .int .i64 x.j.id, .int .i64 x.j.pr, .int .i64 x.j.nd, .int .i64 x.j.na, .int .i64 x.j.nb, .int .i64 x.j.nc, .int .i64 x.j.la, .int .i64 x.j.lb, .int .i64 x.j.lc, .int .i64 x.j.wl, .int .i64 x.j.lv, .int .i64 x.n, .int .i64 x.a, .int .i64 x.b, .int .i64 x.c]] W fun e w' => e = .returned (.bool (cmdB x.s x.j x.n x.a x.b x.c)) ∧ Below W.heap.size W w') := fun W => implCmdOk_c x.s x.j x.n x.a x.b x.c W
  have HS : Hid (stB 2 x kp = (cmdB x.s x.j x.n x.a x.b x.c && (if (2 : Int) = 1 then kp == 0 else timB kp))) := rfl
  generalize stB 2 x kp = r at HS ⊢
  generalize cmdB x.s x.j x.n x.a x.b x.c = cb at HC HS
  go_enter Tryz.func13, Tryz.ntmps13
  go_wp2_with (refine stay_load 28 ?_)
  refine ⟨?_⟩
  have HR : Hid (Row (w.alloc (.cells #[.int .i64 2, .int .i64 x.s, .int .i64 x.j.id, .int .i64 x.j.pr, .int .i64 x.j.nd, .int .i64 x.j.na, .int .i64 x.j.nb, .int .i64 x.j.nc, .int .i64 x.j.la, .int .i64 x.j.lb, .int .i64 x.j.lc, .int .i64 x.j.wl, .int .i64 x.j.lv, .int .i64 x.n, .int .i64 x.a, .int .i64 x.b, .int .i64 x.c, .int .i64 kp] 30)) w.heap.size [.int .i64 2, .int .i64 x.s, .int .i64 x.j.id, .int .i64 x.j.pr, .int .i64 x.j.nd, .int .i64 x.j.na, .int .i64 x.j.nb, .int .i64 x.j.nc, .int .i64 x.j.la, .int .i64 x.j.lb, .int .i64 x.j.lc, .int .i64 x.j.wl, .int .i64 x.j.lv, .int .i64 x.n, .int .i64 x.a, .int .i64 x.b, .int .i64 x.c, .int .i64 kp]) := row_fresh w [.int .i64 2, .int .i64 x.s, .int .i64 x.j.id, .int .i64 x.j.pr, .int .i64 x.j.nd, .int .i64 x.j.na, .int .i64 x.j.nb, .int .i64 x.j.nc, .int .i64 x.j.la, .int .i64 x.j.lb, .int .i64 x.j.lc, .int .i64 x.j.wl, .int .i64 x.j.lv, .int .i64 x.n, .int .i64 x.a, .int .i64 x.b, .int .i64 x.c, .int .i64 kp] 30
  have HB : Hid (Below w.heap.size w (w.alloc (.cells #[.int .i64 2, .int .i64 x.s, .int .i64 x.j.id, .int .i64 x.j.pr, .int .i64 x.j.nd, .int .i64 x.j.na, .int .i64 x.j.nb, .int .i64 x.j.nc, .int .i64 x.j.la, .int .i64 x.j.lb, .int .i64 x.j.lc, .int .i64 x.j.wl, .int .i64 x.j.lv, .int .i64 x.n, .int .i64 x.a, .int .i64 x.b, .int .i64 x.c, .int .i64 kp] 30))) := low_alloc _ _
  generalize w.alloc (.cells #[.int .i64 2, .int .i64 x.s, .int .i64 x.j.id, .int .i64 x.j.pr, .int .i64 x.j.nd, .int .i64 x.j.na, .int .i64 x.j.nb, .int .i64 x.j.nc, .int .i64 x.j.la, .int .i64 x.j.lb, .int .i64 x.j.lc, .int .i64 x.j.wl, .int .i64 x.j.lv, .int .i64 x.n, .int .i64 x.a, .int .i64 x.b, .int .i64 x.c, .int .i64 kp] 30) = w0 at HR HB ⊢
  refine wpList_load_mid rfl 28 _ rfl w.heap.size 1 rfl [.int .i64 x.s, .int .i64 x.j.id, .int .i64 x.j.pr, .int .i64 x.j.nd, .int .i64 x.j.na, .int .i64 x.j.nb, .int .i64 x.j.nc, .int .i64 x.j.la, .int .i64 x.j.lb, .int .i64 x.j.lc, .int .i64 x.j.wl, .int .i64 x.j.lv, .int .i64 x.n, .int .i64 x.a, .int .i64 x.b, .int .i64 x.c] _ (HR.out.sub 1 16) Tryz.underlying28 rfl szCmdC ?_
  go_wp2_with fail
  refine (HC.out _).mono ?_
  rintro e w1 ⟨rfl, hb⟩
  replace HR : Hid (Row w1 w.heap.size [.int .i64 2, .int .i64 x.s, .int .i64 x.j.id, .int .i64 x.j.pr, .int .i64 x.j.nd, .int .i64 x.j.na, .int .i64 x.j.nb, .int .i64 x.j.nc, .int .i64 x.j.la, .int .i64 x.j.lb, .int .i64 x.j.lc, .int .i64 x.j.wl, .int .i64 x.j.lv, .int .i64 x.n, .int .i64 x.a, .int .i64 x.b, .int .i64 x.c, .int .i64 kp]) := HR.out.below hb
  replace HB : Hid (Below w.heap.size w w1) := below_then HB.out hb
  clear hb HC
  cases cb
  · go_wp2_with fail
    go_ret
    exact ⟨by rw [HS.out]; rfl, HB.out⟩
  · have d17 := HR.out.cell 17 _ rfl
    go_wp2_with (refine (timeOk_c kp _).mono ?_; rintro e w2 ⟨rfl, rfl⟩)
    go_ret
    exact ⟨by rw [HS.out]; rfl, HB.out⟩
theorem implStepOk_c (k : Int) (x : Cm) (kp : Int) (w : World) : Calls Tryz.prog 13 #[.agg #[.int .i64 k, .int .i64 x.s, .int .i64 x.j.id, .int .i64 x.j.pr, .int .i64 x.j.nd, .int .i64 x.j.na, .int .i64 x.j.nb, .int .i64 x.j.nc, .int .i64 x.j.la, .int .i64 x.j.lb, .int .i64 x.j.lc, .int .i64 x.j.wl, .int .i64 x.j.lv, .int .i64 x.n, .int .i64 x.a, .int .i64 x.b, .int .i64 x.c, .int .i64 kp]] w fun e w' => e = .returned (.bool (stB k x kp)) ∧ Below w.heap.size w w' := by
  by_cases h : k < 1 ∨ 4 < k
  · exact implStepOk_no k x kp w h
  · have h4 : k = 1 ∨ k = 2 ∨ k = 3 ∨ k = 4 := by omega
    rcases h4 with rfl | rfl | rfl | rfl
    · exact implStepOk_1 x kp w
    · exact implStepOk_2 x kp w
    · exact implStepOk_3 x kp w
    · exact implStepOk_4 x kp w
end Go.Proofs.YtejleghdgdbbnaaGreatDoor

namespace Go.Proofs.YtejleghdgdbbnaaGreatDoor
open Go.ChangeShapes Go.WideShapes Go.ChangeAt Go.RowKit

def stws : List (List UInt8) := [[], [100, 111], [116, 111, 114, 110], [99, 114, 97, 115, 104], [115, 116, 97, 114, 116]]
def stwV : List Value := [.string ⟨#[]⟩, .string ⟨#[100, 111]⟩, .string ⟨#[116, 111, 114, 110]⟩, .string ⟨#[99, 114, 97, 115, 104]⟩, .string ⟨#[115, 116, 97, 114, 116]⟩]
theorem ct_len (x : Cm) : (ctL x.s x.j x.n x.a x.b x.c).length ≤ 500 := by
  unfold ctL
  cases cmdB x.s x.j x.n x.a x.b x.c
  · exact Nat.zero_le _
  · exact cw_len _ _ _ _ _ _
theorem heldS {V w' : World} {B : Nat} {k : Int} {x : Cm} {kp : Int} (hr : Row V B [.int .i64 k, .int .i64 x.s, .int .i64 x.j.id, .int .i64 x.j.pr, .int .i64 x.j.nd, .int .i64 x.j.na, .int .i64 x.j.nb, .int .i64 x.j.nc, .int .i64 x.j.la, .int .i64 x.j.lb, .int .i64 x.j.lc, .int .i64 x.j.wl, .int .i64 x.j.lv, .int .i64 x.n, .int .i64 x.a, .int .i64 x.b, .int .i64 x.c, .int .i64 kp]) (h : Below V.heap.size V w') : Below V.heap.size V w' ∧ w'.cell? ⟨B, 1, none⟩ = some (.int .i64 x.s) ∧ w'.cell? ⟨B, 2, none⟩ = some (.int .i64 x.j.id) ∧ w'.cell? ⟨B, 3, none⟩ = some (.int .i64 x.j.pr) ∧ w'.cell? ⟨B, 4, none⟩ = some (.int .i64 x.j.nd) ∧ w'.cell? ⟨B, 5, none⟩ = some (.int .i64 x.j.na) ∧ w'.cell? ⟨B, 6, none⟩ = some (.int .i64 x.j.nb) ∧ w'.cell? ⟨B, 7, none⟩ = some (.int .i64 x.j.nc) ∧ w'.cell? ⟨B, 8, none⟩ = some (.int .i64 x.j.la) ∧ w'.cell? ⟨B, 9, none⟩ = some (.int .i64 x.j.lb) ∧ w'.cell? ⟨B, 10, none⟩ = some (.int .i64 x.j.lc) ∧ w'.cell? ⟨B, 11, none⟩ = some (.int .i64 x.j.wl) ∧ w'.cell? ⟨B, 12, none⟩ = some (.int .i64 x.j.lv) ∧ w'.cell? ⟨B, 13, none⟩ = some (.int .i64 x.n) ∧ w'.cell? ⟨B, 14, none⟩ = some (.int .i64 x.a) ∧ w'.cell? ⟨B, 15, none⟩ = some (.int .i64 x.b) ∧ w'.cell? ⟨B, 16, none⟩ = some (.int .i64 x.c) ∧ w'.cell? ⟨B, 17, none⟩ = some (.int .i64 kp) :=
  ⟨h, (hr.below h).cell 1 _ rfl, (hr.below h).cell 2 _ rfl, (hr.below h).cell 3 _ rfl, (hr.below h).cell 4 _ rfl, (hr.below h).cell 5 _ rfl, (hr.below h).cell 6 _ rfl, (hr.below h).cell 7 _ rfl, (hr.below h).cell 8 _ rfl, (hr.below h).cell 9 _ rfl, (hr.below h).cell 10 _ rfl, (hr.below h).cell 11 _ rfl, (hr.below h).cell 12 _ rfl, (hr.below h).cell 13 _ rfl, (hr.below h).cell 14 _ rfl, (hr.below h).cell 15 _ rfl, (hr.below h).cell 16 _ rfl, (hr.below h).cell 17 _ rfl⟩
/-- The program's own words of the steps lie as its text lays them. -/
def StT (w : World) : Prop := w.var? Tryz.prog "loop.example/g00454/impl.stepWords" = some stwV.toArray ∧ 0 < w.heap.size
theorem gSt : Tryz.prog.globalNamed "loop.example/g00454/impl.stepWords" = some 0 := by kernel_rfl
theorem StT.on {w w' : World} (h : StT w) (hb : Below w.heap.size w w') : StT w' :=
  ⟨var?_below hb gSt h.2 h.1, Nat.lt_of_lt_of_le h.2 hb.size⟩
theorem StT.cell {w : World} (h : StT w) (k : Nat) (x : Value) (hx : stwV[k]? = some x) : w.cell? ⟨0, k, none⟩ = some x := by
  have := World.var?_cell gSt h.1 k
  rw [this]; simpa using hx
set_option maxHeartbeats 2000000 in
set_option maxRecDepth 100000 in
theorem implStepText_no (k : Int) (x : Cm) (kp : Int) (w : World) (h : stB k x kp = false) : Calls Tryz.prog 6 #[.agg #[.int .i64 k, .int .i64 x.s, .int .i64 x.j.id, .int .i64 x.j.pr, .int .i64 x.j.nd, .int .i64 x.j.na, .int .i64 x.j.nb, .int .i64 x.j.nc, .int .i64 x.j.la, .int .i64 x.j.lb, .int .i64 x.j.lc, .int .i64 x.j.wl, .int .i64 x.j.lv, .int .i64 x.n, .int .i64 x.a, .int .i64 x.b, .int .i64 x.c, .int .i64 kp]] w fun e w' => e = .returned (.string ⟨#[]⟩) ∧ Below w.heap.size w w' := by
  have HO : Hid (∀ W : World, Calls Tryz.prog 13 #[.agg #[.int .i64 k, .int .i64 x.s, .int .i64 x.j.id, .int .i64 x.j.pr, .int .i64 x.j.nd, .int .i64 x.j.na, .int .i64 x.j.nb, .int .i64 x.j.nc, .int .i64 x.j.la, .int .i64 x.j.lb, .int .i64 x.j.lc, .int .i64 x.j.wl, .int .i64 x.j.lv, .int .i64 x.n, .int .i64 x.a, .int .i64 x.b, .int .i64 x.c, .int .i64 kp]] W fun e w' => e = .returned (.bool false) ∧ Below W.heap.size W w') := fun W => by have := implStepOk_c k x kp W; rw [h] at this; exact this
  clear h
  go_enter Tryz.func6, Tryz.ntmps6
  go_wp2_with (refine stay_load 30 ?_)
  refine ⟨?_⟩
  have HR : Hid (Row (w.alloc (.cells #[.int .i64 k, .int .i64 x.s, .int .i64 x.j.id, .int .i64 x.j.pr, .int .i64 x.j.nd, .int .i64 x.j.na, .int .i64 x.j.nb, .int .i64 x.j.nc, .int .i64 x.j.la, .int .i64 x.j.lb, .int .i64 x.j.lc, .int .i64 x.j.wl, .int .i64 x.j.lv, .int .i64 x.n, .int .i64 x.a, .int .i64 x.b, .int .i64 x.c, .int .i64 kp] 30)) w.heap.size [.int .i64 k, .int .i64 x.s, .int .i64 x.j.id, .int .i64 x.j.pr, .int .i64 x.j.nd, .int .i64 x.j.na, .int .i64 x.j.nb, .int .i64 x.j.nc, .int .i64 x.j.la, .int .i64 x.j.lb, .int .i64 x.j.lc, .int .i64 x.j.wl, .int .i64 x.j.lv, .int .i64 x.n, .int .i64 x.a, .int .i64 x.b, .int .i64 x.c, .int .i64 kp]) := row_fresh w [.int .i64 k, .int .i64 x.s, .int .i64 x.j.id, .int .i64 x.j.pr, .int .i64 x.j.nd, .int .i64 x.j.na, .int .i64 x.j.nb, .int .i64 x.j.nc, .int .i64 x.j.la, .int .i64 x.j.lb, .int .i64 x.j.lc, .int .i64 x.j.wl, .int .i64 x.j.lv, .int .i64 x.n, .int .i64 x.a, .int .i64 x.b, .int .i64 x.c, .int .i64 kp] 30
  have HB : Hid (Below w.heap.size w (w.alloc (.cells #[.int .i64 k, .int .i64 x.s, .int .i64 x.j.id, .int .i64 x.j.pr, .int .i64 x.j.nd, .int .i64 x.j.na, .int .i64 x.j.nb, .int .i64 x.j.nc, .int .i64 x.j.la, .int .i64 x.j.lb, .int .i64 x.j.lc, .int .i64 x.j.wl, .int .i64 x.j.lv, .int .i64 x.n, .int .i64 x.a, .int .i64 x.b, .int .i64 x.c, .int .i64 kp] 30))) := low_alloc _ _
  generalize w.alloc (.cells #[.int .i64 k, .int .i64 x.s, .int .i64 x.j.id, .int .i64 x.j.pr, .int .i64 x.j.nd, .int .i64 x.j.na, .int .i64 x.j.nb, .int .i64 x.j.nc, .int .i64 x.j.la, .int .i64 x.j.lb, .int .i64 x.j.lc, .int .i64 x.j.wl, .int .i64 x.j.lv, .int .i64 x.n, .int .i64 x.a, .int .i64 x.b, .int .i64 x.c, .int .i64 kp] 30) = w0 at HR HB ⊢
  refine wpList_load_mid rfl 30 _ rfl w.heap.size 0 rfl [.int .i64 k, .int .i64 x.s, .int .i64 x.j.id, .int .i64 x.j.pr, .int .i64 x.j.nd, .int .i64 x.j.na, .int .i64 x.j.nb, .int .i64 x.j.nc, .int .i64 x.j.la, .int .i64 x.j.lb, .int .i64 x.j.lc, .int .i64 x.j.wl, .int .i64 x.j.lv, .int .i64 x.n, .int .i64 x.a, .int .i64 x.b, .int .i64 x.c, .int .i64 kp] _ HR.out.all Tryz.underlying30 rfl szStep ?_
  go_wp2_with fail
  refine (HO.out _).mono ?_
  rintro e w1 ⟨rfl, hb⟩
  replace HB : Hid (Below w.heap.size w w1) := below_then HB.out hb
  clear hb HR
  go_wp2_with fail
  go_ret
  exact ⟨rfl, HB.out⟩
set_option maxHeartbeats 2000000 in
set_option maxRecDepth 100000 in
theorem implStepText_3 (x : Cm) (kp : Int) (w : World) (h : stB 3 x kp = true) (hk : StT w) : Calls Tryz.prog 6 #[.agg #[.int .i64 3, .int .i64 x.s, .int .i64 x.j.id, .int .i64 x.j.pr, .int .i64 x.j.nd, .int .i64 x.j.na, .int .i64 x.j.nb, .int .i64 x.j.nc, .int .i64 x.j.la, .int .i64 x.j.lb, .int .i64 x.j.lc, .int .i64 x.j.wl, .int .i64 x.j.lv, .int .i64 x.n, .int .i64 x.a, .int .i64 x.b, .int .i64 x.c, .int .i64 kp]] w fun e w' => e = .returned (.string ⟨(stL 3 x kp).toArray⟩) ∧ Below w.heap.size w w' := by
  have HO : Hid (∀ W : World, Calls Tryz.prog 13 #[.agg #[.int .i64 3, .int .i64 x.s, .int .i64 x.j.id, .int .i64 x.j.pr, .int .i64 x.j.nd, .int .i64 x.j.na, .int .i64 x.j.nb, .int .i64 x.j.nc, .int .i64 x.j.la, .int .i64 x.j.lb, .int .i64 x.j.lc, .int .i64 x.j.wl, .int .i64 x.j.lv, .int .i64 x.n, .int .i64 x.a, .int .i64 x.b, .int .i64 x.c, .int .i64 kp]] W fun e w' => e = .returned (.bool true) ∧ Below W.heap.size W w') := fun W => by have := implStepOk_c 3 x kp W; rw [h] at this; exact this
  have HS : Hid (⟨(stL 3 x kp).toArray⟩ = (⟨#[99,114,97,115,104]⟩ : ByteArray)) := by show _ = _; unfold stL; rw [h]; rfl
  have HK : Hid (StT w) := hk
  clear h hk
  go_enter Tryz.func6, Tryz.ntmps6
  go_wp2_with (refine stay_load 30 ?_)
  refine ⟨?_⟩
  have HR : Hid (Row (w.alloc (.cells #[.int .i64 3, .int .i64 x.s, .int .i64 x.j.id, .int .i64 x.j.pr, .int .i64 x.j.nd, .int .i64 x.j.na, .int .i64 x.j.nb, .int .i64 x.j.nc, .int .i64 x.j.la, .int .i64 x.j.lb, .int .i64 x.j.lc, .int .i64 x.j.wl, .int .i64 x.j.lv, .int .i64 x.n, .int .i64 x.a, .int .i64 x.b, .int .i64 x.c, .int .i64 kp] 30)) w.heap.size [.int .i64 3, .int .i64 x.s, .int .i64 x.j.id, .int .i64 x.j.pr, .int .i64 x.j.nd, .int .i64 x.j.na, .int .i64 x.j.nb, .int .i64 x.j.nc, .int .i64 x.j.la, .int .i64 x.j.lb, .int .i64 x.j.lc, .int .i64 x.j.wl, .int .i64 x.j.lv, .int .i64 x.n, .int .i64 x.a, .int .i64 x.b, .int .i64 x.c, .int .i64 kp]) := row_fresh w [.int .i64 3, .int .i64 x.s, .int .i64 x.j.id, .int .i64 x.j.pr, .int .i64 x.j.nd, .int .i64 x.j.na, .int .i64 x.j.nb, .int .i64 x.j.nc, .int .i64 x.j.la, .int .i64 x.j.lb, .int .i64 x.j.lc, .int .i64 x.j.wl, .int .i64 x.j.lv, .int .i64 x.n, .int .i64 x.a, .int .i64 x.b, .int .i64 x.c, .int .i64 kp] 30
  have HB : Hid (Below w.heap.size w (w.alloc (.cells #[.int .i64 3, .int .i64 x.s, .int .i64 x.j.id, .int .i64 x.j.pr, .int .i64 x.j.nd, .int .i64 x.j.na, .int .i64 x.j.nb, .int .i64 x.j.nc, .int .i64 x.j.la, .int .i64 x.j.lb, .int .i64 x.j.lc, .int .i64 x.j.wl, .int .i64 x.j.lv, .int .i64 x.n, .int .i64 x.a, .int .i64 x.b, .int .i64 x.c, .int .i64 kp] 30))) := low_alloc _ _
  generalize w.alloc (.cells #[.int .i64 3, .int .i64 x.s, .int .i64 x.j.id, .int .i64 x.j.pr, .int .i64 x.j.nd, .int .i64 x.j.na, .int .i64 x.j.nb, .int .i64 x.j.nc, .int .i64 x.j.la, .int .i64 x.j.lb, .int .i64 x.j.lc, .int .i64 x.j.wl, .int .i64 x.j.lv, .int .i64 x.n, .int .i64 x.a, .int .i64 x.b, .int .i64 x.c, .int .i64 kp] 30) = w0 at HR HB ⊢
  refine wpList_load_mid rfl 30 _ rfl w.heap.size 0 rfl [.int .i64 3, .int .i64 x.s, .int .i64 x.j.id, .int .i64 x.j.pr, .int .i64 x.j.nd, .int .i64 x.j.na, .int .i64 x.j.nb, .int .i64 x.j.nc, .int .i64 x.j.la, .int .i64 x.j.lb, .int .i64 x.j.lc, .int .i64 x.j.wl, .int .i64 x.j.lv, .int .i64 x.n, .int .i64 x.a, .int .i64 x.b, .int .i64 x.c, .int .i64 kp] _ HR.out.all Tryz.underlying30 rfl szStep ?_
  go_wp2_with fail
  refine (HO.out _).mono ?_
  rintro e w1 ⟨rfl, hb⟩
  replace HR : Hid (Row w1 w.heap.size [.int .i64 3, .int .i64 x.s, .int .i64 x.j.id, .int .i64 x.j.pr, .int .i64 x.j.nd, .int .i64 x.j.na, .int .i64 x.j.nb, .int .i64 x.j.nc, .int .i64 x.j.la, .int .i64 x.j.lb, .int .i64 x.j.lc, .int .i64 x.j.wl, .int .i64 x.j.lv, .int .i64 x.n, .int .i64 x.a, .int .i64 x.b, .int .i64 x.c, .int .i64 kp]) := HR.out.below hb
  replace HB : Hid (Below w.heap.size w w1) := below_then HB.out hb
  clear hb HO
  have d0 := HR.out.cell 0 _ rfl
  have hc := (HK.out.on HB.out).cell 3 _ rfl
  go_wp2_with fail
  go_ret
  exact ⟨by rw [HS.out]; rfl, HB.out⟩
set_option maxHeartbeats 2000000 in
set_option maxRecDepth 100000 in
theorem implStepText_4 (x : Cm) (kp : Int) (w : World) (h : stB 4 x kp = true) (hk : StT w) : Calls Tryz.prog 6 #[.agg #[.int .i64 4, .int .i64 x.s, .int .i64 x.j.id, .int .i64 x.j.pr, .int .i64 x.j.nd, .int .i64 x.j.na, .int .i64 x.j.nb, .int .i64 x.j.nc, .int .i64 x.j.la, .int .i64 x.j.lb, .int .i64 x.j.lc, .int .i64 x.j.wl, .int .i64 x.j.lv, .int .i64 x.n, .int .i64 x.a, .int .i64 x.b, .int .i64 x.c, .int .i64 kp]] w fun e w' => e = .returned (.string ⟨(stL 4 x kp).toArray⟩) ∧ Below w.heap.size w w' := by
  have HO : Hid (∀ W : World, Calls Tryz.prog 13 #[.agg #[.int .i64 4, .int .i64 x.s, .int .i64 x.j.id, .int .i64 x.j.pr, .int .i64 x.j.nd, .int .i64 x.j.na, .int .i64 x.j.nb, .int .i64 x.j.nc, .int .i64 x.j.la, .int .i64 x.j.lb, .int .i64 x.j.lc, .int .i64 x.j.wl, .int .i64 x.j.lv, .int .i64 x.n, .int .i64 x.a, .int .i64 x.b, .int .i64 x.c, .int .i64 kp]] W fun e w' => e = .returned (.bool true) ∧ Below W.heap.size W w') := fun W => by have := implStepOk_c 4 x kp W; rw [h] at this; exact this
  have HS : Hid (⟨(stL 4 x kp).toArray⟩ = (⟨#[115,116,97,114,116]⟩ : ByteArray)) := by show _ = _; unfold stL; rw [h]; rfl
  have HK : Hid (StT w) := hk
  clear h hk
  go_enter Tryz.func6, Tryz.ntmps6
  go_wp2_with (refine stay_load 30 ?_)
  refine ⟨?_⟩
  have HR : Hid (Row (w.alloc (.cells #[.int .i64 4, .int .i64 x.s, .int .i64 x.j.id, .int .i64 x.j.pr, .int .i64 x.j.nd, .int .i64 x.j.na, .int .i64 x.j.nb, .int .i64 x.j.nc, .int .i64 x.j.la, .int .i64 x.j.lb, .int .i64 x.j.lc, .int .i64 x.j.wl, .int .i64 x.j.lv, .int .i64 x.n, .int .i64 x.a, .int .i64 x.b, .int .i64 x.c, .int .i64 kp] 30)) w.heap.size [.int .i64 4, .int .i64 x.s, .int .i64 x.j.id, .int .i64 x.j.pr, .int .i64 x.j.nd, .int .i64 x.j.na, .int .i64 x.j.nb, .int .i64 x.j.nc, .int .i64 x.j.la, .int .i64 x.j.lb, .int .i64 x.j.lc, .int .i64 x.j.wl, .int .i64 x.j.lv, .int .i64 x.n, .int .i64 x.a, .int .i64 x.b, .int .i64 x.c, .int .i64 kp]) := row_fresh w [.int .i64 4, .int .i64 x.s, .int .i64 x.j.id, .int .i64 x.j.pr, .int .i64 x.j.nd, .int .i64 x.j.na, .int .i64 x.j.nb, .int .i64 x.j.nc, .int .i64 x.j.la, .int .i64 x.j.lb, .int .i64 x.j.lc, .int .i64 x.j.wl, .int .i64 x.j.lv, .int .i64 x.n, .int .i64 x.a, .int .i64 x.b, .int .i64 x.c, .int .i64 kp] 30
  have HB : Hid (Below w.heap.size w (w.alloc (.cells #[.int .i64 4, .int .i64 x.s, .int .i64 x.j.id, .int .i64 x.j.pr, .int .i64 x.j.nd, .int .i64 x.j.na, .int .i64 x.j.nb, .int .i64 x.j.nc, .int .i64 x.j.la, .int .i64 x.j.lb, .int .i64 x.j.lc, .int .i64 x.j.wl, .int .i64 x.j.lv, .int .i64 x.n, .int .i64 x.a, .int .i64 x.b, .int .i64 x.c, .int .i64 kp] 30))) := low_alloc _ _
  generalize w.alloc (.cells #[.int .i64 4, .int .i64 x.s, .int .i64 x.j.id, .int .i64 x.j.pr, .int .i64 x.j.nd, .int .i64 x.j.na, .int .i64 x.j.nb, .int .i64 x.j.nc, .int .i64 x.j.la, .int .i64 x.j.lb, .int .i64 x.j.lc, .int .i64 x.j.wl, .int .i64 x.j.lv, .int .i64 x.n, .int .i64 x.a, .int .i64 x.b, .int .i64 x.c, .int .i64 kp] 30) = w0 at HR HB ⊢
  refine wpList_load_mid rfl 30 _ rfl w.heap.size 0 rfl [.int .i64 4, .int .i64 x.s, .int .i64 x.j.id, .int .i64 x.j.pr, .int .i64 x.j.nd, .int .i64 x.j.na, .int .i64 x.j.nb, .int .i64 x.j.nc, .int .i64 x.j.la, .int .i64 x.j.lb, .int .i64 x.j.lc, .int .i64 x.j.wl, .int .i64 x.j.lv, .int .i64 x.n, .int .i64 x.a, .int .i64 x.b, .int .i64 x.c, .int .i64 kp] _ HR.out.all Tryz.underlying30 rfl szStep ?_
  go_wp2_with fail
  refine (HO.out _).mono ?_
  rintro e w1 ⟨rfl, hb⟩
  replace HR : Hid (Row w1 w.heap.size [.int .i64 4, .int .i64 x.s, .int .i64 x.j.id, .int .i64 x.j.pr, .int .i64 x.j.nd, .int .i64 x.j.na, .int .i64 x.j.nb, .int .i64 x.j.nc, .int .i64 x.j.la, .int .i64 x.j.lb, .int .i64 x.j.lc, .int .i64 x.j.wl, .int .i64 x.j.lv, .int .i64 x.n, .int .i64 x.a, .int .i64 x.b, .int .i64 x.c, .int .i64 kp]) := HR.out.below hb
  replace HB : Hid (Below w.heap.size w w1) := below_then HB.out hb
  clear hb HO
  have d0 := HR.out.cell 0 _ rfl
  have hc := (HK.out.on HB.out).cell 4 _ rfl
  go_wp2_with fail
  go_ret
  exact ⟨by rw [HS.out]; rfl, HB.out⟩
set_option maxHeartbeats 2000000 in
set_option maxRecDepth 100000 in
theorem implStepText_1 (x : Cm) (kp : Int) (w : World) (h : stB 1 x kp = true) (hs : StT w) (ht : Tab w) (hk : KwT w) : Calls Tryz.prog 6 #[.agg #[.int .i64 1, .int .i64 x.s, .int .i64 x.j.id, .int .i64 x.j.pr, .int .i64 x.j.nd, .int .i64 x.j.na, .int .i64 x.j.nb, .int .i64 x.j.nc, .int .i64 x.j.la, .int .i64 x.j.lb, .int .i64 x.j.lc, .int .i64 x.j.wl, .int .i64 x.j.lv, .int .i64 x.n, .int .i64 x.a, .int .i64 x.b, .int .i64 x.c, .int .i64 kp]] w fun e w' => e = .returned (.string ⟨(stL 1 x kp).toArray⟩) ∧ Below w.heap.size w w' := by
  have HO : Hid (∀ W : World, Calls Tryz.prog 13 #[.agg #[.int .i64 1, .int .i64 x.s, .int .i64 x.j.id, .int .i64 x.j.pr, .int .i64 x.j.nd, .int .i64 x.j.na, .int .i64 x.j.nb, .int .i64 x.j.nc, .int .i64 x.j.la, .int .i64 x.j.lb, .int .i64 x.j.lc, .int .i64 x.j.wl, .int .i64 x.j.lv, .int .i64 x.n, .int .i64 x.a, .int .i64 x.b, .int .i64 x.c, .int .i64 kp]] W fun e w' => e = .returned (.bool true) ∧ Below W.heap.size W w') := fun W => by have := implStepOk_c 1 x kp W; rw [h] at this; exact this
  have HS : Hid (⟨(stL 1 x kp).toArray⟩ = (⟨([100, 111, 32] ++ ctL x.s x.j x.n x.a x.b x.c).toArray⟩ : ByteArray)) := by show _ = _; unfold stL; rw [h]; rfl
  have HC : Hid (∀ W : World, Tab W → KwT W → Calls Tryz.prog 14 #[.agg #[.int .i64 x.s, .int .i64 x.j.id, .int .i64 x.j.pr, .int .i64 x.j.nd, .int .i64 x.j.na, .int .i64 x.j.nb, .int .i64 x.j.nc, .int .i64 x.j.la, .int .i64 x.j.lb, .int .i64 x.j.lc, .int .i64 x.j.wl, .int .i64 x.j.lv, .int .i64 x.n, .int .i64 x.a, .int .i64 x.b, .int .i64 x.c]] W fun e w' => e = .returned (.string ⟨(ctL x.s x.j x.n x.a x.b x.c).toArray⟩) ∧ Below W.heap.size W w') := fun W ht hk => implCmdText_c x.s x.j x.n x.a x.b x.c W ht hk
  have HK : Hid (StT w) := hs
  have HT : Hid (Tab w) := ht
  have HW : Hid (KwT w) := hk
  have HLl : Hid ((ctL x.s x.j x.n x.a x.b x.c).length ≤ 500) := ct_len x
  generalize ctL x.s x.j x.n x.a x.b x.c = l at HS HC HLl
  clear h hs ht hk
  go_enter Tryz.func6, Tryz.ntmps6
  go_wp2_with (refine stay_load 30 ?_)
  refine ⟨?_⟩
  have HR : Hid (Row (w.alloc (.cells #[.int .i64 1, .int .i64 x.s, .int .i64 x.j.id, .int .i64 x.j.pr, .int .i64 x.j.nd, .int .i64 x.j.na, .int .i64 x.j.nb, .int .i64 x.j.nc, .int .i64 x.j.la, .int .i64 x.j.lb, .int .i64 x.j.lc, .int .i64 x.j.wl, .int .i64 x.j.lv, .int .i64 x.n, .int .i64 x.a, .int .i64 x.b, .int .i64 x.c, .int .i64 kp] 30)) w.heap.size [.int .i64 1, .int .i64 x.s, .int .i64 x.j.id, .int .i64 x.j.pr, .int .i64 x.j.nd, .int .i64 x.j.na, .int .i64 x.j.nb, .int .i64 x.j.nc, .int .i64 x.j.la, .int .i64 x.j.lb, .int .i64 x.j.lc, .int .i64 x.j.wl, .int .i64 x.j.lv, .int .i64 x.n, .int .i64 x.a, .int .i64 x.b, .int .i64 x.c, .int .i64 kp]) := row_fresh w [.int .i64 1, .int .i64 x.s, .int .i64 x.j.id, .int .i64 x.j.pr, .int .i64 x.j.nd, .int .i64 x.j.na, .int .i64 x.j.nb, .int .i64 x.j.nc, .int .i64 x.j.la, .int .i64 x.j.lb, .int .i64 x.j.lc, .int .i64 x.j.wl, .int .i64 x.j.lv, .int .i64 x.n, .int .i64 x.a, .int .i64 x.b, .int .i64 x.c, .int .i64 kp] 30
  have HB : Hid (Below w.heap.size w (w.alloc (.cells #[.int .i64 1, .int .i64 x.s, .int .i64 x.j.id, .int .i64 x.j.pr, .int .i64 x.j.nd, .int .i64 x.j.na, .int .i64 x.j.nb, .int .i64 x.j.nc, .int .i64 x.j.la, .int .i64 x.j.lb, .int .i64 x.j.lc, .int .i64 x.j.wl, .int .i64 x.j.lv, .int .i64 x.n, .int .i64 x.a, .int .i64 x.b, .int .i64 x.c, .int .i64 kp] 30))) := low_alloc _ _
  generalize w.alloc (.cells #[.int .i64 1, .int .i64 x.s, .int .i64 x.j.id, .int .i64 x.j.pr, .int .i64 x.j.nd, .int .i64 x.j.na, .int .i64 x.j.nb, .int .i64 x.j.nc, .int .i64 x.j.la, .int .i64 x.j.lb, .int .i64 x.j.lc, .int .i64 x.j.wl, .int .i64 x.j.lv, .int .i64 x.n, .int .i64 x.a, .int .i64 x.b, .int .i64 x.c, .int .i64 kp] 30) = w0 at HR HB ⊢
  refine wpList_load_mid rfl 30 _ rfl w.heap.size 0 rfl [.int .i64 1, .int .i64 x.s, .int .i64 x.j.id, .int .i64 x.j.pr, .int .i64 x.j.nd, .int .i64 x.j.na, .int .i64 x.j.nb, .int .i64 x.j.nc, .int .i64 x.j.la, .int .i64 x.j.lb, .int .i64 x.j.lc, .int .i64 x.j.wl, .int .i64 x.j.lv, .int .i64 x.n, .int .i64 x.a, .int .i64 x.b, .int .i64 x.c, .int .i64 kp] _ HR.out.all Tryz.underlying30 rfl szStep ?_
  go_wp2_with fail
  refine (HO.out _).mono ?_
  rintro e w1 ⟨rfl, hb⟩
  replace HR : Hid (Row w1 w.heap.size [.int .i64 1, .int .i64 x.s, .int .i64 x.j.id, .int .i64 x.j.pr, .int .i64 x.j.nd, .int .i64 x.j.na, .int .i64 x.j.nb, .int .i64 x.j.nc, .int .i64 x.j.la, .int .i64 x.j.lb, .int .i64 x.j.lc, .int .i64 x.j.wl, .int .i64 x.j.lv, .int .i64 x.n, .int .i64 x.a, .int .i64 x.b, .int .i64 x.c, .int .i64 kp]) := HR.out.below hb
  replace HB : Hid (Below w.heap.size w w1) := below_then HB.out hb
  clear hb HO
  have d0 := HR.out.cell 0 _ rfl
  have hc := (HK.out.on HB.out).cell 1 _ rfl
  obtain ⟨y1, hy1, A1⟩ : ∃ y, Hid (y = (⟨([100, 111] ++ [32] : List UInt8).toArray⟩ : ByteArray)) ∧ ∀ W, (Op.stringOp .add ⟨#[100, 111]⟩ ⟨#[32]⟩).run Tryz.prog W = .ok (.string y) W := ⟨_, hid_rfl, add_l [100, 111] [32] (by decide) (by decide)⟩
  obtain ⟨N, hN⟩ : ∃ y : ByteArray, Hid (y = ⟨l.toArray⟩) := ⟨_, hid_rfl⟩
  obtain ⟨y2, hy2, A2⟩ : ∃ y, Hid (y = (⟨([100, 111] ++ [32] ++ l).toArray⟩ : ByteArray)) ∧ ∀ W, (Op.stringOp .add y1 N).run Tryz.prog W = .ok (.string y) W := ⟨_, hid_rfl, by rw [hy1.out, hN.out]; exact add_l _ l (by simp) (by have := HLl.out; omega)⟩
  rw [← hN.out] at HC
  clear hN hy1
  go_wp2_with (refine stay_load 28 ?_)
  refine ⟨?_⟩
  clear d0 hc
  refine wpList_load_mid rfl 28 _ rfl w.heap.size 1 rfl [.int .i64 x.s, .int .i64 x.j.id, .int .i64 x.j.pr, .int .i64 x.j.nd, .int .i64 x.j.na, .int .i64 x.j.nb, .int .i64 x.j.nc, .int .i64 x.j.la, .int .i64 x.j.lb, .int .i64 x.j.lc, .int .i64 x.j.wl, .int .i64 x.j.lv, .int .i64 x.n, .int .i64 x.a, .int .i64 x.b, .int .i64 x.c] _ (HR.out.sub 1 16) Tryz.underlying28 rfl szCmdC ?_
  go_wp2_with fail
  refine (HC.out _ (HT.out.on HB.out) (HW.out.on HB.out)).mono ?_
  rintro e w2 ⟨rfl, hb⟩
  replace HB : Hid (Below w.heap.size w w2) := below_then HB.out hb
  clear hb HR HC
  go_wp2_with fail
  go_ret
  exact ⟨by rw [HS.out, hy2.out]; rfl, HB.out⟩
set_option maxHeartbeats 2000000 in
set_option maxRecDepth 100000 in
theorem implStepText_2 (x : Cm) (kp : Int) (w : World) (h : stB 2 x kp = true) (hs : StT w) (ht : Tab w) (hk : KwT w) : Calls Tryz.prog 6 #[.agg #[.int .i64 2, .int .i64 x.s, .int .i64 x.j.id, .int .i64 x.j.pr, .int .i64 x.j.nd, .int .i64 x.j.na, .int .i64 x.j.nb, .int .i64 x.j.nc, .int .i64 x.j.la, .int .i64 x.j.lb, .int .i64 x.j.lc, .int .i64 x.j.wl, .int .i64 x.j.lv, .int .i64 x.n, .int .i64 x.a, .int .i64 x.b, .int .i64 x.c, .int .i64 kp]] w fun e w' => e = .returned (.string ⟨(stL 2 x kp).toArray⟩) ∧ Below w.heap.size w w' := by
  have HO : Hid (∀ W : World, Calls Tryz.prog 13 #[.agg #[.int .i64 2, .int .i64 x.s, .int .i64 x.j.id, .int .i64 x.j.pr, .int .i64 x.j.nd, .int .i64 x.j.na, .int .i64 x.j.nb, .int .i64 x.j.nc, .int .i64 x.j.la, .int .i64 x.j.lb, .int .i64 x.j.lc, .int .i64 x.j.wl, .int .i64 x.j.lv, .int .i64 x.n, .int .i64 x.a, .int .i64 x.b, .int .i64 x.c, .int .i64 kp]] W fun e w' => e = .returned (.bool true) ∧ Below W.heap.size W w') := fun W => by have := implStepOk_c 2 x kp W; rw [h] at this; exact this
  have HS : Hid (⟨(stL 2 x kp).toArray⟩ = (⟨([116, 111, 114, 110] ++ [32] ++ numL kp ++ [32] ++ ctL x.s x.j x.n x.a x.b x.c).toArray⟩ : ByteArray)) := by show _ = _; unfold stL; rw [h]; rfl
  have HC : Hid (∀ W : World, Tab W → KwT W → Calls Tryz.prog 14 #[.agg #[.int .i64 x.s, .int .i64 x.j.id, .int .i64 x.j.pr, .int .i64 x.j.nd, .int .i64 x.j.na, .int .i64 x.j.nb, .int .i64 x.j.nc, .int .i64 x.j.la, .int .i64 x.j.lb, .int .i64 x.j.lc, .int .i64 x.j.wl, .int .i64 x.j.lv, .int .i64 x.n, .int .i64 x.a, .int .i64 x.b, .int .i64 x.c]] W fun e w' => e = .returned (.string ⟨(ctL x.s x.j x.n x.a x.b x.c).toArray⟩) ∧ Below W.heap.size W w') := fun W ht hk => implCmdText_c x.s x.j x.n x.a x.b x.c W ht hk
  have HNm : Hid (∀ W : World, Tab W → Calls Tryz.prog 15 #[.int .i64 kp] W fun e w' => e = .returned (.string ⟨(numL kp).toArray⟩) ∧ Below W.heap.size W w') := fun W ht => implNumText_c kp W ht
  have HLl : Hid ((ctL x.s x.j x.n x.a x.b x.c).length ≤ 500) := ct_len x
  have HLn : Hid ((numL kp).length ≤ 10) := numL_len kp
  have HK : Hid (StT w) := hs
  have HT : Hid (Tab w) := ht
  have HW : Hid (KwT w) := hk
  generalize ctL x.s x.j x.n x.a x.b x.c = l at HS HC HLl
  generalize numL kp = m at HS HNm HLn
  clear h hs ht hk
  go_enter Tryz.func6, Tryz.ntmps6
  go_wp2_with (refine stay_load 30 ?_)
  refine ⟨?_⟩
  have HR : Hid (Row (w.alloc (.cells #[.int .i64 2, .int .i64 x.s, .int .i64 x.j.id, .int .i64 x.j.pr, .int .i64 x.j.nd, .int .i64 x.j.na, .int .i64 x.j.nb, .int .i64 x.j.nc, .int .i64 x.j.la, .int .i64 x.j.lb, .int .i64 x.j.lc, .int .i64 x.j.wl, .int .i64 x.j.lv, .int .i64 x.n, .int .i64 x.a, .int .i64 x.b, .int .i64 x.c, .int .i64 kp] 30)) w.heap.size [.int .i64 2, .int .i64 x.s, .int .i64 x.j.id, .int .i64 x.j.pr, .int .i64 x.j.nd, .int .i64 x.j.na, .int .i64 x.j.nb, .int .i64 x.j.nc, .int .i64 x.j.la, .int .i64 x.j.lb, .int .i64 x.j.lc, .int .i64 x.j.wl, .int .i64 x.j.lv, .int .i64 x.n, .int .i64 x.a, .int .i64 x.b, .int .i64 x.c, .int .i64 kp]) := row_fresh w [.int .i64 2, .int .i64 x.s, .int .i64 x.j.id, .int .i64 x.j.pr, .int .i64 x.j.nd, .int .i64 x.j.na, .int .i64 x.j.nb, .int .i64 x.j.nc, .int .i64 x.j.la, .int .i64 x.j.lb, .int .i64 x.j.lc, .int .i64 x.j.wl, .int .i64 x.j.lv, .int .i64 x.n, .int .i64 x.a, .int .i64 x.b, .int .i64 x.c, .int .i64 kp] 30
  have HB : Hid (Below w.heap.size w (w.alloc (.cells #[.int .i64 2, .int .i64 x.s, .int .i64 x.j.id, .int .i64 x.j.pr, .int .i64 x.j.nd, .int .i64 x.j.na, .int .i64 x.j.nb, .int .i64 x.j.nc, .int .i64 x.j.la, .int .i64 x.j.lb, .int .i64 x.j.lc, .int .i64 x.j.wl, .int .i64 x.j.lv, .int .i64 x.n, .int .i64 x.a, .int .i64 x.b, .int .i64 x.c, .int .i64 kp] 30))) := low_alloc _ _
  generalize w.alloc (.cells #[.int .i64 2, .int .i64 x.s, .int .i64 x.j.id, .int .i64 x.j.pr, .int .i64 x.j.nd, .int .i64 x.j.na, .int .i64 x.j.nb, .int .i64 x.j.nc, .int .i64 x.j.la, .int .i64 x.j.lb, .int .i64 x.j.lc, .int .i64 x.j.wl, .int .i64 x.j.lv, .int .i64 x.n, .int .i64 x.a, .int .i64 x.b, .int .i64 x.c, .int .i64 kp] 30) = w0 at HR HB ⊢
  refine wpList_load_mid rfl 30 _ rfl w.heap.size 0 rfl [.int .i64 2, .int .i64 x.s, .int .i64 x.j.id, .int .i64 x.j.pr, .int .i64 x.j.nd, .int .i64 x.j.na, .int .i64 x.j.nb, .int .i64 x.j.nc, .int .i64 x.j.la, .int .i64 x.j.lb, .int .i64 x.j.lc, .int .i64 x.j.wl, .int .i64 x.j.lv, .int .i64 x.n, .int .i64 x.a, .int .i64 x.b, .int .i64 x.c, .int .i64 kp] _ HR.out.all Tryz.underlying30 rfl szStep ?_
  go_wp2_with fail
  refine (HO.out _).mono ?_
  rintro e w1 ⟨rfl, hb⟩
  replace HR : Hid (Row w1 w.heap.size [.int .i64 2, .int .i64 x.s, .int .i64 x.j.id, .int .i64 x.j.pr, .int .i64 x.j.nd, .int .i64 x.j.na, .int .i64 x.j.nb, .int .i64 x.j.nc, .int .i64 x.j.la, .int .i64 x.j.lb, .int .i64 x.j.lc, .int .i64 x.j.wl, .int .i64 x.j.lv, .int .i64 x.n, .int .i64 x.a, .int .i64 x.b, .int .i64 x.c, .int .i64 kp]) := HR.out.below hb
  replace HB : Hid (Below w.heap.size w w1) := below_then HB.out hb
  clear hb HO
  have d0 := HR.out.cell 0 _ rfl
  have d17 := HR.out.cell 17 _ rfl
  have hc := (HK.out.on HB.out).cell 2 _ rfl
  obtain ⟨y1, hy1, A1⟩ : ∃ y, Hid (y = (⟨([116, 111, 114, 110] ++ [32] : List UInt8).toArray⟩ : ByteArray)) ∧ ∀ W, (Op.stringOp .add ⟨#[116, 111, 114, 110]⟩ ⟨#[32]⟩).run Tryz.prog W = .ok (.string y) W := ⟨_, hid_rfl, add_l [116, 111, 114, 110] [32] (by decide) (by decide)⟩
  obtain ⟨M, hM⟩ : ∃ y : ByteArray, Hid (y = ⟨m.toArray⟩) := ⟨_, hid_rfl⟩
  obtain ⟨y2, hy2, A2⟩ : ∃ y, Hid (y = (⟨([116, 111, 114, 110] ++ [32] ++ m).toArray⟩ : ByteArray)) ∧ ∀ W, (Op.stringOp .add y1 M).run Tryz.prog W = .ok (.string y) W := ⟨_, hid_rfl, by rw [hy1.out, hM.out]; exact add_l _ m (by simp) (by have := HLn.out; omega)⟩
  obtain ⟨y3, hy3, A3⟩ : ∃ y, Hid (y = (⟨([116, 111, 114, 110] ++ [32] ++ m ++ [32]).toArray⟩ : ByteArray)) ∧ ∀ W, (Op.stringOp .add y2 ⟨#[32]⟩).run Tryz.prog W = .ok (.string y) W := ⟨_, hid_rfl, by rw [hy2.out]; exact add_l _ [32] (by have := HLn.out; simp; omega) (by decide)⟩
  obtain ⟨N, hN⟩ : ∃ y : ByteArray, Hid (y = ⟨l.toArray⟩) := ⟨_, hid_rfl⟩
  obtain ⟨y4, hy4, A4⟩ : ∃ y, Hid (y = (⟨([116, 111, 114, 110] ++ [32] ++ m ++ [32] ++ l).toArray⟩ : ByteArray)) ∧ ∀ W, (Op.stringOp .add y3 N).run Tryz.prog W = .ok (.string y) W := ⟨_, hid_rfl, by rw [hy3.out, hN.out]; exact add_l _ l (by have := HLn.out; simp; omega) (by have := HLl.out; omega)⟩
  rw [← hN.out] at HC
  rw [← hM.out] at HNm
  clear hN hM hy1 hy2 hy3
  have HTV : Hid (Tab w1) := HT.out.on HB.out
  have HWV : Hid (KwT w1) := HW.out.on HB.out
  go_wp2_with fail
  clear d0 d17 hc
  go_region_held3 (fun w' => Below w1.heap.size w1 w' ∧ w'.cell? ⟨w.heap.size, 1, none⟩ = some (.int .i64 x.s) ∧ w'.cell? ⟨w.heap.size, 2, none⟩ = some (.int .i64 x.j.id) ∧ w'.cell? ⟨w.heap.size, 3, none⟩ = some (.int .i64 x.j.pr) ∧ w'.cell? ⟨w.heap.size, 4, none⟩ = some (.int .i64 x.j.nd) ∧ w'.cell? ⟨w.heap.size, 5, none⟩ = some (.int .i64 x.j.na) ∧ w'.cell? ⟨w.heap.size, 6, none⟩ = some (.int .i64 x.j.nb) ∧ w'.cell? ⟨w.heap.size, 7, none⟩ = some (.int .i64 x.j.nc) ∧ w'.cell? ⟨w.heap.size, 8, none⟩ = some (.int .i64 x.j.la) ∧ w'.cell? ⟨w.heap.size, 9, none⟩ = some (.int .i64 x.j.lb) ∧ w'.cell? ⟨w.heap.size, 10, none⟩ = some (.int .i64 x.j.lc) ∧ w'.cell? ⟨w.heap.size, 11, none⟩ = some (.int .i64 x.j.wl) ∧ w'.cell? ⟨w.heap.size, 12, none⟩ = some (.int .i64 x.j.lv) ∧ w'.cell? ⟨w.heap.size, 13, none⟩ = some (.int .i64 x.n) ∧ w'.cell? ⟨w.heap.size, 14, none⟩ = some (.int .i64 x.a) ∧ w'.cell? ⟨w.heap.size, 15, none⟩ = some (.int .i64 x.b) ∧ w'.cell? ⟨w.heap.size, 16, none⟩ = some (.int .i64 x.c) ∧ w'.cell? ⟨w.heap.size, 17, none⟩ = some (.int .i64 kp)) ((go_split_ands; refine heldS HR.out ?_; first | (with_reducible assumption) | (exact low_drew _) | (exact below_then (by with_reducible assumption) (by with_reducible assumption)) | (exact behind_alloc (by with_reducible assumption) _) | (go_grown; done)))
    (first
    | (go_at_call 15; refine (HNm.out _ (HTV.out.on (And.left (by with_reducible assumption)))).mono ?_; rintro e w2 ⟨rfl, hb1⟩)
    | (go_at_call 14; refine (HC.out _ (HTV.out.on (And.left (by with_reducible assumption))) (HWV.out.on (And.left (by with_reducible assumption)))).mono ?_; rintro e w3 ⟨rfl, hb2⟩))
  go_split_ands
  replace HB : Hid (Below w.heap.size w w3) := below_then HB.out (by with_reducible assumption)
  clear HR HC HNm
  go_wp2_with fail
  go_ret
  exact ⟨by rw [HS.out]; exact congrArg _ (congrArg _ hy4.out), HB.out⟩
theorem implStepText_c (k : Int) (x : Cm) (kp : Int) (w : World) (hs : StT w) (ht : Tab w) (hk : KwT w) : Calls Tryz.prog 6 #[.agg #[.int .i64 k, .int .i64 x.s, .int .i64 x.j.id, .int .i64 x.j.pr, .int .i64 x.j.nd, .int .i64 x.j.na, .int .i64 x.j.nb, .int .i64 x.j.nc, .int .i64 x.j.la, .int .i64 x.j.lb, .int .i64 x.j.lc, .int .i64 x.j.wl, .int .i64 x.j.lv, .int .i64 x.n, .int .i64 x.a, .int .i64 x.b, .int .i64 x.c, .int .i64 kp]] w fun e w' => e = .returned (.string ⟨(stL k x kp).toArray⟩) ∧ Below w.heap.size w w' := by
  cases h : stB k x kp with
  | false =>
    have e : stL k x kp = [] := by unfold stL; rw [h]; rfl
    rw [e]
    exact implStepText_no k x kp w h
  | true =>
    have h4 : k = 1 ∨ k = 2 ∨ k = 3 ∨ k = 4 := by
      unfold stB at h
      by_cases h1 : k = 1
      · exact .inl h1
      · by_cases h2 : k = 2
        · exact .inr (.inl h2)
        · by_cases h3 : k = 3 ∨ k = 4
          · exact .inr (.inr h3)
          · rw [if_neg h1, if_neg h2, if_neg h3] at h; cases h
    rcases h4 with rfl | rfl | rfl | rfl
    · exact implStepText_1 x kp w h hs ht hk
    · exact implStepText_2 x kp w h hs ht hk
    · exact implStepText_3 x kp w h hs
    · exact implStepText_4 x kp w h hs
end Go.Proofs.YtejleghdgdbbnaaGreatDoor

namespace Go.Proofs.YtejleghdgdbbnaaGreatDoor
open Go.ChangeShapes Go.WideShapes Go.ChangeAt Go.RowKit

theorem stm_text (l : List UInt8) : (⟨l.toArray⟩ : ByteArray).toList.isEmpty = l.isEmpty := by rw [ByteArray.toList_eq]
set_option maxHeartbeats 2000000 in
set_option maxRecDepth 100000 in
theorem specStepText_no (x : Cm) (kp : Int) (w : World) (k : Int) (h : k < 1 ∨ 4 < k) : Calls Tryz.prog 7 #[.agg #[.int .i64 k, .int .i64 x.s, .int .i64 x.j.id, .int .i64 x.j.pr, .int .i64 x.j.nd, .int .i64 x.j.na, .int .i64 x.j.nb, .int .i64 x.j.nc, .int .i64 x.j.la, .int .i64 x.j.lb, .int .i64 x.j.lc, .int .i64 x.j.wl, .int .i64 x.j.lv, .int .i64 x.n, .int .i64 x.a, .int .i64 x.b, .int .i64 x.c, .int .i64 kp]] w fun e w' => e = .returned (.string ⟨(stL k x kp).toArray⟩) ∧ Below w.heap.size w w' := by
  have hs : stL k x kp = [] := by unfold stL; rw [show stB k x kp = false by unfold stB; rw [if_neg (by omega), if_neg (by omega), if_neg (by omega)]]; rfl
  rw [hs]
  have n1 : (k == 1) = false := by simp; omega
  have n2 : (k == 2) = false := by simp; omega
  have n3 : (k == 3) = false := by simp; omega
  have n4 : (k == 4) = false := by simp; omega
  clear h hs
  have HC : Hid (∀ W : World, Calls Tryz.prog 16 #[.agg #[.int .i64 x.s, .int .i64 x.j.id, .int .i64 x.j.pr, .int .i64 x.j.nd, .int .i64 x.j.na, .int .i64 x.j.nb, .int .i64 x.j.nc, .int .i64 x.j.la, .int .i64 x.j.lb, .int .i64 x.j.lc, .int .i64 x.j.wl, .int .i64 x.j.lv, .int .i64 x.n, .int .i64 x.a, .int .i64 x.b, .int .i64 x.c]] W fun e w' => e = .returned (.string ⟨(ctL x.s x.j x.n x.a x.b x.c).toArray⟩) ∧ Below W.heap.size W w') := fun W => specCmdText_c x.s x.j x.n x.a x.b x.c W
  generalize (⟨(ctL x.s x.j x.n x.a x.b x.c).toArray⟩ : ByteArray) = T at HC
  go_enter Tryz.func7, Tryz.ntmps7
  go_wp2_with (refine stay_load 28 ?_)
  refine ⟨?_⟩
  have HR0 := row_fresh w [.int .i64 k, .int .i64 x.s, .int .i64 x.j.id, .int .i64 x.j.pr, .int .i64 x.j.nd, .int .i64 x.j.na, .int .i64 x.j.nb, .int .i64 x.j.nc, .int .i64 x.j.la, .int .i64 x.j.lb, .int .i64 x.j.lc, .int .i64 x.j.wl, .int .i64 x.j.lv, .int .i64 x.n, .int .i64 x.a, .int .i64 x.b, .int .i64 x.c, .int .i64 kp] 30
  have HR : Hid (Row ((w.alloc (.cells #[.int .i64 k, .int .i64 x.s, .int .i64 x.j.id, .int .i64 x.j.pr, .int .i64 x.j.nd, .int .i64 x.j.na, .int .i64 x.j.nb, .int .i64 x.j.nc, .int .i64 x.j.la, .int .i64 x.j.lb, .int .i64 x.j.lc, .int .i64 x.j.wl, .int .i64 x.j.lv, .int .i64 x.n, .int .i64 x.a, .int .i64 x.b, .int .i64 x.c, .int .i64 kp] 30)).alloc (.cells #[.int .i64 0, .int .i64 0, .int .i64 0, .int .i64 0, .int .i64 0, .int .i64 0, .int .i64 0, .int .i64 0, .int .i64 0, .int .i64 0, .int .i64 0, .int .i64 0, .int .i64 0, .int .i64 0, .int .i64 0, .int .i64 0] 28)) w.heap.size [.int .i64 k, .int .i64 x.s, .int .i64 x.j.id, .int .i64 x.j.pr, .int .i64 x.j.nd, .int .i64 x.j.na, .int .i64 x.j.nb, .int .i64 x.j.nc, .int .i64 x.j.la, .int .i64 x.j.lb, .int .i64 x.j.lc, .int .i64 x.j.wl, .int .i64 x.j.lv, .int .i64 x.n, .int .i64 x.a, .int .i64 x.b, .int .i64 x.c, .int .i64 kp]) := HR0.below (low_alloc _ _)
  have HN : Hid (Row ((w.alloc (.cells #[.int .i64 k, .int .i64 x.s, .int .i64 x.j.id, .int .i64 x.j.pr, .int .i64 x.j.nd, .int .i64 x.j.na, .int .i64 x.j.nb, .int .i64 x.j.nc, .int .i64 x.j.la, .int .i64 x.j.lb, .int .i64 x.j.lc, .int .i64 x.j.wl, .int .i64 x.j.lv, .int .i64 x.n, .int .i64 x.a, .int .i64 x.b, .int .i64 x.c, .int .i64 kp] 30)).alloc (.cells #[.int .i64 0, .int .i64 0, .int .i64 0, .int .i64 0, .int .i64 0, .int .i64 0, .int .i64 0, .int .i64 0, .int .i64 0, .int .i64 0, .int .i64 0, .int .i64 0, .int .i64 0, .int .i64 0, .int .i64 0, .int .i64 0] 28)) (w.heap.size + 1) [.int .i64 0, .int .i64 0, .int .i64 0, .int .i64 0, .int .i64 0, .int .i64 0, .int .i64 0, .int .i64 0, .int .i64 0, .int .i64 0, .int .i64 0, .int .i64 0, .int .i64 0, .int .i64 0, .int .i64 0, .int .i64 0]) := by
    have h := row_fresh (w.alloc (.cells #[.int .i64 k, .int .i64 x.s, .int .i64 x.j.id, .int .i64 x.j.pr, .int .i64 x.j.nd, .int .i64 x.j.na, .int .i64 x.j.nb, .int .i64 x.j.nc, .int .i64 x.j.la, .int .i64 x.j.lb, .int .i64 x.j.lc, .int .i64 x.j.wl, .int .i64 x.j.lv, .int .i64 x.n, .int .i64 x.a, .int .i64 x.b, .int .i64 x.c, .int .i64 kp] 30)) [.int .i64 0, .int .i64 0, .int .i64 0, .int .i64 0, .int .i64 0, .int .i64 0, .int .i64 0, .int .i64 0, .int .i64 0, .int .i64 0, .int .i64 0, .int .i64 0, .int .i64 0, .int .i64 0, .int .i64 0, .int .i64 0] 28
    rw [show (w.alloc (.cells #[.int .i64 k, .int .i64 x.s, .int .i64 x.j.id, .int .i64 x.j.pr, .int .i64 x.j.nd, .int .i64 x.j.na, .int .i64 x.j.nb, .int .i64 x.j.nc, .int .i64 x.j.la, .int .i64 x.j.lb, .int .i64 x.j.lc, .int .i64 x.j.wl, .int .i64 x.j.lv, .int .i64 x.n, .int .i64 x.a, .int .i64 x.b, .int .i64 x.c, .int .i64 kp] 30)).heap.size = w.heap.size + 1 by simp [go_sem]] at h
    exact h
  have HB : Hid (Below w.heap.size w ((w.alloc (.cells #[.int .i64 k, .int .i64 x.s, .int .i64 x.j.id, .int .i64 x.j.pr, .int .i64 x.j.nd, .int .i64 x.j.na, .int .i64 x.j.nb, .int .i64 x.j.nc, .int .i64 x.j.la, .int .i64 x.j.lb, .int .i64 x.j.lc, .int .i64 x.j.wl, .int .i64 x.j.lv, .int .i64 x.n, .int .i64 x.a, .int .i64 x.b, .int .i64 x.c, .int .i64 kp] 30)).alloc (.cells #[.int .i64 0, .int .i64 0, .int .i64 0, .int .i64 0, .int .i64 0, .int .i64 0, .int .i64 0, .int .i64 0, .int .i64 0, .int .i64 0, .int .i64 0, .int .i64 0, .int .i64 0, .int .i64 0, .int .i64 0, .int .i64 0] 28))) := behind_alloc (low_alloc _ _) _
  clear HR0
  generalize (w.alloc (.cells #[.int .i64 k, .int .i64 x.s, .int .i64 x.j.id, .int .i64 x.j.pr, .int .i64 x.j.nd, .int .i64 x.j.na, .int .i64 x.j.nb, .int .i64 x.j.nc, .int .i64 x.j.la, .int .i64 x.j.lb, .int .i64 x.j.lc, .int .i64 x.j.wl, .int .i64 x.j.lv, .int .i64 x.n, .int .i64 x.a, .int .i64 x.b, .int .i64 x.c, .int .i64 kp] 30)).alloc (.cells #[.int .i64 0, .int .i64 0, .int .i64 0, .int .i64 0, .int .i64 0, .int .i64 0, .int .i64 0, .int .i64 0, .int .i64 0, .int .i64 0, .int .i64 0, .int .i64 0, .int .i64 0, .int .i64 0, .int .i64 0, .int .i64 0] 28) = w0 at HR HN HB ⊢
  refine wpList_load_mid rfl 28 _ rfl w.heap.size 1 rfl [.int .i64 x.s, .int .i64 x.j.id, .int .i64 x.j.pr, .int .i64 x.j.nd, .int .i64 x.j.na, .int .i64 x.j.nb, .int .i64 x.j.nc, .int .i64 x.j.la, .int .i64 x.j.lb, .int .i64 x.j.lc, .int .i64 x.j.wl, .int .i64 x.j.lv, .int .i64 x.n, .int .i64 x.a, .int .i64 x.b, .int .i64 x.c] _ (HR.out.sub 1 16) Tryz.underlying28 rfl szCmdC ?_
  go_wp2_with fail
  refine (HC.out _).mono ?_
  rintro e w1 ⟨rfl, hb⟩
  replace HR : Hid (Row w1 w.heap.size [.int .i64 k, .int .i64 x.s, .int .i64 x.j.id, .int .i64 x.j.pr, .int .i64 x.j.nd, .int .i64 x.j.na, .int .i64 x.j.nb, .int .i64 x.j.nc, .int .i64 x.j.la, .int .i64 x.j.lb, .int .i64 x.j.lc, .int .i64 x.j.wl, .int .i64 x.j.lv, .int .i64 x.n, .int .i64 x.a, .int .i64 x.b, .int .i64 x.c, .int .i64 kp]) := HR.out.below hb
  replace HN : Hid (Row w1 (w.heap.size + 1) [.int .i64 0, .int .i64 0, .int .i64 0, .int .i64 0, .int .i64 0, .int .i64 0, .int .i64 0, .int .i64 0, .int .i64 0, .int .i64 0, .int .i64 0, .int .i64 0, .int .i64 0, .int .i64 0, .int .i64 0, .int .i64 0]) := HN.out.below hb
  replace HB : Hid (Below w.heap.size w w1) := below_then HB.out hb
  clear hb HC
  have d0 := HR.out.cell 0 _ rfl
  have d17 := HR.out.cell 17 _ rfl
  clear HN d17
  go_wp2_with fail
  go_ret
  exact ⟨rfl, HB.out⟩
set_option maxHeartbeats 2000000 in
set_option maxRecDepth 100000 in
theorem specStepText_3 (x : Cm) (kp : Int) (w : World) : Calls Tryz.prog 7 #[.agg #[.int .i64 3, .int .i64 x.s, .int .i64 x.j.id, .int .i64 x.j.pr, .int .i64 x.j.nd, .int .i64 x.j.na, .int .i64 x.j.nb, .int .i64 x.j.nc, .int .i64 x.j.la, .int .i64 x.j.lb, .int .i64 x.j.lc, .int .i64 x.j.wl, .int .i64 x.j.lv, .int .i64 x.n, .int .i64 x.a, .int .i64 x.b, .int .i64 x.c, .int .i64 kp]] w fun e w' => e = .returned (.string ⟨(stL 3 x kp).toArray⟩) ∧ Below w.heap.size w w' := by
  have HS : Hid (stL 3 x kp = bif (cmz x && kp == 0) then (⟨#[99,114,97,115,104]⟩ : ByteArray).data.toList else []) := rfl
  have hq := ceq0 x
  have HC : Hid (∀ W : World, Calls Tryz.prog 16 #[.agg #[.int .i64 x.s, .int .i64 x.j.id, .int .i64 x.j.pr, .int .i64 x.j.nd, .int .i64 x.j.na, .int .i64 x.j.nb, .int .i64 x.j.nc, .int .i64 x.j.la, .int .i64 x.j.lb, .int .i64 x.j.lc, .int .i64 x.j.wl, .int .i64 x.j.lv, .int .i64 x.n, .int .i64 x.a, .int .i64 x.b, .int .i64 x.c]] W fun e w' => e = .returned (.string ⟨(ctL x.s x.j x.n x.a x.b x.c).toArray⟩) ∧ Below W.heap.size W w') := fun W => specCmdText_c x.s x.j x.n x.a x.b x.c W
  generalize (⟨(ctL x.s x.j x.n x.a x.b x.c).toArray⟩ : ByteArray) = T at HC
  generalize cmz x = z at hq HS
  go_enter Tryz.func7, Tryz.ntmps7
  go_wp2_with (refine stay_load 28 ?_)
  refine ⟨?_⟩
  have HR0 := row_fresh w [.int .i64 3, .int .i64 x.s, .int .i64 x.j.id, .int .i64 x.j.pr, .int .i64 x.j.nd, .int .i64 x.j.na, .int .i64 x.j.nb, .int .i64 x.j.nc, .int .i64 x.j.la, .int .i64 x.j.lb, .int .i64 x.j.lc, .int .i64 x.j.wl, .int .i64 x.j.lv, .int .i64 x.n, .int .i64 x.a, .int .i64 x.b, .int .i64 x.c, .int .i64 kp] 30
  have HR : Hid (Row ((w.alloc (.cells #[.int .i64 3, .int .i64 x.s, .int .i64 x.j.id, .int .i64 x.j.pr, .int .i64 x.j.nd, .int .i64 x.j.na, .int .i64 x.j.nb, .int .i64 x.j.nc, .int .i64 x.j.la, .int .i64 x.j.lb, .int .i64 x.j.lc, .int .i64 x.j.wl, .int .i64 x.j.lv, .int .i64 x.n, .int .i64 x.a, .int .i64 x.b, .int .i64 x.c, .int .i64 kp] 30)).alloc (.cells #[.int .i64 0, .int .i64 0, .int .i64 0, .int .i64 0, .int .i64 0, .int .i64 0, .int .i64 0, .int .i64 0, .int .i64 0, .int .i64 0, .int .i64 0, .int .i64 0, .int .i64 0, .int .i64 0, .int .i64 0, .int .i64 0] 28)) w.heap.size [.int .i64 3, .int .i64 x.s, .int .i64 x.j.id, .int .i64 x.j.pr, .int .i64 x.j.nd, .int .i64 x.j.na, .int .i64 x.j.nb, .int .i64 x.j.nc, .int .i64 x.j.la, .int .i64 x.j.lb, .int .i64 x.j.lc, .int .i64 x.j.wl, .int .i64 x.j.lv, .int .i64 x.n, .int .i64 x.a, .int .i64 x.b, .int .i64 x.c, .int .i64 kp]) := HR0.below (low_alloc _ _)
  have HN : Hid (Row ((w.alloc (.cells #[.int .i64 3, .int .i64 x.s, .int .i64 x.j.id, .int .i64 x.j.pr, .int .i64 x.j.nd, .int .i64 x.j.na, .int .i64 x.j.nb, .int .i64 x.j.nc, .int .i64 x.j.la, .int .i64 x.j.lb, .int .i64 x.j.lc, .int .i64 x.j.wl, .int .i64 x.j.lv, .int .i64 x.n, .int .i64 x.a, .int .i64 x.b, .int .i64 x.c, .int .i64 kp] 30)).alloc (.cells #[.int .i64 0, .int .i64 0, .int .i64 0, .int .i64 0, .int .i64 0, .int .i64 0, .int .i64 0, .int .i64 0, .int .i64 0, .int .i64 0, .int .i64 0, .int .i64 0, .int .i64 0, .int .i64 0, .int .i64 0, .int .i64 0] 28)) (w.heap.size + 1) [.int .i64 0, .int .i64 0, .int .i64 0, .int .i64 0, .int .i64 0, .int .i64 0, .int .i64 0, .int .i64 0, .int .i64 0, .int .i64 0, .int .i64 0, .int .i64 0, .int .i64 0, .int .i64 0, .int .i64 0, .int .i64 0]) := by
    have h := row_fresh (w.alloc (.cells #[.int .i64 3, .int .i64 x.s, .int .i64 x.j.id, .int .i64 x.j.pr, .int .i64 x.j.nd, .int .i64 x.j.na, .int .i64 x.j.nb, .int .i64 x.j.nc, .int .i64 x.j.la, .int .i64 x.j.lb, .int .i64 x.j.lc, .int .i64 x.j.wl, .int .i64 x.j.lv, .int .i64 x.n, .int .i64 x.a, .int .i64 x.b, .int .i64 x.c, .int .i64 kp] 30)) [.int .i64 0, .int .i64 0, .int .i64 0, .int .i64 0, .int .i64 0, .int .i64 0, .int .i64 0, .int .i64 0, .int .i64 0, .int .i64 0, .int .i64 0, .int .i64 0, .int .i64 0, .int .i64 0, .int .i64 0, .int .i64 0] 28
    rw [show (w.alloc (.cells #[.int .i64 3, .int .i64 x.s, .int .i64 x.j.id, .int .i64 x.j.pr, .int .i64 x.j.nd, .int .i64 x.j.na, .int .i64 x.j.nb, .int .i64 x.j.nc, .int .i64 x.j.la, .int .i64 x.j.lb, .int .i64 x.j.lc, .int .i64 x.j.wl, .int .i64 x.j.lv, .int .i64 x.n, .int .i64 x.a, .int .i64 x.b, .int .i64 x.c, .int .i64 kp] 30)).heap.size = w.heap.size + 1 by simp [go_sem]] at h
    exact h
  have HB : Hid (Below w.heap.size w ((w.alloc (.cells #[.int .i64 3, .int .i64 x.s, .int .i64 x.j.id, .int .i64 x.j.pr, .int .i64 x.j.nd, .int .i64 x.j.na, .int .i64 x.j.nb, .int .i64 x.j.nc, .int .i64 x.j.la, .int .i64 x.j.lb, .int .i64 x.j.lc, .int .i64 x.j.wl, .int .i64 x.j.lv, .int .i64 x.n, .int .i64 x.a, .int .i64 x.b, .int .i64 x.c, .int .i64 kp] 30)).alloc (.cells #[.int .i64 0, .int .i64 0, .int .i64 0, .int .i64 0, .int .i64 0, .int .i64 0, .int .i64 0, .int .i64 0, .int .i64 0, .int .i64 0, .int .i64 0, .int .i64 0, .int .i64 0, .int .i64 0, .int .i64 0, .int .i64 0] 28))) := behind_alloc (low_alloc _ _) _
  clear HR0
  generalize (w.alloc (.cells #[.int .i64 3, .int .i64 x.s, .int .i64 x.j.id, .int .i64 x.j.pr, .int .i64 x.j.nd, .int .i64 x.j.na, .int .i64 x.j.nb, .int .i64 x.j.nc, .int .i64 x.j.la, .int .i64 x.j.lb, .int .i64 x.j.lc, .int .i64 x.j.wl, .int .i64 x.j.lv, .int .i64 x.n, .int .i64 x.a, .int .i64 x.b, .int .i64 x.c, .int .i64 kp] 30)).alloc (.cells #[.int .i64 0, .int .i64 0, .int .i64 0, .int .i64 0, .int .i64 0, .int .i64 0, .int .i64 0, .int .i64 0, .int .i64 0, .int .i64 0, .int .i64 0, .int .i64 0, .int .i64 0, .int .i64 0, .int .i64 0, .int .i64 0] 28) = w0 at HR HN HB ⊢
  refine wpList_load_mid rfl 28 _ rfl w.heap.size 1 rfl [.int .i64 x.s, .int .i64 x.j.id, .int .i64 x.j.pr, .int .i64 x.j.nd, .int .i64 x.j.na, .int .i64 x.j.nb, .int .i64 x.j.nc, .int .i64 x.j.la, .int .i64 x.j.lb, .int .i64 x.j.lc, .int .i64 x.j.wl, .int .i64 x.j.lv, .int .i64 x.n, .int .i64 x.a, .int .i64 x.b, .int .i64 x.c] _ (HR.out.sub 1 16) Tryz.underlying28 rfl szCmdC ?_
  go_wp2_with fail
  refine (HC.out _).mono ?_
  rintro e w1 ⟨rfl, hb⟩
  replace HR : Hid (Row w1 w.heap.size [.int .i64 3, .int .i64 x.s, .int .i64 x.j.id, .int .i64 x.j.pr, .int .i64 x.j.nd, .int .i64 x.j.na, .int .i64 x.j.nb, .int .i64 x.j.nc, .int .i64 x.j.la, .int .i64 x.j.lb, .int .i64 x.j.lc, .int .i64 x.j.wl, .int .i64 x.j.lv, .int .i64 x.n, .int .i64 x.a, .int .i64 x.b, .int .i64 x.c, .int .i64 kp]) := HR.out.below hb
  replace HN : Hid (Row w1 (w.heap.size + 1) [.int .i64 0, .int .i64 0, .int .i64 0, .int .i64 0, .int .i64 0, .int .i64 0, .int .i64 0, .int .i64 0, .int .i64 0, .int .i64 0, .int .i64 0, .int .i64 0, .int .i64 0, .int .i64 0, .int .i64 0, .int .i64 0]) := HN.out.below hb
  replace HB : Hid (Below w.heap.size w w1) := below_then HB.out hb
  clear hb HC
  have d0 := HR.out.cell 0 _ rfl
  have d17 := HR.out.cell 17 _ rfl
  go_wp2_with (refine stay_load 28 ?_)
  refine ⟨?_⟩
  refine wpList_load_mid rfl 28 _ rfl w.heap.size 1 rfl [.int .i64 x.s, .int .i64 x.j.id, .int .i64 x.j.pr, .int .i64 x.j.nd, .int .i64 x.j.na, .int .i64 x.j.nb, .int .i64 x.j.nc, .int .i64 x.j.la, .int .i64 x.j.lb, .int .i64 x.j.lc, .int .i64 x.j.wl, .int .i64 x.j.lv, .int .i64 x.n, .int .i64 x.a, .int .i64 x.b, .int .i64 x.c] _ (HR.out.sub 1 16) Tryz.underlying28 rfl szCmdC ?_
  go_wp2_with (refine stay_load 28 ?_)
  refine ⟨?_⟩
  refine wpList_load_mid rfl 28 _ rfl (w.heap.size + 1) 0 rfl [.int .i64 0, .int .i64 0, .int .i64 0, .int .i64 0, .int .i64 0, .int .i64 0, .int .i64 0, .int .i64 0, .int .i64 0, .int .i64 0, .int .i64 0, .int .i64 0, .int .i64 0, .int .i64 0, .int .i64 0, .int .i64 0] _ HN.out.all Tryz.underlying28 rfl szCmdC ?_
  cases z
  · go_wp2_with fail
    go_ret
    exact ⟨by rw [HS.out]; rfl, HB.out⟩
  · by_cases h0 : kp = 0
    · have e0 : (kp == 0) = true := by simp [h0]
      rw [e0] at HS
      clear h0
      go_wp2_with fail
      go_ret
      exact ⟨by rw [HS.out]; rfl, HB.out⟩
    · have e0 : (kp == 0) = false := by simp [h0]
      rw [e0] at HS
      clear h0
      go_wp2_with fail
      go_ret
      exact ⟨by rw [HS.out]; rfl, HB.out⟩
set_option maxHeartbeats 2000000 in
set_option maxRecDepth 100000 in
theorem specStepText_4 (x : Cm) (kp : Int) (w : World) : Calls Tryz.prog 7 #[.agg #[.int .i64 4, .int .i64 x.s, .int .i64 x.j.id, .int .i64 x.j.pr, .int .i64 x.j.nd, .int .i64 x.j.na, .int .i64 x.j.nb, .int .i64 x.j.nc, .int .i64 x.j.la, .int .i64 x.j.lb, .int .i64 x.j.lc, .int .i64 x.j.wl, .int .i64 x.j.lv, .int .i64 x.n, .int .i64 x.a, .int .i64 x.b, .int .i64 x.c, .int .i64 kp]] w fun e w' => e = .returned (.string ⟨(stL 4 x kp).toArray⟩) ∧ Below w.heap.size w w' := by
  have HS : Hid (stL 4 x kp = bif (cmz x && kp == 0) then (⟨#[115,116,97,114,116]⟩ : ByteArray).data.toList else []) := rfl
  have hq := ceq0 x
  have HC : Hid (∀ W : World, Calls Tryz.prog 16 #[.agg #[.int .i64 x.s, .int .i64 x.j.id, .int .i64 x.j.pr, .int .i64 x.j.nd, .int .i64 x.j.na, .int .i64 x.j.nb, .int .i64 x.j.nc, .int .i64 x.j.la, .int .i64 x.j.lb, .int .i64 x.j.lc, .int .i64 x.j.wl, .int .i64 x.j.lv, .int .i64 x.n, .int .i64 x.a, .int .i64 x.b, .int .i64 x.c]] W fun e w' => e = .returned (.string ⟨(ctL x.s x.j x.n x.a x.b x.c).toArray⟩) ∧ Below W.heap.size W w') := fun W => specCmdText_c x.s x.j x.n x.a x.b x.c W
  generalize (⟨(ctL x.s x.j x.n x.a x.b x.c).toArray⟩ : ByteArray) = T at HC
  generalize cmz x = z at hq HS
  go_enter Tryz.func7, Tryz.ntmps7
  go_wp2_with (refine stay_load 28 ?_)
  refine ⟨?_⟩
  have HR0 := row_fresh w [.int .i64 4, .int .i64 x.s, .int .i64 x.j.id, .int .i64 x.j.pr, .int .i64 x.j.nd, .int .i64 x.j.na, .int .i64 x.j.nb, .int .i64 x.j.nc, .int .i64 x.j.la, .int .i64 x.j.lb, .int .i64 x.j.lc, .int .i64 x.j.wl, .int .i64 x.j.lv, .int .i64 x.n, .int .i64 x.a, .int .i64 x.b, .int .i64 x.c, .int .i64 kp] 30
  have HR : Hid (Row ((w.alloc (.cells #[.int .i64 4, .int .i64 x.s, .int .i64 x.j.id, .int .i64 x.j.pr, .int .i64 x.j.nd, .int .i64 x.j.na, .int .i64 x.j.nb, .int .i64 x.j.nc, .int .i64 x.j.la, .int .i64 x.j.lb, .int .i64 x.j.lc, .int .i64 x.j.wl, .int .i64 x.j.lv, .int .i64 x.n, .int .i64 x.a, .int .i64 x.b, .int .i64 x.c, .int .i64 kp] 30)).alloc (.cells #[.int .i64 0, .int .i64 0, .int .i64 0, .int .i64 0, .int .i64 0, .int .i64 0, .int .i64 0, .int .i64 0, .int .i64 0, .int .i64 0, .int .i64 0, .int .i64 0, .int .i64 0, .int .i64 0, .int .i64 0, .int .i64 0] 28)) w.heap.size [.int .i64 4, .int .i64 x.s, .int .i64 x.j.id, .int .i64 x.j.pr, .int .i64 x.j.nd, .int .i64 x.j.na, .int .i64 x.j.nb, .int .i64 x.j.nc, .int .i64 x.j.la, .int .i64 x.j.lb, .int .i64 x.j.lc, .int .i64 x.j.wl, .int .i64 x.j.lv, .int .i64 x.n, .int .i64 x.a, .int .i64 x.b, .int .i64 x.c, .int .i64 kp]) := HR0.below (low_alloc _ _)
  have HN : Hid (Row ((w.alloc (.cells #[.int .i64 4, .int .i64 x.s, .int .i64 x.j.id, .int .i64 x.j.pr, .int .i64 x.j.nd, .int .i64 x.j.na, .int .i64 x.j.nb, .int .i64 x.j.nc, .int .i64 x.j.la, .int .i64 x.j.lb, .int .i64 x.j.lc, .int .i64 x.j.wl, .int .i64 x.j.lv, .int .i64 x.n, .int .i64 x.a, .int .i64 x.b, .int .i64 x.c, .int .i64 kp] 30)).alloc (.cells #[.int .i64 0, .int .i64 0, .int .i64 0, .int .i64 0, .int .i64 0, .int .i64 0, .int .i64 0, .int .i64 0, .int .i64 0, .int .i64 0, .int .i64 0, .int .i64 0, .int .i64 0, .int .i64 0, .int .i64 0, .int .i64 0] 28)) (w.heap.size + 1) [.int .i64 0, .int .i64 0, .int .i64 0, .int .i64 0, .int .i64 0, .int .i64 0, .int .i64 0, .int .i64 0, .int .i64 0, .int .i64 0, .int .i64 0, .int .i64 0, .int .i64 0, .int .i64 0, .int .i64 0, .int .i64 0]) := by
    have h := row_fresh (w.alloc (.cells #[.int .i64 4, .int .i64 x.s, .int .i64 x.j.id, .int .i64 x.j.pr, .int .i64 x.j.nd, .int .i64 x.j.na, .int .i64 x.j.nb, .int .i64 x.j.nc, .int .i64 x.j.la, .int .i64 x.j.lb, .int .i64 x.j.lc, .int .i64 x.j.wl, .int .i64 x.j.lv, .int .i64 x.n, .int .i64 x.a, .int .i64 x.b, .int .i64 x.c, .int .i64 kp] 30)) [.int .i64 0, .int .i64 0, .int .i64 0, .int .i64 0, .int .i64 0, .int .i64 0, .int .i64 0, .int .i64 0, .int .i64 0, .int .i64 0, .int .i64 0, .int .i64 0, .int .i64 0, .int .i64 0, .int .i64 0, .int .i64 0] 28
    rw [show (w.alloc (.cells #[.int .i64 4, .int .i64 x.s, .int .i64 x.j.id, .int .i64 x.j.pr, .int .i64 x.j.nd, .int .i64 x.j.na, .int .i64 x.j.nb, .int .i64 x.j.nc, .int .i64 x.j.la, .int .i64 x.j.lb, .int .i64 x.j.lc, .int .i64 x.j.wl, .int .i64 x.j.lv, .int .i64 x.n, .int .i64 x.a, .int .i64 x.b, .int .i64 x.c, .int .i64 kp] 30)).heap.size = w.heap.size + 1 by simp [go_sem]] at h
    exact h
  have HB : Hid (Below w.heap.size w ((w.alloc (.cells #[.int .i64 4, .int .i64 x.s, .int .i64 x.j.id, .int .i64 x.j.pr, .int .i64 x.j.nd, .int .i64 x.j.na, .int .i64 x.j.nb, .int .i64 x.j.nc, .int .i64 x.j.la, .int .i64 x.j.lb, .int .i64 x.j.lc, .int .i64 x.j.wl, .int .i64 x.j.lv, .int .i64 x.n, .int .i64 x.a, .int .i64 x.b, .int .i64 x.c, .int .i64 kp] 30)).alloc (.cells #[.int .i64 0, .int .i64 0, .int .i64 0, .int .i64 0, .int .i64 0, .int .i64 0, .int .i64 0, .int .i64 0, .int .i64 0, .int .i64 0, .int .i64 0, .int .i64 0, .int .i64 0, .int .i64 0, .int .i64 0, .int .i64 0] 28))) := behind_alloc (low_alloc _ _) _
  clear HR0
  generalize (w.alloc (.cells #[.int .i64 4, .int .i64 x.s, .int .i64 x.j.id, .int .i64 x.j.pr, .int .i64 x.j.nd, .int .i64 x.j.na, .int .i64 x.j.nb, .int .i64 x.j.nc, .int .i64 x.j.la, .int .i64 x.j.lb, .int .i64 x.j.lc, .int .i64 x.j.wl, .int .i64 x.j.lv, .int .i64 x.n, .int .i64 x.a, .int .i64 x.b, .int .i64 x.c, .int .i64 kp] 30)).alloc (.cells #[.int .i64 0, .int .i64 0, .int .i64 0, .int .i64 0, .int .i64 0, .int .i64 0, .int .i64 0, .int .i64 0, .int .i64 0, .int .i64 0, .int .i64 0, .int .i64 0, .int .i64 0, .int .i64 0, .int .i64 0, .int .i64 0] 28) = w0 at HR HN HB ⊢
  refine wpList_load_mid rfl 28 _ rfl w.heap.size 1 rfl [.int .i64 x.s, .int .i64 x.j.id, .int .i64 x.j.pr, .int .i64 x.j.nd, .int .i64 x.j.na, .int .i64 x.j.nb, .int .i64 x.j.nc, .int .i64 x.j.la, .int .i64 x.j.lb, .int .i64 x.j.lc, .int .i64 x.j.wl, .int .i64 x.j.lv, .int .i64 x.n, .int .i64 x.a, .int .i64 x.b, .int .i64 x.c] _ (HR.out.sub 1 16) Tryz.underlying28 rfl szCmdC ?_
  go_wp2_with fail
  refine (HC.out _).mono ?_
  rintro e w1 ⟨rfl, hb⟩
  replace HR : Hid (Row w1 w.heap.size [.int .i64 4, .int .i64 x.s, .int .i64 x.j.id, .int .i64 x.j.pr, .int .i64 x.j.nd, .int .i64 x.j.na, .int .i64 x.j.nb, .int .i64 x.j.nc, .int .i64 x.j.la, .int .i64 x.j.lb, .int .i64 x.j.lc, .int .i64 x.j.wl, .int .i64 x.j.lv, .int .i64 x.n, .int .i64 x.a, .int .i64 x.b, .int .i64 x.c, .int .i64 kp]) := HR.out.below hb
  replace HN : Hid (Row w1 (w.heap.size + 1) [.int .i64 0, .int .i64 0, .int .i64 0, .int .i64 0, .int .i64 0, .int .i64 0, .int .i64 0, .int .i64 0, .int .i64 0, .int .i64 0, .int .i64 0, .int .i64 0, .int .i64 0, .int .i64 0, .int .i64 0, .int .i64 0]) := HN.out.below hb
  replace HB : Hid (Below w.heap.size w w1) := below_then HB.out hb
  clear hb HC
  have d0 := HR.out.cell 0 _ rfl
  have d17 := HR.out.cell 17 _ rfl
  go_wp2_with (refine stay_load 28 ?_)
  refine ⟨?_⟩
  refine wpList_load_mid rfl 28 _ rfl w.heap.size 1 rfl [.int .i64 x.s, .int .i64 x.j.id, .int .i64 x.j.pr, .int .i64 x.j.nd, .int .i64 x.j.na, .int .i64 x.j.nb, .int .i64 x.j.nc, .int .i64 x.j.la, .int .i64 x.j.lb, .int .i64 x.j.lc, .int .i64 x.j.wl, .int .i64 x.j.lv, .int .i64 x.n, .int .i64 x.a, .int .i64 x.b, .int .i64 x.c] _ (HR.out.sub 1 16) Tryz.underlying28 rfl szCmdC ?_
  go_wp2_with (refine stay_load 28 ?_)
  refine ⟨?_⟩
  refine wpList_load_mid rfl 28 _ rfl (w.heap.size + 1) 0 rfl [.int .i64 0, .int .i64 0, .int .i64 0, .int .i64 0, .int .i64 0, .int .i64 0, .int .i64 0, .int .i64 0, .int .i64 0, .int .i64 0, .int .i64 0, .int .i64 0, .int .i64 0, .int .i64 0, .int .i64 0, .int .i64 0] _ HN.out.all Tryz.underlying28 rfl szCmdC ?_
  cases z
  · go_wp2_with fail
    go_ret
    exact ⟨by rw [HS.out]; rfl, HB.out⟩
  · by_cases h0 : kp = 0
    · have e0 : (kp == 0) = true := by simp [h0]
      rw [e0] at HS
      clear h0
      go_wp2_with fail
      go_ret
      exact ⟨by rw [HS.out]; rfl, HB.out⟩
    · have e0 : (kp == 0) = false := by simp [h0]
      rw [e0] at HS
      clear h0
      go_wp2_with fail
      go_ret
      exact ⟨by rw [HS.out]; rfl, HB.out⟩
set_option maxHeartbeats 2000000 in
set_option maxRecDepth 100000 in
theorem specStepText_1 (x : Cm) (kp : Int) (w : World) : Calls Tryz.prog 7 #[.agg #[.int .i64 1, .int .i64 x.s, .int .i64 x.j.id, .int .i64 x.j.pr, .int .i64 x.j.nd, .int .i64 x.j.na, .int .i64 x.j.nb, .int .i64 x.j.nc, .int .i64 x.j.la, .int .i64 x.j.lb, .int .i64 x.j.lc, .int .i64 x.j.wl, .int .i64 x.j.lv, .int .i64 x.n, .int .i64 x.a, .int .i64 x.b, .int .i64 x.c, .int .i64 kp]] w fun e w' => e = .returned (.string ⟨(stL 1 x kp).toArray⟩) ∧ Below w.heap.size w w' := by
  have hne := ctL_ne' x
  have hl : (ctL x.s x.j x.n x.a x.b x.c).length ≤ 500 := ct_len x
  have HS : Hid (stL 1 x kp = bif (cmdB x.s x.j x.n x.a x.b x.c && kp == 0) then [100, 111, 32] ++ ctL x.s x.j x.n x.a x.b x.c else []) := by
    show _ = _
    unfold stL
    rw [show stB 1 x kp = (cmdB x.s x.j x.n x.a x.b x.c && kp == 0) from rfl]
    rfl
  have HC : Hid (∀ W : World, Calls Tryz.prog 16 #[.agg #[.int .i64 x.s, .int .i64 x.j.id, .int .i64 x.j.pr, .int .i64 x.j.nd, .int .i64 x.j.na, .int .i64 x.j.nb, .int .i64 x.j.nc, .int .i64 x.j.la, .int .i64 x.j.lb, .int .i64 x.j.lc, .int .i64 x.j.wl, .int .i64 x.j.lv, .int .i64 x.n, .int .i64 x.a, .int .i64 x.b, .int .i64 x.c]] W fun e w' => e = .returned (.string ⟨(ctL x.s x.j x.n x.a x.b x.c).toArray⟩) ∧ Below W.heap.size W w') := fun W => specCmdText_c x.s x.j x.n x.a x.b x.c W
  have hct : cmdB x.s x.j x.n x.a x.b x.c = false → ctL x.s x.j x.n x.a x.b x.c = [] := fun h => by rw [ctL, h]; rfl
  generalize ctL x.s x.j x.n x.a x.b x.c = l at HC HS hne hl hct
  generalize cmdB x.s x.j x.n x.a x.b x.c = cb at HS hne hct
  go_enter Tryz.func7, Tryz.ntmps7
  go_wp2_with (refine stay_load 28 ?_)
  refine ⟨?_⟩
  have HR0 := row_fresh w [.int .i64 1, .int .i64 x.s, .int .i64 x.j.id, .int .i64 x.j.pr, .int .i64 x.j.nd, .int .i64 x.j.na, .int .i64 x.j.nb, .int .i64 x.j.nc, .int .i64 x.j.la, .int .i64 x.j.lb, .int .i64 x.j.lc, .int .i64 x.j.wl, .int .i64 x.j.lv, .int .i64 x.n, .int .i64 x.a, .int .i64 x.b, .int .i64 x.c, .int .i64 kp] 30
  have HR : Hid (Row ((w.alloc (.cells #[.int .i64 1, .int .i64 x.s, .int .i64 x.j.id, .int .i64 x.j.pr, .int .i64 x.j.nd, .int .i64 x.j.na, .int .i64 x.j.nb, .int .i64 x.j.nc, .int .i64 x.j.la, .int .i64 x.j.lb, .int .i64 x.j.lc, .int .i64 x.j.wl, .int .i64 x.j.lv, .int .i64 x.n, .int .i64 x.a, .int .i64 x.b, .int .i64 x.c, .int .i64 kp] 30)).alloc (.cells #[.int .i64 0, .int .i64 0, .int .i64 0, .int .i64 0, .int .i64 0, .int .i64 0, .int .i64 0, .int .i64 0, .int .i64 0, .int .i64 0, .int .i64 0, .int .i64 0, .int .i64 0, .int .i64 0, .int .i64 0, .int .i64 0] 28)) w.heap.size [.int .i64 1, .int .i64 x.s, .int .i64 x.j.id, .int .i64 x.j.pr, .int .i64 x.j.nd, .int .i64 x.j.na, .int .i64 x.j.nb, .int .i64 x.j.nc, .int .i64 x.j.la, .int .i64 x.j.lb, .int .i64 x.j.lc, .int .i64 x.j.wl, .int .i64 x.j.lv, .int .i64 x.n, .int .i64 x.a, .int .i64 x.b, .int .i64 x.c, .int .i64 kp]) := HR0.below (low_alloc _ _)
  have HN : Hid (Row ((w.alloc (.cells #[.int .i64 1, .int .i64 x.s, .int .i64 x.j.id, .int .i64 x.j.pr, .int .i64 x.j.nd, .int .i64 x.j.na, .int .i64 x.j.nb, .int .i64 x.j.nc, .int .i64 x.j.la, .int .i64 x.j.lb, .int .i64 x.j.lc, .int .i64 x.j.wl, .int .i64 x.j.lv, .int .i64 x.n, .int .i64 x.a, .int .i64 x.b, .int .i64 x.c, .int .i64 kp] 30)).alloc (.cells #[.int .i64 0, .int .i64 0, .int .i64 0, .int .i64 0, .int .i64 0, .int .i64 0, .int .i64 0, .int .i64 0, .int .i64 0, .int .i64 0, .int .i64 0, .int .i64 0, .int .i64 0, .int .i64 0, .int .i64 0, .int .i64 0] 28)) (w.heap.size + 1) [.int .i64 0, .int .i64 0, .int .i64 0, .int .i64 0, .int .i64 0, .int .i64 0, .int .i64 0, .int .i64 0, .int .i64 0, .int .i64 0, .int .i64 0, .int .i64 0, .int .i64 0, .int .i64 0, .int .i64 0, .int .i64 0]) := by
    have h := row_fresh (w.alloc (.cells #[.int .i64 1, .int .i64 x.s, .int .i64 x.j.id, .int .i64 x.j.pr, .int .i64 x.j.nd, .int .i64 x.j.na, .int .i64 x.j.nb, .int .i64 x.j.nc, .int .i64 x.j.la, .int .i64 x.j.lb, .int .i64 x.j.lc, .int .i64 x.j.wl, .int .i64 x.j.lv, .int .i64 x.n, .int .i64 x.a, .int .i64 x.b, .int .i64 x.c, .int .i64 kp] 30)) [.int .i64 0, .int .i64 0, .int .i64 0, .int .i64 0, .int .i64 0, .int .i64 0, .int .i64 0, .int .i64 0, .int .i64 0, .int .i64 0, .int .i64 0, .int .i64 0, .int .i64 0, .int .i64 0, .int .i64 0, .int .i64 0] 28
    rw [show (w.alloc (.cells #[.int .i64 1, .int .i64 x.s, .int .i64 x.j.id, .int .i64 x.j.pr, .int .i64 x.j.nd, .int .i64 x.j.na, .int .i64 x.j.nb, .int .i64 x.j.nc, .int .i64 x.j.la, .int .i64 x.j.lb, .int .i64 x.j.lc, .int .i64 x.j.wl, .int .i64 x.j.lv, .int .i64 x.n, .int .i64 x.a, .int .i64 x.b, .int .i64 x.c, .int .i64 kp] 30)).heap.size = w.heap.size + 1 by simp [go_sem]] at h
    exact h
  have HB : Hid (Below w.heap.size w ((w.alloc (.cells #[.int .i64 1, .int .i64 x.s, .int .i64 x.j.id, .int .i64 x.j.pr, .int .i64 x.j.nd, .int .i64 x.j.na, .int .i64 x.j.nb, .int .i64 x.j.nc, .int .i64 x.j.la, .int .i64 x.j.lb, .int .i64 x.j.lc, .int .i64 x.j.wl, .int .i64 x.j.lv, .int .i64 x.n, .int .i64 x.a, .int .i64 x.b, .int .i64 x.c, .int .i64 kp] 30)).alloc (.cells #[.int .i64 0, .int .i64 0, .int .i64 0, .int .i64 0, .int .i64 0, .int .i64 0, .int .i64 0, .int .i64 0, .int .i64 0, .int .i64 0, .int .i64 0, .int .i64 0, .int .i64 0, .int .i64 0, .int .i64 0, .int .i64 0] 28))) := behind_alloc (low_alloc _ _) _
  clear HR0
  generalize (w.alloc (.cells #[.int .i64 1, .int .i64 x.s, .int .i64 x.j.id, .int .i64 x.j.pr, .int .i64 x.j.nd, .int .i64 x.j.na, .int .i64 x.j.nb, .int .i64 x.j.nc, .int .i64 x.j.la, .int .i64 x.j.lb, .int .i64 x.j.lc, .int .i64 x.j.wl, .int .i64 x.j.lv, .int .i64 x.n, .int .i64 x.a, .int .i64 x.b, .int .i64 x.c, .int .i64 kp] 30)).alloc (.cells #[.int .i64 0, .int .i64 0, .int .i64 0, .int .i64 0, .int .i64 0, .int .i64 0, .int .i64 0, .int .i64 0, .int .i64 0, .int .i64 0, .int .i64 0, .int .i64 0, .int .i64 0, .int .i64 0, .int .i64 0, .int .i64 0] 28) = w0 at HR HN HB ⊢
  refine wpList_load_mid rfl 28 _ rfl w.heap.size 1 rfl [.int .i64 x.s, .int .i64 x.j.id, .int .i64 x.j.pr, .int .i64 x.j.nd, .int .i64 x.j.na, .int .i64 x.j.nb, .int .i64 x.j.nc, .int .i64 x.j.la, .int .i64 x.j.lb, .int .i64 x.j.lc, .int .i64 x.j.wl, .int .i64 x.j.lv, .int .i64 x.n, .int .i64 x.a, .int .i64 x.b, .int .i64 x.c] _ (HR.out.sub 1 16) Tryz.underlying28 rfl szCmdC ?_
  go_wp2_with fail
  refine (HC.out _).mono ?_
  rintro e w1 ⟨rfl, hb⟩
  replace HR : Hid (Row w1 w.heap.size [.int .i64 1, .int .i64 x.s, .int .i64 x.j.id, .int .i64 x.j.pr, .int .i64 x.j.nd, .int .i64 x.j.na, .int .i64 x.j.nb, .int .i64 x.j.nc, .int .i64 x.j.la, .int .i64 x.j.lb, .int .i64 x.j.lc, .int .i64 x.j.wl, .int .i64 x.j.lv, .int .i64 x.n, .int .i64 x.a, .int .i64 x.b, .int .i64 x.c, .int .i64 kp]) := HR.out.below hb
  replace HN : Hid (Row w1 (w.heap.size + 1) [.int .i64 0, .int .i64 0, .int .i64 0, .int .i64 0, .int .i64 0, .int .i64 0, .int .i64 0, .int .i64 0, .int .i64 0, .int .i64 0, .int .i64 0, .int .i64 0, .int .i64 0, .int .i64 0, .int .i64 0, .int .i64 0]) := HN.out.below hb
  replace HB : Hid (Below w.heap.size w w1) := below_then HB.out hb
  clear hb HC
  have d0 := HR.out.cell 0 _ rfl
  have d17 := HR.out.cell 17 _ rfl
  cases cb
  · have hi : (⟨l.toArray⟩ : ByteArray).toList.isEmpty = true := by rw [stm_text, hct rfl]; rfl
    clear hne hct hl
    generalize (⟨l.toArray⟩ : ByteArray) = T at hi ⊢
    go_wp2_with fail
    go_ret
    exact ⟨by rw [HS.out]; rfl, HB.out⟩
  · have hi : (⟨l.toArray⟩ : ByteArray).toList.isEmpty = false := by rw [stm_text]; cases l with | nil => exact absurd rfl (hne rfl) | cons _ _ => rfl
    clear hne hct
    obtain ⟨N, hN⟩ : ∃ y : ByteArray, Hid (y = ⟨l.toArray⟩) := ⟨_, hid_rfl⟩
    obtain ⟨y2, hy2, A2⟩ : ∃ y, Hid (y = (⟨([100, 111, 32] ++ l).toArray⟩ : ByteArray)) ∧ ∀ W, (Op.stringOp .add ⟨#[100, 111, 32]⟩ N).run Tryz.prog W = .ok (.string y) W := ⟨_, hid_rfl, by rw [hN.out]; exact add_l [100, 111, 32] l (by simp) (by omega)⟩
    rw [← hN.out] at hi ⊢
    clear hN hl
    by_cases h0 : kp = 0
    · have e0 : (kp == 0) = true := by simp [h0]
      rw [e0] at HS
      clear h0
      go_wp2_with fail
      go_ret
      exact ⟨by rw [HS.out]; exact congrArg _ (congrArg _ hy2.out), HB.out⟩
    · have e0 : (kp == 0) = false := by simp [h0]
      rw [e0] at HS
      clear h0 A2 hy2
      go_wp2_with fail
      go_ret
      exact ⟨by rw [HS.out]; rfl, HB.out⟩
set_option maxHeartbeats 2000000 in
set_option maxRecDepth 100000 in
theorem specStepText_2 (x : Cm) (kp : Int) (w : World) : Calls Tryz.prog 7 #[.agg #[.int .i64 2, .int .i64 x.s, .int .i64 x.j.id, .int .i64 x.j.pr, .int .i64 x.j.nd, .int .i64 x.j.na, .int .i64 x.j.nb, .int .i64 x.j.nc, .int .i64 x.j.la, .int .i64 x.j.lb, .int .i64 x.j.lc, .int .i64 x.j.wl, .int .i64 x.j.lv, .int .i64 x.n, .int .i64 x.a, .int .i64 x.b, .int .i64 x.c, .int .i64 kp]] w fun e w' => e = .returned (.string ⟨(stL 2 x kp).toArray⟩) ∧ Below w.heap.size w w' := by
  have hne := ctL_ne' x
  have hl : (ctL x.s x.j x.n x.a x.b x.c).length ≤ 500 := ct_len x
  have HS : Hid (stL 2 x kp = bif (cmdB x.s x.j x.n x.a x.b x.c && timB kp) then ([116, 111, 114, 110, 32] ++ numL kp ++ [32]) ++ ctL x.s x.j x.n x.a x.b x.c else []) := by
    show _ = _
    unfold stL
    rw [show stB 2 x kp = (cmdB x.s x.j x.n x.a x.b x.c && timB kp) from rfl]
    rfl
  have hln := numL_len kp
  have hnt := fun W => specNumText_all kp W
  have HC : Hid (∀ W : World, Calls Tryz.prog 16 #[.agg #[.int .i64 x.s, .int .i64 x.j.id, .int .i64 x.j.pr, .int .i64 x.j.nd, .int .i64 x.j.na, .int .i64 x.j.nb, .int .i64 x.j.nc, .int .i64 x.j.la, .int .i64 x.j.lb, .int .i64 x.j.lc, .int .i64 x.j.wl, .int .i64 x.j.lv, .int .i64 x.n, .int .i64 x.a, .int .i64 x.b, .int .i64 x.c]] W fun e w' => e = .returned (.string ⟨(ctL x.s x.j x.n x.a x.b x.c).toArray⟩) ∧ Below W.heap.size W w') := fun W => specCmdText_c x.s x.j x.n x.a x.b x.c W
  have hct : cmdB x.s x.j x.n x.a x.b x.c = false → ctL x.s x.j x.n x.a x.b x.c = [] := fun h => by rw [ctL, h]; rfl
  generalize ctL x.s x.j x.n x.a x.b x.c = l at HC HS hne hl hct
  generalize cmdB x.s x.j x.n x.a x.b x.c = cb at HS hne hct
  go_enter Tryz.func7, Tryz.ntmps7
  go_wp2_with (refine stay_load 28 ?_)
  refine ⟨?_⟩
  have HR0 := row_fresh w [.int .i64 2, .int .i64 x.s, .int .i64 x.j.id, .int .i64 x.j.pr, .int .i64 x.j.nd, .int .i64 x.j.na, .int .i64 x.j.nb, .int .i64 x.j.nc, .int .i64 x.j.la, .int .i64 x.j.lb, .int .i64 x.j.lc, .int .i64 x.j.wl, .int .i64 x.j.lv, .int .i64 x.n, .int .i64 x.a, .int .i64 x.b, .int .i64 x.c, .int .i64 kp] 30
  have HR : Hid (Row ((w.alloc (.cells #[.int .i64 2, .int .i64 x.s, .int .i64 x.j.id, .int .i64 x.j.pr, .int .i64 x.j.nd, .int .i64 x.j.na, .int .i64 x.j.nb, .int .i64 x.j.nc, .int .i64 x.j.la, .int .i64 x.j.lb, .int .i64 x.j.lc, .int .i64 x.j.wl, .int .i64 x.j.lv, .int .i64 x.n, .int .i64 x.a, .int .i64 x.b, .int .i64 x.c, .int .i64 kp] 30)).alloc (.cells #[.int .i64 0, .int .i64 0, .int .i64 0, .int .i64 0, .int .i64 0, .int .i64 0, .int .i64 0, .int .i64 0, .int .i64 0, .int .i64 0, .int .i64 0, .int .i64 0, .int .i64 0, .int .i64 0, .int .i64 0, .int .i64 0] 28)) w.heap.size [.int .i64 2, .int .i64 x.s, .int .i64 x.j.id, .int .i64 x.j.pr, .int .i64 x.j.nd, .int .i64 x.j.na, .int .i64 x.j.nb, .int .i64 x.j.nc, .int .i64 x.j.la, .int .i64 x.j.lb, .int .i64 x.j.lc, .int .i64 x.j.wl, .int .i64 x.j.lv, .int .i64 x.n, .int .i64 x.a, .int .i64 x.b, .int .i64 x.c, .int .i64 kp]) := HR0.below (low_alloc _ _)
  have HN : Hid (Row ((w.alloc (.cells #[.int .i64 2, .int .i64 x.s, .int .i64 x.j.id, .int .i64 x.j.pr, .int .i64 x.j.nd, .int .i64 x.j.na, .int .i64 x.j.nb, .int .i64 x.j.nc, .int .i64 x.j.la, .int .i64 x.j.lb, .int .i64 x.j.lc, .int .i64 x.j.wl, .int .i64 x.j.lv, .int .i64 x.n, .int .i64 x.a, .int .i64 x.b, .int .i64 x.c, .int .i64 kp] 30)).alloc (.cells #[.int .i64 0, .int .i64 0, .int .i64 0, .int .i64 0, .int .i64 0, .int .i64 0, .int .i64 0, .int .i64 0, .int .i64 0, .int .i64 0, .int .i64 0, .int .i64 0, .int .i64 0, .int .i64 0, .int .i64 0, .int .i64 0] 28)) (w.heap.size + 1) [.int .i64 0, .int .i64 0, .int .i64 0, .int .i64 0, .int .i64 0, .int .i64 0, .int .i64 0, .int .i64 0, .int .i64 0, .int .i64 0, .int .i64 0, .int .i64 0, .int .i64 0, .int .i64 0, .int .i64 0, .int .i64 0]) := by
    have h := row_fresh (w.alloc (.cells #[.int .i64 2, .int .i64 x.s, .int .i64 x.j.id, .int .i64 x.j.pr, .int .i64 x.j.nd, .int .i64 x.j.na, .int .i64 x.j.nb, .int .i64 x.j.nc, .int .i64 x.j.la, .int .i64 x.j.lb, .int .i64 x.j.lc, .int .i64 x.j.wl, .int .i64 x.j.lv, .int .i64 x.n, .int .i64 x.a, .int .i64 x.b, .int .i64 x.c, .int .i64 kp] 30)) [.int .i64 0, .int .i64 0, .int .i64 0, .int .i64 0, .int .i64 0, .int .i64 0, .int .i64 0, .int .i64 0, .int .i64 0, .int .i64 0, .int .i64 0, .int .i64 0, .int .i64 0, .int .i64 0, .int .i64 0, .int .i64 0] 28
    rw [show (w.alloc (.cells #[.int .i64 2, .int .i64 x.s, .int .i64 x.j.id, .int .i64 x.j.pr, .int .i64 x.j.nd, .int .i64 x.j.na, .int .i64 x.j.nb, .int .i64 x.j.nc, .int .i64 x.j.la, .int .i64 x.j.lb, .int .i64 x.j.lc, .int .i64 x.j.wl, .int .i64 x.j.lv, .int .i64 x.n, .int .i64 x.a, .int .i64 x.b, .int .i64 x.c, .int .i64 kp] 30)).heap.size = w.heap.size + 1 by simp [go_sem]] at h
    exact h
  have HB : Hid (Below w.heap.size w ((w.alloc (.cells #[.int .i64 2, .int .i64 x.s, .int .i64 x.j.id, .int .i64 x.j.pr, .int .i64 x.j.nd, .int .i64 x.j.na, .int .i64 x.j.nb, .int .i64 x.j.nc, .int .i64 x.j.la, .int .i64 x.j.lb, .int .i64 x.j.lc, .int .i64 x.j.wl, .int .i64 x.j.lv, .int .i64 x.n, .int .i64 x.a, .int .i64 x.b, .int .i64 x.c, .int .i64 kp] 30)).alloc (.cells #[.int .i64 0, .int .i64 0, .int .i64 0, .int .i64 0, .int .i64 0, .int .i64 0, .int .i64 0, .int .i64 0, .int .i64 0, .int .i64 0, .int .i64 0, .int .i64 0, .int .i64 0, .int .i64 0, .int .i64 0, .int .i64 0] 28))) := behind_alloc (low_alloc _ _) _
  clear HR0
  generalize (w.alloc (.cells #[.int .i64 2, .int .i64 x.s, .int .i64 x.j.id, .int .i64 x.j.pr, .int .i64 x.j.nd, .int .i64 x.j.na, .int .i64 x.j.nb, .int .i64 x.j.nc, .int .i64 x.j.la, .int .i64 x.j.lb, .int .i64 x.j.lc, .int .i64 x.j.wl, .int .i64 x.j.lv, .int .i64 x.n, .int .i64 x.a, .int .i64 x.b, .int .i64 x.c, .int .i64 kp] 30)).alloc (.cells #[.int .i64 0, .int .i64 0, .int .i64 0, .int .i64 0, .int .i64 0, .int .i64 0, .int .i64 0, .int .i64 0, .int .i64 0, .int .i64 0, .int .i64 0, .int .i64 0, .int .i64 0, .int .i64 0, .int .i64 0, .int .i64 0] 28) = w0 at HR HN HB ⊢
  refine wpList_load_mid rfl 28 _ rfl w.heap.size 1 rfl [.int .i64 x.s, .int .i64 x.j.id, .int .i64 x.j.pr, .int .i64 x.j.nd, .int .i64 x.j.na, .int .i64 x.j.nb, .int .i64 x.j.nc, .int .i64 x.j.la, .int .i64 x.j.lb, .int .i64 x.j.lc, .int .i64 x.j.wl, .int .i64 x.j.lv, .int .i64 x.n, .int .i64 x.a, .int .i64 x.b, .int .i64 x.c] _ (HR.out.sub 1 16) Tryz.underlying28 rfl szCmdC ?_
  go_wp2_with fail
  refine (HC.out _).mono ?_
  rintro e w1 ⟨rfl, hb⟩
  replace HR : Hid (Row w1 w.heap.size [.int .i64 2, .int .i64 x.s, .int .i64 x.j.id, .int .i64 x.j.pr, .int .i64 x.j.nd, .int .i64 x.j.na, .int .i64 x.j.nb, .int .i64 x.j.nc, .int .i64 x.j.la, .int .i64 x.j.lb, .int .i64 x.j.lc, .int .i64 x.j.wl, .int .i64 x.j.lv, .int .i64 x.n, .int .i64 x.a, .int .i64 x.b, .int .i64 x.c, .int .i64 kp]) := HR.out.below hb
  replace HN : Hid (Row w1 (w.heap.size + 1) [.int .i64 0, .int .i64 0, .int .i64 0, .int .i64 0, .int .i64 0, .int .i64 0, .int .i64 0, .int .i64 0, .int .i64 0, .int .i64 0, .int .i64 0, .int .i64 0, .int .i64 0, .int .i64 0, .int .i64 0, .int .i64 0]) := HN.out.below hb
  replace HB : Hid (Below w.heap.size w w1) := below_then HB.out hb
  clear hb HC
  have d0 := HR.out.cell 0 _ rfl
  have d17 := HR.out.cell 17 _ rfl
  cases cb
  · have hi : (⟨l.toArray⟩ : ByteArray).toList.isEmpty = true := by rw [stm_text, hct rfl]; rfl
    clear hne hct hl
    generalize (⟨l.toArray⟩ : ByteArray) = T at hi ⊢
    go_wp2_with fail
    go_ret
    exact ⟨by rw [HS.out]; rfl, HB.out⟩
  · have hi : (⟨l.toArray⟩ : ByteArray).toList.isEmpty = false := by rw [stm_text]; cases l with | nil => exact absurd rfl (hne rfl) | cons _ _ => rfl
    clear hne hct
    obtain ⟨M, hM, CN⟩ : ∃ N, Hid (N = (⟨(numL kp).toArray⟩ : ByteArray)) ∧ ∀ W, Calls Tryz.prog 18 #[.int .i64 kp] W fun e w' => e = .returned (.string N) ∧ Below W.heap.size W w' := ⟨_, hid_rfl, hnt⟩
    obtain ⟨y2, hy2, A2⟩ : ∃ y, Hid (y = (⟨([116, 111, 114, 110, 32] ++ numL kp).toArray⟩ : ByteArray)) ∧ ∀ W, (Op.stringOp .add ⟨#[116, 111, 114, 110, 32]⟩ M).run Tryz.prog W = .ok (.string y) W := ⟨_, hid_rfl, by rw [hM.out]; exact add_l [116, 111, 114, 110, 32] _ (by simp) (by omega)⟩
    obtain ⟨y3, hy3, A3⟩ : ∃ y, Hid (y = (⟨([116, 111, 114, 110, 32] ++ numL kp ++ [32]).toArray⟩ : ByteArray)) ∧ ∀ W, (Op.stringOp .add y2 ⟨#[32]⟩).run Tryz.prog W = .ok (.string y) W := ⟨_, hid_rfl, by rw [hy2.out]; exact add_l _ [32] (by simp; omega) (by decide)⟩
    obtain ⟨N, hN⟩ : ∃ y : ByteArray, Hid (y = ⟨l.toArray⟩) := ⟨_, hid_rfl⟩
    obtain ⟨y4, hy4, A4⟩ : ∃ y, Hid (y = (⟨([116, 111, 114, 110, 32] ++ numL kp ++ [32] ++ l).toArray⟩ : ByteArray)) ∧ ∀ W, (Op.stringOp .add y3 N).run Tryz.prog W = .ok (.string y) W := ⟨_, hid_rfl, by rw [hy3.out, hN.out]; exact add_l _ l (by simp; omega) (by omega)⟩
    rw [← hN.out] at hi ⊢
    clear hN hM hy2 hy3 hl hln hnt
    cases ht : timB kp
    · rw [ht] at HS
      have h8 := l01Time_c kp
      rw [ht] at h8
      clear ht A2 A3 A4 hy4 CN
      go_wp2_with (refine (h8 _).mono ?_; rintro e w2 ⟨rfl, rfl⟩)
      go_ret
      exact ⟨by rw [HS.out]; rfl, HB.out⟩
    · rw [ht] at HS
      have h8 := l01Time_c kp
      rw [ht] at h8
      clear ht
      go_wp2_with (first | (refine (h8 _).mono ?_; rintro e w2 ⟨rfl, rfl⟩) | fail)
      refine (CN _).mono ?_
      rintro e w3 ⟨rfl, hb⟩
      replace HB : Hid (Below w.heap.size w w3) := below_then HB.out hb
      clear hb CN
      go_wp2_with fail
      go_ret
      exact ⟨by rw [HS.out]; exact congrArg _ (congrArg _ hy4.out), HB.out⟩
theorem specStepText_c (k : Int) (x : Cm) (kp : Int) (w : World) : Calls Tryz.prog 7 #[.agg #[.int .i64 k, .int .i64 x.s, .int .i64 x.j.id, .int .i64 x.j.pr, .int .i64 x.j.nd, .int .i64 x.j.na, .int .i64 x.j.nb, .int .i64 x.j.nc, .int .i64 x.j.la, .int .i64 x.j.lb, .int .i64 x.j.lc, .int .i64 x.j.wl, .int .i64 x.j.lv, .int .i64 x.n, .int .i64 x.a, .int .i64 x.b, .int .i64 x.c, .int .i64 kp]] w fun e w' => e = .returned (.string ⟨(stL k x kp).toArray⟩) ∧ Below w.heap.size w w' := by
  by_cases h : k < 1 ∨ 4 < k
  · exact specStepText_no x kp w k h
  · have h4 : k = 1 ∨ k = 2 ∨ k = 3 ∨ k = 4 := by omega
    rcases h4 with rfl | rfl | rfl | rfl
    · exact specStepText_1 x kp w
    · exact specStepText_2 x kp w
    · exact specStepText_3 x kp w
    · exact specStepText_4 x kp w
end Go.Proofs.YtejleghdgdbbnaaGreatDoor
