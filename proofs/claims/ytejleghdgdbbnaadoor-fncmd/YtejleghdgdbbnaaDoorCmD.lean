/- A command in the laws: copied. -/
import Derived.Test.YtejleghdgdbbnaaDoorCmC
import Derived.Test.YtejleghdgdbbnaaDoorCmS
namespace Go.Proofs.YtejleghdgdbbnaaDoor
theorem szJobC : (Tryd.prog.info? 26).map (·.size) = some 11 := by kernel_rfl
theorem szCmdC : (Tryd.prog.info? 28).map (·.size) = some 16 := by kernel_rfl
theorem szVecC : (Tryd.prog.info? 24).map (·.size) = some 3 := by kernel_rfl
open Go.ChangeShapes Go.WideShapes Go.ChangeAt Go.RowKit

set_option maxHeartbeats 2000000 in
set_option maxRecDepth 100000 in
theorem toCmd_c (s : Int) (j : Jb) (n a b c : Int) (w : World) : Calls Tryd.prog 48 #[.agg #[.int .i64 s, .int .i64 j.id, .int .i64 j.pr, .int .i64 j.nd, .int .i64 j.na, .int .i64 j.nb, .int .i64 j.nc, .int .i64 j.la, .int .i64 j.lb, .int .i64 j.lc, .int .i64 j.wl, .int .i64 j.lv, .int .i64 n, .int .i64 a, .int .i64 b, .int .i64 c]] w fun e w' => e = .returned (.agg #[.int .i64 s, .int .i64 j.id, .int .i64 j.pr, .int .i64 j.nd, .int .i64 j.na, .int .i64 j.nb, .int .i64 j.nc, .int .i64 j.la, .int .i64 j.lb, .int .i64 j.lc, .int .i64 j.wl, .int .i64 j.lv, .int .i64 n, .int .i64 a, .int .i64 b, .int .i64 c]) ∧ Below w.heap.size w w' := by
  go_enter Tryd.func48, Tryd.ntmps48
  go_wp2_with fail
  generalize hV : ((w.alloc (.cells #[.int .i64 s, .int .i64 j.id, .int .i64 j.pr, .int .i64 j.nd, .int .i64 j.na, .int .i64 j.nb, .int .i64 j.nc, .int .i64 j.la, .int .i64 j.lb, .int .i64 j.lc, .int .i64 j.wl, .int .i64 j.lv, .int .i64 n, .int .i64 a, .int .i64 b, .int .i64 c] 52)).alloc (.cells #[.int .i64 0, .int .i64 0, .int .i64 0, .int .i64 0, .int .i64 0, .int .i64 0, .int .i64 0, .int .i64 0, .int .i64 0, .int .i64 0, .int .i64 0, .int .i64 0, .int .i64 0, .int .i64 0, .int .i64 0, .int .i64 0] 28)).alloc (.cells #[.int .i64 s, .int .i64 0, .int .i64 0, .int .i64 0, .int .i64 0, .int .i64 0, .int .i64 0, .int .i64 0, .int .i64 0, .int .i64 0, .int .i64 0, .int .i64 0, .int .i64 0, .int .i64 0, .int .i64 0, .int .i64 0] 28) = V
  have s1 : (w.alloc (.cells #[.int .i64 s, .int .i64 j.id, .int .i64 j.pr, .int .i64 j.nd, .int .i64 j.na, .int .i64 j.nb, .int .i64 j.nc, .int .i64 j.la, .int .i64 j.lb, .int .i64 j.lc, .int .i64 j.wl, .int .i64 j.lv, .int .i64 n, .int .i64 a, .int .i64 b, .int .i64 c] 52)).heap.size = w.heap.size + 1 := by simp [go_sem]
  have s2 : ((w.alloc (.cells #[.int .i64 s, .int .i64 j.id, .int .i64 j.pr, .int .i64 j.nd, .int .i64 j.na, .int .i64 j.nb, .int .i64 j.nc, .int .i64 j.la, .int .i64 j.lb, .int .i64 j.lc, .int .i64 j.wl, .int .i64 j.lv, .int .i64 n, .int .i64 a, .int .i64 b, .int .i64 c] 52)).alloc (.cells #[.int .i64 0, .int .i64 0, .int .i64 0, .int .i64 0, .int .i64 0, .int .i64 0, .int .i64 0, .int .i64 0, .int .i64 0, .int .i64 0, .int .i64 0, .int .i64 0, .int .i64 0, .int .i64 0, .int .i64 0, .int .i64 0] 28)).heap.size = w.heap.size + 1 + 1 := by simp [go_sem]
  have HA : Hid (Row V w.heap.size [.int .i64 s, .int .i64 j.id, .int .i64 j.pr, .int .i64 j.nd, .int .i64 j.na, .int .i64 j.nb, .int .i64 j.nc, .int .i64 j.la, .int .i64 j.lb, .int .i64 j.lc, .int .i64 j.wl, .int .i64 j.lv, .int .i64 n, .int .i64 a, .int .i64 b, .int .i64 c]) := by subst hV; exact ((row_fresh w [.int .i64 s, .int .i64 j.id, .int .i64 j.pr, .int .i64 j.nd, .int .i64 j.na, .int .i64 j.nb, .int .i64 j.nc, .int .i64 j.la, .int .i64 j.lb, .int .i64 j.lc, .int .i64 j.wl, .int .i64 j.lv, .int .i64 n, .int .i64 a, .int .i64 b, .int .i64 c] 52).below (low_alloc _ _)).below (low_alloc _ _)
  have HO : Hid (Row V (w.heap.size + 1 + 1) [.int .i64 s, .int .i64 0, .int .i64 0, .int .i64 0, .int .i64 0, .int .i64 0, .int .i64 0, .int .i64 0, .int .i64 0, .int .i64 0, .int .i64 0, .int .i64 0, .int .i64 0, .int .i64 0, .int .i64 0, .int .i64 0]) := by subst hV; have h := row_fresh ((w.alloc (.cells #[.int .i64 s, .int .i64 j.id, .int .i64 j.pr, .int .i64 j.nd, .int .i64 j.na, .int .i64 j.nb, .int .i64 j.nc, .int .i64 j.la, .int .i64 j.lb, .int .i64 j.lc, .int .i64 j.wl, .int .i64 j.lv, .int .i64 n, .int .i64 a, .int .i64 b, .int .i64 c] 52)).alloc (.cells #[.int .i64 0, .int .i64 0, .int .i64 0, .int .i64 0, .int .i64 0, .int .i64 0, .int .i64 0, .int .i64 0, .int .i64 0, .int .i64 0, .int .i64 0, .int .i64 0, .int .i64 0, .int .i64 0, .int .i64 0, .int .i64 0] 28)) [.int .i64 s, .int .i64 0, .int .i64 0, .int .i64 0, .int .i64 0, .int .i64 0, .int .i64 0, .int .i64 0, .int .i64 0, .int .i64 0, .int .i64 0, .int .i64 0, .int .i64 0, .int .i64 0, .int .i64 0, .int .i64 0] 28; rw [s2] at h; exact h
  have HZ : Hid (Row V (w.heap.size + 1) [.int .i64 0, .int .i64 0, .int .i64 0, .int .i64 0, .int .i64 0, .int .i64 0, .int .i64 0, .int .i64 0, .int .i64 0, .int .i64 0, .int .i64 0, .int .i64 0, .int .i64 0, .int .i64 0, .int .i64 0, .int .i64 0]) := by subst hV; have h := row_fresh (w.alloc (.cells #[.int .i64 s, .int .i64 j.id, .int .i64 j.pr, .int .i64 j.nd, .int .i64 j.na, .int .i64 j.nb, .int .i64 j.nc, .int .i64 j.la, .int .i64 j.lb, .int .i64 j.lc, .int .i64 j.wl, .int .i64 j.lv, .int .i64 n, .int .i64 a, .int .i64 b, .int .i64 c] 52)) [.int .i64 0, .int .i64 0, .int .i64 0, .int .i64 0, .int .i64 0, .int .i64 0, .int .i64 0, .int .i64 0, .int .i64 0, .int .i64 0, .int .i64 0, .int .i64 0, .int .i64 0, .int .i64 0, .int .i64 0, .int .i64 0] 28; rw [s1] at h; exact h.below (low_alloc _ _)
  have HB : Hid (Below w.heap.size w V) := by subst hV; exact behind_alloc (behind_alloc (low_alloc _ _) _) _
  clear hV s1 s2
  refine (toJob_c j _).mono ?_
  rintro e w1 ⟨rfl, hb⟩
  have HA1 : Hid (Row w1 w.heap.size [.int .i64 s, .int .i64 j.id, .int .i64 j.pr, .int .i64 j.nd, .int .i64 j.na, .int .i64 j.nb, .int .i64 j.nc, .int .i64 j.la, .int .i64 j.lb, .int .i64 j.lc, .int .i64 j.wl, .int .i64 j.lv, .int .i64 n, .int .i64 a, .int .i64 b, .int .i64 c]) := HA.out.below hb
  have HO1 : Hid (Row w1 (w.heap.size + 1 + 1) [.int .i64 s, .int .i64 0, .int .i64 0, .int .i64 0, .int .i64 0, .int .i64 0, .int .i64 0, .int .i64 0, .int .i64 0, .int .i64 0, .int .i64 0, .int .i64 0, .int .i64 0, .int .i64 0, .int .i64 0, .int .i64 0]) := HO.out.below hb
  have HB1 : Hid (Below w.heap.size w w1) := below_then HB.out hb
  have HZ1 : Hid (Row w1 (w.heap.size + 1) [.int .i64 0, .int .i64 0, .int .i64 0, .int .i64 0, .int .i64 0, .int .i64 0, .int .i64 0, .int .i64 0, .int .i64 0, .int .i64 0, .int .i64 0, .int .i64 0, .int .i64 0, .int .i64 0, .int .i64 0, .int .i64 0]) := HZ.out.below hb
  clear hb HA HO HB HZ
  generalize hg : w.heap.size + 1 + 1 = g at HO1 ⊢
  have t1 := HO1.out.room 1 11 (by simp)
  have HO2 : Hid (Row (w1.setCells g 1 j.cells) g (putL [.int .i64 s, .int .i64 0, .int .i64 0, .int .i64 0, .int .i64 0, .int .i64 0, .int .i64 0, .int .i64 0, .int .i64 0, .int .i64 0, .int .i64 0, .int .i64 0, .int .i64 0, .int .i64 0, .int .i64 0, .int .i64 0] 1 j.cells)) := Row.setCs _ 1 HO1.out (by simp [Jb.cells])
  have HA2 : Hid (Row (w1.setCells g 1 j.cells) w.heap.size [.int .i64 s, .int .i64 j.id, .int .i64 j.pr, .int .i64 j.nd, .int .i64 j.na, .int .i64 j.nb, .int .i64 j.nc, .int .i64 j.la, .int .i64 j.lb, .int .i64 j.lc, .int .i64 j.wl, .int .i64 j.lv, .int .i64 n, .int .i64 a, .int .i64 b, .int .i64 c]) := HA1.out.apartCs (by omega) _ 1
  have HZ2 : Hid (Row (w1.setCells g 1 j.cells) (w.heap.size + 1) [.int .i64 0, .int .i64 0, .int .i64 0, .int .i64 0, .int .i64 0, .int .i64 0, .int .i64 0, .int .i64 0, .int .i64 0, .int .i64 0, .int .i64 0, .int .i64 0, .int .i64 0, .int .i64 0, .int .i64 0, .int .i64 0]) := HZ1.out.apartCs (by omega) _ 1
  have HB2 : Hid (Below w.heap.size w (w1.setCells g 1 j.cells)) := below_setCs (by omega) _ _ HB1.out
  clear HO1 HA1 HZ1 HB1
  go_wp2_with (refine stay_store 26 ?_)
  refine ⟨?_⟩
  refine wpList_store_mid rfl 26 _ _ rfl g 1 _ rfl rfl t1 szJobC (by simp [Value.oneCell']) ?_
  clear t1
  have e : j.cells = (#[.int .i64 j.id, .int .i64 j.pr, .int .i64 j.nd, .int .i64 j.na, .int .i64 j.nb, .int .i64 j.nc, .int .i64 j.la, .int .i64 j.lb, .int .i64 j.lc, .int .i64 j.wl, .int .i64 j.lv] : Array Value).toList := rfl
  rw [e] at HO2 HA2 HZ2 HB2
  clear e
  generalize w1.setCells g 1 _ = w2 at HO2 HA2 HZ2 HB2 ⊢
  have HO : Hid (Row w2 g [.int .i64 s, .int .i64 j.id, .int .i64 j.pr, .int .i64 j.nd, .int .i64 j.na, .int .i64 j.nb, .int .i64 j.nc, .int .i64 j.la, .int .i64 j.lb, .int .i64 j.lc, .int .i64 j.wl, .int .i64 j.lv, .int .i64 0, .int .i64 0, .int .i64 0, .int .i64 0]) := HO2
  clear HO2
  have d12 := HO.out.cell 12 _ rfl
  have f12 := HO.out.free 12
  have a12 := HA2.out.cell 12 _ rfl
  have hne : ¬ g = w.heap.size := by omega
  have hne' : ¬ w.heap.size = g := by omega
  have a13 := HA2.out.cell 13 _ rfl
  have a14 := HA2.out.cell 14 _ rfl
  have a15 := HA2.out.cell 15 _ rfl
  go_wp2_with fail
  clear d12 f12 a12 a13 a14 a15
  have HO3 : Hid (Row (w2.setCell ⟨g, 12, none⟩ (.int .i64 n)) g [.int .i64 s, .int .i64 j.id, .int .i64 j.pr, .int .i64 j.nd, .int .i64 j.na, .int .i64 j.nb, .int .i64 j.nc, .int .i64 j.la, .int .i64 j.lb, .int .i64 j.lc, .int .i64 j.wl, .int .i64 j.lv, .int .i64 n, .int .i64 0, .int .i64 0, .int .i64 0]) := HO.out.set 12 (by simp) _
  have HZ3 : Hid (Row (w2.setCell ⟨g, 12, none⟩ (.int .i64 n)) (w.heap.size + 1) [.int .i64 0, .int .i64 0, .int .i64 0, .int .i64 0, .int .i64 0, .int .i64 0, .int .i64 0, .int .i64 0, .int .i64 0, .int .i64 0, .int .i64 0, .int .i64 0, .int .i64 0, .int .i64 0, .int .i64 0, .int .i64 0]) := HZ2.out.apart g 12 _ (by omega)
  have HB3 : Hid (Below w.heap.size w (w2.setCell ⟨g, 12, none⟩ (.int .i64 n))) := HB2.out.setCell (by show w.heap.size ≤ g; omega) _
  clear HO HZ2 HB2 HA2
  generalize w2.setCell ⟨g, 12, none⟩ (.int .i64 n) = w3 at HO3 HZ3 HB3 ⊢
  refine (toVec_c a b c _).mono ?_
  rintro e w4 ⟨rfl, hb⟩
  have HO4 : Hid (Row w4 g [.int .i64 s, .int .i64 j.id, .int .i64 j.pr, .int .i64 j.nd, .int .i64 j.na, .int .i64 j.nb, .int .i64 j.nc, .int .i64 j.la, .int .i64 j.lb, .int .i64 j.lc, .int .i64 j.wl, .int .i64 j.lv, .int .i64 n, .int .i64 0, .int .i64 0, .int .i64 0]) := HO3.out.below hb
  have HZ4 : Hid (Row w4 (w.heap.size + 1) [.int .i64 0, .int .i64 0, .int .i64 0, .int .i64 0, .int .i64 0, .int .i64 0, .int .i64 0, .int .i64 0, .int .i64 0, .int .i64 0, .int .i64 0, .int .i64 0, .int .i64 0, .int .i64 0, .int .i64 0, .int .i64 0]) := HZ3.out.below hb
  have HB4 : Hid (Below w.heap.size w w4) := below_then HB3.out hb
  clear hb HO3 HZ3 HB3
  go_wp2_with (refine stay_store 24 ?_)
  refine ⟨?_⟩
  refine wpList_store_mid rfl 24 _ _ rfl g 13 _ rfl rfl (HO4.out.room 13 3 (by simp)) szVecC (by simp [Value.oneCell']) ?_
  have HO5 : Hid (Row (w4.setCells g 13 (#[.int .i64 a, .int .i64 b, .int .i64 c] : Array Value).toList) g [.int .i64 s, .int .i64 j.id, .int .i64 j.pr, .int .i64 j.nd, .int .i64 j.na, .int .i64 j.nb, .int .i64 j.nc, .int .i64 j.la, .int .i64 j.lb, .int .i64 j.lc, .int .i64 j.wl, .int .i64 j.lv, .int .i64 n, .int .i64 a, .int .i64 b, .int .i64 c]) := Row.setCs _ 13 HO4.out (by simp)
  have HZ5 : Hid (Row (w4.setCells g 13 (#[.int .i64 a, .int .i64 b, .int .i64 c] : Array Value).toList) (w.heap.size + 1) [.int .i64 0, .int .i64 0, .int .i64 0, .int .i64 0, .int .i64 0, .int .i64 0, .int .i64 0, .int .i64 0, .int .i64 0, .int .i64 0, .int .i64 0, .int .i64 0, .int .i64 0, .int .i64 0, .int .i64 0, .int .i64 0]) := HZ4.out.apartCs (by omega) _ 13
  have HB5 : Hid (Below w.heap.size w (w4.setCells g 13 (#[.int .i64 a, .int .i64 b, .int .i64 c] : Array Value).toList)) := below_setCs (by omega) _ _ HB4.out
  generalize w4.setCells g 13 _ = w5 at HO5 HZ5 HB5 ⊢
  clear HO4 HZ4 HB4
  go_wp2_with (refine stay_load 28 ?_)
  refine ⟨?_⟩
  refine wpList_load_mid rfl 28 _ rfl g 0 rfl [.int .i64 s, .int .i64 j.id, .int .i64 j.pr, .int .i64 j.nd, .int .i64 j.na, .int .i64 j.nb, .int .i64 j.nc, .int .i64 j.la, .int .i64 j.lb, .int .i64 j.lc, .int .i64 j.wl, .int .i64 j.lv, .int .i64 n, .int .i64 a, .int .i64 b, .int .i64 c] _ HO5.out.all Tryd.underlying28 rfl szCmdC ?_
  go_wp2_with (refine stay_store 28 ?_)
  refine ⟨?_⟩
  refine wpList_store_mid rfl 28 _ _ rfl (w.heap.size + 1) 0 _ rfl rfl (HZ5.out.room 0 16 (by simp)) szCmdC (by simp [Value.oneCell']) ?_
  have HZ6 : Hid (Row (w5.setCells (w.heap.size + 1) 0 (#[.int .i64 s, .int .i64 j.id, .int .i64 j.pr, .int .i64 j.nd, .int .i64 j.na, .int .i64 j.nb, .int .i64 j.nc, .int .i64 j.la, .int .i64 j.lb, .int .i64 j.lc, .int .i64 j.wl, .int .i64 j.lv, .int .i64 n, .int .i64 a, .int .i64 b, .int .i64 c] : Array Value).toList) (w.heap.size + 1) [.int .i64 s, .int .i64 j.id, .int .i64 j.pr, .int .i64 j.nd, .int .i64 j.na, .int .i64 j.nb, .int .i64 j.nc, .int .i64 j.la, .int .i64 j.lb, .int .i64 j.lc, .int .i64 j.wl, .int .i64 j.lv, .int .i64 n, .int .i64 a, .int .i64 b, .int .i64 c]) := Row.setCs _ 0 HZ5.out (by simp)
  have HB6 : Hid (Below w.heap.size w (w5.setCells (w.heap.size + 1) 0 (#[.int .i64 s, .int .i64 j.id, .int .i64 j.pr, .int .i64 j.nd, .int .i64 j.na, .int .i64 j.nb, .int .i64 j.nc, .int .i64 j.la, .int .i64 j.lb, .int .i64 j.lc, .int .i64 j.wl, .int .i64 j.lv, .int .i64 n, .int .i64 a, .int .i64 b, .int .i64 c] : Array Value).toList)) := below_setCs (by omega) _ _ HB5.out
  generalize w5.setCells (w.heap.size + 1) 0 _ = w6 at HZ6 HB6 ⊢
  clear HO5 HZ5 HB5 hne hne'
  go_wp2_with fail
  have r0 := HZ6.out.cell 0 _ rfl
  have r1 := HZ6.out.cell 1 _ rfl
  have r2 := HZ6.out.cell 2 _ rfl
  have r3 := HZ6.out.cell 3 _ rfl
  have r4 := HZ6.out.cell 4 _ rfl
  have r5 := HZ6.out.cell 5 _ rfl
  have r6 := HZ6.out.cell 6 _ rfl
  have r7 := HZ6.out.cell 7 _ rfl
  have r8 := HZ6.out.cell 8 _ rfl
  have r9 := HZ6.out.cell 9 _ rfl
  have r10 := HZ6.out.cell 10 _ rfl
  have r11 := HZ6.out.cell 11 _ rfl
  have r12 := HZ6.out.cell 12 _ rfl
  have r13 := HZ6.out.cell 13 _ rfl
  have r14 := HZ6.out.cell 14 _ rfl
  have r15 := HZ6.out.cell 15 _ rfl
  exact bodyPost_ret (v := .agg #[.int .i64 s, .int .i64 j.id, .int .i64 j.pr, .int .i64 j.nd, .int .i64 j.na, .int .i64 j.nb, .int .i64 j.nc, .int .i64 j.la, .int .i64 j.lb, .int .i64 j.lc, .int .i64 j.wl, .int .i64 j.lv, .int .i64 n, .int .i64 a, .int .i64 b, .int .i64 c]) (by simp [results, Tryd.results48, go_sem, *]) rfl ⟨rfl, HB6.out⟩
end Go.Proofs.YtejleghdgdbbnaaDoor
