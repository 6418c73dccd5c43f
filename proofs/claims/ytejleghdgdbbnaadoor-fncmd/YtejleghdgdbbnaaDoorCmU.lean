/- The text of a command: the specification's. -/
import Derived.Test.YtejleghdgdbbnaaDoorCmT
import Derived.Test.YtejleghdgdbbnaaDoorBehA
namespace Go.Proofs.YtejleghdgdbbnaaDoor
open Go.ChangeShapes Go.WideShapes Go.ChangeAt Go.RowKit

theorem hid_rfl {α : Type} {a : α} : Hid (a = a) := rfl
theorem held1 {V w' : World} {B k : Nat} {x : Value} {xs : List Value} (hr : Row V B xs) (hx : xs[k]? = some x) (h : Below V.heap.size V w') : Below V.heap.size V w' ∧ w'.cell? ⟨B, k, none⟩ = some x := ⟨h, (hr.below h).cell k _ hx⟩
theorem szCmdS : (Tryd.prog.info? 28).map (·.size) = some 16 := by kernel_rfl
theorem szJobS' : (Tryd.prog.info? 26).map (·.size) = some 11 := by kernel_rfl
set_option maxHeartbeats 2000000 in
set_option maxRecDepth 100000 in
theorem specCmdText_2 (j : Jb) (n a b c : Int) (w : World) (h : cmdB 2 j n a b c = true) : Calls Tryd.prog 47 #[.agg #[.int .i64 2, .int .i64 j.id, .int .i64 j.pr, .int .i64 j.nd, .int .i64 j.na, .int .i64 j.nb, .int .i64 j.nc, .int .i64 j.la, .int .i64 j.lb, .int .i64 j.lc, .int .i64 j.wl, .int .i64 j.lv, .int .i64 n, .int .i64 a, .int .i64 b, .int .i64 c]] w fun e w' => e = .returned (.string ⟨(Lib.join (cwL 2 j n a b c) [32]).toArray⟩) ∧ Below w.heap.size w w' := by
  have hok := specCmdOk_c 2 j n a b c
  rw [h] at hok
  have HK : Hid (∀ w, Calls Tryd.prog 8 #[.agg #[.int .i64 2, .int .i64 j.id, .int .i64 j.pr, .int .i64 j.nd, .int .i64 j.na, .int .i64 j.nb, .int .i64 j.nc, .int .i64 j.la, .int .i64 j.lb, .int .i64 j.lc, .int .i64 j.wl, .int .i64 j.lv, .int .i64 n, .int .i64 a, .int .i64 b, .int .i64 c]] w fun e w' => e = .returned (.bool true) ∧ Below w.heap.size w w') := hok
  clear hok h
  obtain ⟨y1, hy1, A1⟩ : ∃ y, Hid (y = (⟨(kwL 2 ++ [32]).toArray⟩ : ByteArray)) ∧ ∀ W, (Op.stringOp .add ⟨#[99,97,110,99,101,108]⟩ ⟨#[32]⟩).run Tryd.prog W = .ok (.string y) W := ⟨_, hid_rfl, add_l (kwL 2) [32] (by decide) (by decide)⟩
  have hln := numL_len n
  obtain ⟨N, hN, CN⟩ : ∃ N, Hid (N = (⟨(numL n).toArray⟩ : ByteArray)) ∧ ∀ W, Calls Tryd.prog 44 #[.int .i64 n] W fun e w' => e = .returned (.string N) ∧ Below W.heap.size W w' := ⟨_, hid_rfl, fun W => specNumText_all n W⟩
  obtain ⟨y2, hy2, A2⟩ : ∃ y, Hid (y = (⟨(kwL 2 ++ [32] ++ numL n).toArray⟩ : ByteArray)) ∧ ∀ W, (Op.stringOp .add y1 N).run Tryd.prog W = .ok (.string y) W := ⟨_, hid_rfl, by rw [hy1.out, hN.out]; exact add_l _ (numL n) (by simp [kwL, kws]) (by omega)⟩
  have HE : Hid (y2 = (⟨(Lib.join (cwL 2 j n a b c) [32]).toArray⟩ : ByteArray)) := by show _ = _; rw [hy2.out]; simp [cwL, Lib.join]
  clear hy1 hN hy2 hln
  go_enter Tryd.func47, Tryd.ntmps47
  go_wp2_with (refine stay_load 28 ?_)
  refine ⟨?_⟩
  have HR : Hid (Row (w.alloc (.cells #[.int .i64 2, .int .i64 j.id, .int .i64 j.pr, .int .i64 j.nd, .int .i64 j.na, .int .i64 j.nb, .int .i64 j.nc, .int .i64 j.la, .int .i64 j.lb, .int .i64 j.lc, .int .i64 j.wl, .int .i64 j.lv, .int .i64 n, .int .i64 a, .int .i64 b, .int .i64 c] 28)) w.heap.size [.int .i64 2, .int .i64 j.id, .int .i64 j.pr, .int .i64 j.nd, .int .i64 j.na, .int .i64 j.nb, .int .i64 j.nc, .int .i64 j.la, .int .i64 j.lb, .int .i64 j.lc, .int .i64 j.wl, .int .i64 j.lv, .int .i64 n, .int .i64 a, .int .i64 b, .int .i64 c]) := row_fresh w [.int .i64 2, .int .i64 j.id, .int .i64 j.pr, .int .i64 j.nd, .int .i64 j.na, .int .i64 j.nb, .int .i64 j.nc, .int .i64 j.la, .int .i64 j.lb, .int .i64 j.lc, .int .i64 j.wl, .int .i64 j.lv, .int .i64 n, .int .i64 a, .int .i64 b, .int .i64 c] 28
  have HB : Hid (Below w.heap.size w (w.alloc (.cells #[.int .i64 2, .int .i64 j.id, .int .i64 j.pr, .int .i64 j.nd, .int .i64 j.na, .int .i64 j.nb, .int .i64 j.nc, .int .i64 j.la, .int .i64 j.lb, .int .i64 j.lc, .int .i64 j.wl, .int .i64 j.lv, .int .i64 n, .int .i64 a, .int .i64 b, .int .i64 c] 28))) := low_alloc _ _
  generalize w.alloc (.cells #[.int .i64 2, .int .i64 j.id, .int .i64 j.pr, .int .i64 j.nd, .int .i64 j.na, .int .i64 j.nb, .int .i64 j.nc, .int .i64 j.la, .int .i64 j.lb, .int .i64 j.lc, .int .i64 j.wl, .int .i64 j.lv, .int .i64 n, .int .i64 a, .int .i64 b, .int .i64 c] 28) = w0 at HR HB ⊢
  refine wpList_load_mid rfl 28 _ rfl w.heap.size 0 rfl [.int .i64 2, .int .i64 j.id, .int .i64 j.pr, .int .i64 j.nd, .int .i64 j.na, .int .i64 j.nb, .int .i64 j.nc, .int .i64 j.la, .int .i64 j.lb, .int .i64 j.lc, .int .i64 j.wl, .int .i64 j.lv, .int .i64 n, .int .i64 a, .int .i64 b, .int .i64 c] _ HR.out.all Tryd.underlying28 rfl szCmdS ?_
  go_wp2_with fail
  refine (HK.out _).mono ?_
  rintro e w1 ⟨rfl, hb⟩
  have HR1 : Hid (Row w1 w.heap.size [.int .i64 2, .int .i64 j.id, .int .i64 j.pr, .int .i64 j.nd, .int .i64 j.na, .int .i64 j.nb, .int .i64 j.nc, .int .i64 j.la, .int .i64 j.lb, .int .i64 j.lc, .int .i64 j.wl, .int .i64 j.lv, .int .i64 n, .int .i64 a, .int .i64 b, .int .i64 c]) := HR.out.below hb
  have HB1 : Hid (Below w.heap.size w w1) := below_then HB.out hb
  clear hb HR HB HK
  go_wp2_with fail
  have HD : Hid (Below w1.heap.size w1 w1.drew) := low_drew w1
  have HC0 : Hid (w1.cell? ⟨w.heap.size, 0, none⟩ = some (.int .i64 2)) := HR1.out.cell 0 _ rfl
  have hwl : w.heap.size < w1.heap.size := HR1.out.lt
  have HR1d : Hid (Row w1.drew w.heap.size [.int .i64 2, .int .i64 j.id, .int .i64 j.pr, .int .i64 j.nd, .int .i64 j.na, .int .i64 j.nb, .int .i64 j.nc, .int .i64 j.la, .int .i64 j.lb, .int .i64 j.lc, .int .i64 j.wl, .int .i64 j.lv, .int .i64 n, .int .i64 a, .int .i64 b, .int .i64 c]) := HR1.out.below HD.out
  have HB1d : Hid (Below w.heap.size w w1.drew) := below_then HB1.out HD.out
  have c1 := HR1d.out.cell 0 _ rfl
  go_region_with (first
    | (go_at_call 78; refine (l08Words_c w1.drew).mono ?_; rintro e w2 ⟨g, rfl, hg, hr, hb⟩; have g2 := hr.cell 2 _ rfl; have HB2 : Hid (Below w.heap.size w w2) := below_then HB1d.out hb; have HR2 : Hid (Row w2 w.heap.size [.int .i64 2, .int .i64 j.id, .int .i64 j.pr, .int .i64 j.nd, .int .i64 j.na, .int .i64 j.nb, .int .i64 j.nc, .int .i64 j.la, .int .i64 j.lb, .int .i64 j.lc, .int .i64 j.wl, .int .i64 j.lv, .int .i64 n, .int .i64 a, .int .i64 b, .int .i64 c]) := HR1d.out.below hb; have c2 := HR2.out.cell 0 _ rfl; clear hr hb))
  all_goals
    clear g2 c1 c2 HR1 HB1 HC0 HD HR1d HB1d hg
    go_wp2_with (refine stay_load 26 ?_)
    refine ⟨?_⟩
    refine wpList_load_mid rfl 26 _ rfl w.heap.size 1 rfl [.int .i64 j.id, .int .i64 j.pr, .int .i64 j.nd, .int .i64 j.na, .int .i64 j.nb, .int .i64 j.nc, .int .i64 j.la, .int .i64 j.lb, .int .i64 j.lc, .int .i64 j.wl, .int .i64 j.lv] _ (HR2.out.sub 1 11) Tryd.underlying26 rfl szJobS' ?_
    have HZ := row_fresh w2 [.int .i64 0, .int .i64 0, .int .i64 0, .int .i64 0, .int .i64 0, .int .i64 0, .int .i64 0, .int .i64 0, .int .i64 0, .int .i64 0, .int .i64 0] 26
    go_wp2_with (refine stay_store 26 ?_)
    refine ⟨?_⟩
    refine wpList_store_mid rfl 26 _ _ rfl w2.heap.size 0 _ rfl rfl (HZ.room 0 11 (by simp)) szJobS' (by simp [Value.oneCell']) ?_
    have HJ3 : Hid (Row ((w2.alloc (.cells #[.int .i64 0, .int .i64 0, .int .i64 0, .int .i64 0, .int .i64 0, .int .i64 0, .int .i64 0, .int .i64 0, .int .i64 0, .int .i64 0, .int .i64 0] 26)).setCells w2.heap.size 0 (#[.int .i64 j.id, .int .i64 j.pr, .int .i64 j.nd, .int .i64 j.na, .int .i64 j.nb, .int .i64 j.nc, .int .i64 j.la, .int .i64 j.lb, .int .i64 j.lc, .int .i64 j.wl, .int .i64 j.lv] : Array Value).toList) w2.heap.size [.int .i64 j.id, .int .i64 j.pr, .int .i64 j.nd, .int .i64 j.na, .int .i64 j.nb, .int .i64 j.nc, .int .i64 j.la, .int .i64 j.lb, .int .i64 j.lc, .int .i64 j.wl, .int .i64 j.lv]) := Row.setCs _ 0 HZ (by simp)
    have HB3 : Hid (Below w2.heap.size w2 ((w2.alloc (.cells #[.int .i64 0, .int .i64 0, .int .i64 0, .int .i64 0, .int .i64 0, .int .i64 0, .int .i64 0, .int .i64 0, .int .i64 0, .int .i64 0, .int .i64 0] 26)).setCells w2.heap.size 0 (#[.int .i64 j.id, .int .i64 j.pr, .int .i64 j.nd, .int .i64 j.na, .int .i64 j.nb, .int .i64 j.nc, .int .i64 j.la, .int .i64 j.lb, .int .i64 j.lc, .int .i64 j.wl, .int .i64 j.lv] : Array Value).toList)) := below_setCs (Nat.le_refl _) _ _ (low_alloc _ _)
    have HR3 : Hid (Row ((w2.alloc (.cells #[.int .i64 0, .int .i64 0, .int .i64 0, .int .i64 0, .int .i64 0, .int .i64 0, .int .i64 0, .int .i64 0, .int .i64 0, .int .i64 0, .int .i64 0] 26)).setCells w2.heap.size 0 (#[.int .i64 j.id, .int .i64 j.pr, .int .i64 j.nd, .int .i64 j.na, .int .i64 j.nb, .int .i64 j.nc, .int .i64 j.la, .int .i64 j.lb, .int .i64 j.lc, .int .i64 j.wl, .int .i64 j.lv] : Array Value).toList) w.heap.size [.int .i64 2, .int .i64 j.id, .int .i64 j.pr, .int .i64 j.nd, .int .i64 j.na, .int .i64 j.nb, .int .i64 j.nc, .int .i64 j.la, .int .i64 j.lb, .int .i64 j.lc, .int .i64 j.wl, .int .i64 j.lv, .int .i64 n, .int .i64 a, .int .i64 b, .int .i64 c]) := HR2.out.below HB3.out
    have HB4 : Hid (Below w.heap.size w ((w2.alloc (.cells #[.int .i64 0, .int .i64 0, .int .i64 0, .int .i64 0, .int .i64 0, .int .i64 0, .int .i64 0, .int .i64 0, .int .i64 0, .int .i64 0, .int .i64 0] 26)).setCells w2.heap.size 0 (#[.int .i64 j.id, .int .i64 j.pr, .int .i64 j.nd, .int .i64 j.na, .int .i64 j.nb, .int .i64 j.nc, .int .i64 j.la, .int .i64 j.lb, .int .i64 j.lc, .int .i64 j.wl, .int .i64 j.lv] : Array Value).toList)) := below_then HB2.out HB3.out
    clear HZ HB3 HR2 HB2
    generalize (w2.alloc (.cells #[.int .i64 0, .int .i64 0, .int .i64 0, .int .i64 0, .int .i64 0, .int .i64 0, .int .i64 0, .int .i64 0, .int .i64 0, .int .i64 0, .int .i64 0] 26)).setCells w2.heap.size 0 _ = w3 at HJ3 HR3 HB4 ⊢
    generalize w2.heap.size = q at HJ3 ⊢
    have c3 := HR3.out.cell 0 _ rfl
    have c12 := HR3.out.cell 12 _ rfl
    go_wp2_with fail
    clear c3 c12
    refine (CN _).mono ?_
    rintro e w4 ⟨rfl, hb⟩
    have HB5 : Hid (Below w.heap.size w w4) := below_then HB4.out hb
    clear hb HB4
    go_wp2_with fail
    go_ret
    exact ⟨by rw [HE.out]; rfl, HB5.out⟩
set_option maxHeartbeats 2000000 in
set_option maxRecDepth 100000 in
theorem specCmdText_3 (j : Jb) (n a b c : Int) (w : World) (h : cmdB 3 j n a b c = true) : Calls Tryd.prog 47 #[.agg #[.int .i64 3, .int .i64 j.id, .int .i64 j.pr, .int .i64 j.nd, .int .i64 j.na, .int .i64 j.nb, .int .i64 j.nc, .int .i64 j.la, .int .i64 j.lb, .int .i64 j.lc, .int .i64 j.wl, .int .i64 j.lv, .int .i64 n, .int .i64 a, .int .i64 b, .int .i64 c]] w fun e w' => e = .returned (.string ⟨(Lib.join (cwL 3 j n a b c) [32]).toArray⟩) ∧ Below w.heap.size w w' := by
  have hok := specCmdOk_c 3 j n a b c
  rw [h] at hok
  have HK : Hid (∀ w, Calls Tryd.prog 8 #[.agg #[.int .i64 3, .int .i64 j.id, .int .i64 j.pr, .int .i64 j.nd, .int .i64 j.na, .int .i64 j.nb, .int .i64 j.nc, .int .i64 j.la, .int .i64 j.lb, .int .i64 j.lc, .int .i64 j.wl, .int .i64 j.lv, .int .i64 n, .int .i64 a, .int .i64 b, .int .i64 c]] w fun e w' => e = .returned (.bool true) ∧ Below w.heap.size w w') := hok
  clear hok h
  obtain ⟨y1, hy1, A1⟩ : ∃ y, Hid (y = (⟨(kwL 3 ++ [32]).toArray⟩ : ByteArray)) ∧ ∀ W, (Op.stringOp .add ⟨#[100,111,110,101]⟩ ⟨#[32]⟩).run Tryd.prog W = .ok (.string y) W := ⟨_, hid_rfl, add_l (kwL 3) [32] (by decide) (by decide)⟩
  have hln := numL_len n
  obtain ⟨N, hN, CN⟩ : ∃ N, Hid (N = (⟨(numL n).toArray⟩ : ByteArray)) ∧ ∀ W, Calls Tryd.prog 44 #[.int .i64 n] W fun e w' => e = .returned (.string N) ∧ Below W.heap.size W w' := ⟨_, hid_rfl, fun W => specNumText_all n W⟩
  obtain ⟨y2, hy2, A2⟩ : ∃ y, Hid (y = (⟨(kwL 3 ++ [32] ++ numL n).toArray⟩ : ByteArray)) ∧ ∀ W, (Op.stringOp .add y1 N).run Tryd.prog W = .ok (.string y) W := ⟨_, hid_rfl, by rw [hy1.out, hN.out]; exact add_l _ (numL n) (by simp [kwL, kws]) (by omega)⟩
  have HE : Hid (y2 = (⟨(Lib.join (cwL 3 j n a b c) [32]).toArray⟩ : ByteArray)) := by show _ = _; rw [hy2.out]; simp [cwL, Lib.join]
  clear hy1 hN hy2 hln
  go_enter Tryd.func47, Tryd.ntmps47
  go_wp2_with (refine stay_load 28 ?_)
  refine ⟨?_⟩
  have HR : Hid (Row (w.alloc (.cells #[.int .i64 3, .int .i64 j.id, .int .i64 j.pr, .int .i64 j.nd, .int .i64 j.na, .int .i64 j.nb, .int .i64 j.nc, .int .i64 j.la, .int .i64 j.lb, .int .i64 j.lc, .int .i64 j.wl, .int .i64 j.lv, .int .i64 n, .int .i64 a, .int .i64 b, .int .i64 c] 28)) w.heap.size [.int .i64 3, .int .i64 j.id, .int .i64 j.pr, .int .i64 j.nd, .int .i64 j.na, .int .i64 j.nb, .int .i64 j.nc, .int .i64 j.la, .int .i64 j.lb, .int .i64 j.lc, .int .i64 j.wl, .int .i64 j.lv, .int .i64 n, .int .i64 a, .int .i64 b, .int .i64 c]) := row_fresh w [.int .i64 3, .int .i64 j.id, .int .i64 j.pr, .int .i64 j.nd, .int .i64 j.na, .int .i64 j.nb, .int .i64 j.nc, .int .i64 j.la, .int .i64 j.lb, .int .i64 j.lc, .int .i64 j.wl, .int .i64 j.lv, .int .i64 n, .int .i64 a, .int .i64 b, .int .i64 c] 28
  have HB : Hid (Below w.heap.size w (w.alloc (.cells #[.int .i64 3, .int .i64 j.id, .int .i64 j.pr, .int .i64 j.nd, .int .i64 j.na, .int .i64 j.nb, .int .i64 j.nc, .int .i64 j.la, .int .i64 j.lb, .int .i64 j.lc, .int .i64 j.wl, .int .i64 j.lv, .int .i64 n, .int .i64 a, .int .i64 b, .int .i64 c] 28))) := low_alloc _ _
  generalize w.alloc (.cells #[.int .i64 3, .int .i64 j.id, .int .i64 j.pr, .int .i64 j.nd, .int .i64 j.na, .int .i64 j.nb, .int .i64 j.nc, .int .i64 j.la, .int .i64 j.lb, .int .i64 j.lc, .int .i64 j.wl, .int .i64 j.lv, .int .i64 n, .int .i64 a, .int .i64 b, .int .i64 c] 28) = w0 at HR HB ⊢
  refine wpList_load_mid rfl 28 _ rfl w.heap.size 0 rfl [.int .i64 3, .int .i64 j.id, .int .i64 j.pr, .int .i64 j.nd, .int .i64 j.na, .int .i64 j.nb, .int .i64 j.nc, .int .i64 j.la, .int .i64 j.lb, .int .i64 j.lc, .int .i64 j.wl, .int .i64 j.lv, .int .i64 n, .int .i64 a, .int .i64 b, .int .i64 c] _ HR.out.all Tryd.underlying28 rfl szCmdS ?_
  go_wp2_with fail
  refine (HK.out _).mono ?_
  rintro e w1 ⟨rfl, hb⟩
  have HR1 : Hid (Row w1 w.heap.size [.int .i64 3, .int .i64 j.id, .int .i64 j.pr, .int .i64 j.nd, .int .i64 j.na, .int .i64 j.nb, .int .i64 j.nc, .int .i64 j.la, .int .i64 j.lb, .int .i64 j.lc, .int .i64 j.wl, .int .i64 j.lv, .int .i64 n, .int .i64 a, .int .i64 b, .int .i64 c]) := HR.out.below hb
  have HB1 : Hid (Below w.heap.size w w1) := below_then HB.out hb
  clear hb HR HB HK
  go_wp2_with fail
  have HD : Hid (Below w1.heap.size w1 w1.drew) := low_drew w1
  have HC0 : Hid (w1.cell? ⟨w.heap.size, 0, none⟩ = some (.int .i64 3)) := HR1.out.cell 0 _ rfl
  have hwl : w.heap.size < w1.heap.size := HR1.out.lt
  have HR1d : Hid (Row w1.drew w.heap.size [.int .i64 3, .int .i64 j.id, .int .i64 j.pr, .int .i64 j.nd, .int .i64 j.na, .int .i64 j.nb, .int .i64 j.nc, .int .i64 j.la, .int .i64 j.lb, .int .i64 j.lc, .int .i64 j.wl, .int .i64 j.lv, .int .i64 n, .int .i64 a, .int .i64 b, .int .i64 c]) := HR1.out.below HD.out
  have HB1d : Hid (Below w.heap.size w w1.drew) := below_then HB1.out HD.out
  have c1 := HR1d.out.cell 0 _ rfl
  go_region_with (first
    | (go_at_call 78; refine (l08Words_c w1.drew).mono ?_; rintro e w2 ⟨g, rfl, hg, hr, hb⟩; have g2 := hr.cell 3 _ rfl; have HB2 : Hid (Below w.heap.size w w2) := below_then HB1d.out hb; have HR2 : Hid (Row w2 w.heap.size [.int .i64 3, .int .i64 j.id, .int .i64 j.pr, .int .i64 j.nd, .int .i64 j.na, .int .i64 j.nb, .int .i64 j.nc, .int .i64 j.la, .int .i64 j.lb, .int .i64 j.lc, .int .i64 j.wl, .int .i64 j.lv, .int .i64 n, .int .i64 a, .int .i64 b, .int .i64 c]) := HR1d.out.below hb; have c2 := HR2.out.cell 0 _ rfl; clear hr hb))
  all_goals
    clear g2 c1 c2 HR1 HB1 HC0 HD HR1d HB1d hg
    go_wp2_with (refine stay_load 26 ?_)
    refine ⟨?_⟩
    refine wpList_load_mid rfl 26 _ rfl w.heap.size 1 rfl [.int .i64 j.id, .int .i64 j.pr, .int .i64 j.nd, .int .i64 j.na, .int .i64 j.nb, .int .i64 j.nc, .int .i64 j.la, .int .i64 j.lb, .int .i64 j.lc, .int .i64 j.wl, .int .i64 j.lv] _ (HR2.out.sub 1 11) Tryd.underlying26 rfl szJobS' ?_
    have HZ := row_fresh w2 [.int .i64 0, .int .i64 0, .int .i64 0, .int .i64 0, .int .i64 0, .int .i64 0, .int .i64 0, .int .i64 0, .int .i64 0, .int .i64 0, .int .i64 0] 26
    go_wp2_with (refine stay_store 26 ?_)
    refine ⟨?_⟩
    refine wpList_store_mid rfl 26 _ _ rfl w2.heap.size 0 _ rfl rfl (HZ.room 0 11 (by simp)) szJobS' (by simp [Value.oneCell']) ?_
    have HJ3 : Hid (Row ((w2.alloc (.cells #[.int .i64 0, .int .i64 0, .int .i64 0, .int .i64 0, .int .i64 0, .int .i64 0, .int .i64 0, .int .i64 0, .int .i64 0, .int .i64 0, .int .i64 0] 26)).setCells w2.heap.size 0 (#[.int .i64 j.id, .int .i64 j.pr, .int .i64 j.nd, .int .i64 j.na, .int .i64 j.nb, .int .i64 j.nc, .int .i64 j.la, .int .i64 j.lb, .int .i64 j.lc, .int .i64 j.wl, .int .i64 j.lv] : Array Value).toList) w2.heap.size [.int .i64 j.id, .int .i64 j.pr, .int .i64 j.nd, .int .i64 j.na, .int .i64 j.nb, .int .i64 j.nc, .int .i64 j.la, .int .i64 j.lb, .int .i64 j.lc, .int .i64 j.wl, .int .i64 j.lv]) := Row.setCs _ 0 HZ (by simp)
    have HB3 : Hid (Below w2.heap.size w2 ((w2.alloc (.cells #[.int .i64 0, .int .i64 0, .int .i64 0, .int .i64 0, .int .i64 0, .int .i64 0, .int .i64 0, .int .i64 0, .int .i64 0, .int .i64 0, .int .i64 0] 26)).setCells w2.heap.size 0 (#[.int .i64 j.id, .int .i64 j.pr, .int .i64 j.nd, .int .i64 j.na, .int .i64 j.nb, .int .i64 j.nc, .int .i64 j.la, .int .i64 j.lb, .int .i64 j.lc, .int .i64 j.wl, .int .i64 j.lv] : Array Value).toList)) := below_setCs (Nat.le_refl _) _ _ (low_alloc _ _)
    have HR3 : Hid (Row ((w2.alloc (.cells #[.int .i64 0, .int .i64 0, .int .i64 0, .int .i64 0, .int .i64 0, .int .i64 0, .int .i64 0, .int .i64 0, .int .i64 0, .int .i64 0, .int .i64 0] 26)).setCells w2.heap.size 0 (#[.int .i64 j.id, .int .i64 j.pr, .int .i64 j.nd, .int .i64 j.na, .int .i64 j.nb, .int .i64 j.nc, .int .i64 j.la, .int .i64 j.lb, .int .i64 j.lc, .int .i64 j.wl, .int .i64 j.lv] : Array Value).toList) w.heap.size [.int .i64 3, .int .i64 j.id, .int .i64 j.pr, .int .i64 j.nd, .int .i64 j.na, .int .i64 j.nb, .int .i64 j.nc, .int .i64 j.la, .int .i64 j.lb, .int .i64 j.lc, .int .i64 j.wl, .int .i64 j.lv, .int .i64 n, .int .i64 a, .int .i64 b, .int .i64 c]) := HR2.out.below HB3.out
    have HB4 : Hid (Below w.heap.size w ((w2.alloc (.cells #[.int .i64 0, .int .i64 0, .int .i64 0, .int .i64 0, .int .i64 0, .int .i64 0, .int .i64 0, .int .i64 0, .int .i64 0, .int .i64 0, .int .i64 0] 26)).setCells w2.heap.size 0 (#[.int .i64 j.id, .int .i64 j.pr, .int .i64 j.nd, .int .i64 j.na, .int .i64 j.nb, .int .i64 j.nc, .int .i64 j.la, .int .i64 j.lb, .int .i64 j.lc, .int .i64 j.wl, .int .i64 j.lv] : Array Value).toList)) := below_then HB2.out HB3.out
    clear HZ HB3 HR2 HB2
    generalize (w2.alloc (.cells #[.int .i64 0, .int .i64 0, .int .i64 0, .int .i64 0, .int .i64 0, .int .i64 0, .int .i64 0, .int .i64 0, .int .i64 0, .int .i64 0, .int .i64 0] 26)).setCells w2.heap.size 0 _ = w3 at HJ3 HR3 HB4 ⊢
    generalize w2.heap.size = q at HJ3 ⊢
    have c3 := HR3.out.cell 0 _ rfl
    have c12 := HR3.out.cell 12 _ rfl
    go_wp2_with fail
    clear c3 c12
    refine (CN _).mono ?_
    rintro e w4 ⟨rfl, hb⟩
    have HB5 : Hid (Below w.heap.size w w4) := below_then HB4.out hb
    clear hb HB4
    go_wp2_with fail
    go_ret
    exact ⟨by rw [HE.out]; rfl, HB5.out⟩
set_option maxHeartbeats 2000000 in
set_option maxRecDepth 100000 in
theorem specCmdText_4 (j : Jb) (n a b c : Int) (w : World) (h : cmdB 4 j n a b c = true) : Calls Tryd.prog 47 #[.agg #[.int .i64 4, .int .i64 j.id, .int .i64 j.pr, .int .i64 j.nd, .int .i64 j.na, .int .i64 j.nb, .int .i64 j.nc, .int .i64 j.la, .int .i64 j.lb, .int .i64 j.lc, .int .i64 j.wl, .int .i64 j.lv, .int .i64 n, .int .i64 a, .int .i64 b, .int .i64 c]] w fun e w' => e = .returned (.string ⟨(Lib.join (cwL 4 j n a b c) [32]).toArray⟩) ∧ Below w.heap.size w w' := by
  have hok := specCmdOk_c 4 j n a b c
  rw [h] at hok
  have HK : Hid (∀ w, Calls Tryd.prog 8 #[.agg #[.int .i64 4, .int .i64 j.id, .int .i64 j.pr, .int .i64 j.nd, .int .i64 j.na, .int .i64 j.nb, .int .i64 j.nc, .int .i64 j.la, .int .i64 j.lb, .int .i64 j.lc, .int .i64 j.wl, .int .i64 j.lv, .int .i64 n, .int .i64 a, .int .i64 b, .int .i64 c]] w fun e w' => e = .returned (.bool true) ∧ Below w.heap.size w w') := hok
  clear hok h
  obtain ⟨y1, hy1, A1⟩ : ∃ y, Hid (y = (⟨(kwL 4 ++ [32]).toArray⟩ : ByteArray)) ∧ ∀ W, (Op.stringOp .add ⟨#[102,97,105,108]⟩ ⟨#[32]⟩).run Tryd.prog W = .ok (.string y) W := ⟨_, hid_rfl, add_l (kwL 4) [32] (by decide) (by decide)⟩
  have hln := numL_len n
  obtain ⟨N, hN, CN⟩ : ∃ N, Hid (N = (⟨(numL n).toArray⟩ : ByteArray)) ∧ ∀ W, Calls Tryd.prog 44 #[.int .i64 n] W fun e w' => e = .returned (.string N) ∧ Below W.heap.size W w' := ⟨_, hid_rfl, fun W => specNumText_all n W⟩
  obtain ⟨y2, hy2, A2⟩ : ∃ y, Hid (y = (⟨(kwL 4 ++ [32] ++ numL n).toArray⟩ : ByteArray)) ∧ ∀ W, (Op.stringOp .add y1 N).run Tryd.prog W = .ok (.string y) W := ⟨_, hid_rfl, by rw [hy1.out, hN.out]; exact add_l _ (numL n) (by simp [kwL, kws]) (by omega)⟩
  have HE : Hid (y2 = (⟨(Lib.join (cwL 4 j n a b c) [32]).toArray⟩ : ByteArray)) := by show _ = _; rw [hy2.out]; simp [cwL, Lib.join]
  clear hy1 hN hy2 hln
  go_enter Tryd.func47, Tryd.ntmps47
  go_wp2_with (refine stay_load 28 ?_)
  refine ⟨?_⟩
  have HR : Hid (Row (w.alloc (.cells #[.int .i64 4, .int .i64 j.id, .int .i64 j.pr, .int .i64 j.nd, .int .i64 j.na, .int .i64 j.nb, .int .i64 j.nc, .int .i64 j.la, .int .i64 j.lb, .int .i64 j.lc, .int .i64 j.wl, .int .i64 j.lv, .int .i64 n, .int .i64 a, .int .i64 b, .int .i64 c] 28)) w.heap.size [.int .i64 4, .int .i64 j.id, .int .i64 j.pr, .int .i64 j.nd, .int .i64 j.na, .int .i64 j.nb, .int .i64 j.nc, .int .i64 j.la, .int .i64 j.lb, .int .i64 j.lc, .int .i64 j.wl, .int .i64 j.lv, .int .i64 n, .int .i64 a, .int .i64 b, .int .i64 c]) := row_fresh w [.int .i64 4, .int .i64 j.id, .int .i64 j.pr, .int .i64 j.nd, .int .i64 j.na, .int .i64 j.nb, .int .i64 j.nc, .int .i64 j.la, .int .i64 j.lb, .int .i64 j.lc, .int .i64 j.wl, .int .i64 j.lv, .int .i64 n, .int .i64 a, .int .i64 b, .int .i64 c] 28
  have HB : Hid (Below w.heap.size w (w.alloc (.cells #[.int .i64 4, .int .i64 j.id, .int .i64 j.pr, .int .i64 j.nd, .int .i64 j.na, .int .i64 j.nb, .int .i64 j.nc, .int .i64 j.la, .int .i64 j.lb, .int .i64 j.lc, .int .i64 j.wl, .int .i64 j.lv, .int .i64 n, .int .i64 a, .int .i64 b, .int .i64 c] 28))) := low_alloc _ _
  generalize w.alloc (.cells #[.int .i64 4, .int .i64 j.id, .int .i64 j.pr, .int .i64 j.nd, .int .i64 j.na, .int .i64 j.nb, .int .i64 j.nc, .int .i64 j.la, .int .i64 j.lb, .int .i64 j.lc, .int .i64 j.wl, .int .i64 j.lv, .int .i64 n, .int .i64 a, .int .i64 b, .int .i64 c] 28) = w0 at HR HB ⊢
  refine wpList_load_mid rfl 28 _ rfl w.heap.size 0 rfl [.int .i64 4, .int .i64 j.id, .int .i64 j.pr, .int .i64 j.nd, .int .i64 j.na, .int .i64 j.nb, .int .i64 j.nc, .int .i64 j.la, .int .i64 j.lb, .int .i64 j.lc, .int .i64 j.wl, .int .i64 j.lv, .int .i64 n, .int .i64 a, .int .i64 b, .int .i64 c] _ HR.out.all Tryd.underlying28 rfl szCmdS ?_
  go_wp2_with fail
  refine (HK.out _).mono ?_
  rintro e w1 ⟨rfl, hb⟩
  have HR1 : Hid (Row w1 w.heap.size [.int .i64 4, .int .i64 j.id, .int .i64 j.pr, .int .i64 j.nd, .int .i64 j.na, .int .i64 j.nb, .int .i64 j.nc, .int .i64 j.la, .int .i64 j.lb, .int .i64 j.lc, .int .i64 j.wl, .int .i64 j.lv, .int .i64 n, .int .i64 a, .int .i64 b, .int .i64 c]) := HR.out.below hb
  have HB1 : Hid (Below w.heap.size w w1) := below_then HB.out hb
  clear hb HR HB HK
  go_wp2_with fail
  have HD : Hid (Below w1.heap.size w1 w1.drew) := low_drew w1
  have HC0 : Hid (w1.cell? ⟨w.heap.size, 0, none⟩ = some (.int .i64 4)) := HR1.out.cell 0 _ rfl
  have hwl : w.heap.size < w1.heap.size := HR1.out.lt
  have HR1d : Hid (Row w1.drew w.heap.size [.int .i64 4, .int .i64 j.id, .int .i64 j.pr, .int .i64 j.nd, .int .i64 j.na, .int .i64 j.nb, .int .i64 j.nc, .int .i64 j.la, .int .i64 j.lb, .int .i64 j.lc, .int .i64 j.wl, .int .i64 j.lv, .int .i64 n, .int .i64 a, .int .i64 b, .int .i64 c]) := HR1.out.below HD.out
  have HB1d : Hid (Below w.heap.size w w1.drew) := below_then HB1.out HD.out
  have c1 := HR1d.out.cell 0 _ rfl
  go_region_with (first
    | (go_at_call 78; refine (l08Words_c w1.drew).mono ?_; rintro e w2 ⟨g, rfl, hg, hr, hb⟩; have g2 := hr.cell 4 _ rfl; have HB2 : Hid (Below w.heap.size w w2) := below_then HB1d.out hb; have HR2 : Hid (Row w2 w.heap.size [.int .i64 4, .int .i64 j.id, .int .i64 j.pr, .int .i64 j.nd, .int .i64 j.na, .int .i64 j.nb, .int .i64 j.nc, .int .i64 j.la, .int .i64 j.lb, .int .i64 j.lc, .int .i64 j.wl, .int .i64 j.lv, .int .i64 n, .int .i64 a, .int .i64 b, .int .i64 c]) := HR1d.out.below hb; have c2 := HR2.out.cell 0 _ rfl; clear hr hb))
  all_goals
    clear g2 c1 c2 HR1 HB1 HC0 HD HR1d HB1d hg
    go_wp2_with (refine stay_load 26 ?_)
    refine ⟨?_⟩
    refine wpList_load_mid rfl 26 _ rfl w.heap.size 1 rfl [.int .i64 j.id, .int .i64 j.pr, .int .i64 j.nd, .int .i64 j.na, .int .i64 j.nb, .int .i64 j.nc, .int .i64 j.la, .int .i64 j.lb, .int .i64 j.lc, .int .i64 j.wl, .int .i64 j.lv] _ (HR2.out.sub 1 11) Tryd.underlying26 rfl szJobS' ?_
    have HZ := row_fresh w2 [.int .i64 0, .int .i64 0, .int .i64 0, .int .i64 0, .int .i64 0, .int .i64 0, .int .i64 0, .int .i64 0, .int .i64 0, .int .i64 0, .int .i64 0] 26
    go_wp2_with (refine stay_store 26 ?_)
    refine ⟨?_⟩
    refine wpList_store_mid rfl 26 _ _ rfl w2.heap.size 0 _ rfl rfl (HZ.room 0 11 (by simp)) szJobS' (by simp [Value.oneCell']) ?_
    have HJ3 : Hid (Row ((w2.alloc (.cells #[.int .i64 0, .int .i64 0, .int .i64 0, .int .i64 0, .int .i64 0, .int .i64 0, .int .i64 0, .int .i64 0, .int .i64 0, .int .i64 0, .int .i64 0] 26)).setCells w2.heap.size 0 (#[.int .i64 j.id, .int .i64 j.pr, .int .i64 j.nd, .int .i64 j.na, .int .i64 j.nb, .int .i64 j.nc, .int .i64 j.la, .int .i64 j.lb, .int .i64 j.lc, .int .i64 j.wl, .int .i64 j.lv] : Array Value).toList) w2.heap.size [.int .i64 j.id, .int .i64 j.pr, .int .i64 j.nd, .int .i64 j.na, .int .i64 j.nb, .int .i64 j.nc, .int .i64 j.la, .int .i64 j.lb, .int .i64 j.lc, .int .i64 j.wl, .int .i64 j.lv]) := Row.setCs _ 0 HZ (by simp)
    have HB3 : Hid (Below w2.heap.size w2 ((w2.alloc (.cells #[.int .i64 0, .int .i64 0, .int .i64 0, .int .i64 0, .int .i64 0, .int .i64 0, .int .i64 0, .int .i64 0, .int .i64 0, .int .i64 0, .int .i64 0] 26)).setCells w2.heap.size 0 (#[.int .i64 j.id, .int .i64 j.pr, .int .i64 j.nd, .int .i64 j.na, .int .i64 j.nb, .int .i64 j.nc, .int .i64 j.la, .int .i64 j.lb, .int .i64 j.lc, .int .i64 j.wl, .int .i64 j.lv] : Array Value).toList)) := below_setCs (Nat.le_refl _) _ _ (low_alloc _ _)
    have HR3 : Hid (Row ((w2.alloc (.cells #[.int .i64 0, .int .i64 0, .int .i64 0, .int .i64 0, .int .i64 0, .int .i64 0, .int .i64 0, .int .i64 0, .int .i64 0, .int .i64 0, .int .i64 0] 26)).setCells w2.heap.size 0 (#[.int .i64 j.id, .int .i64 j.pr, .int .i64 j.nd, .int .i64 j.na, .int .i64 j.nb, .int .i64 j.nc, .int .i64 j.la, .int .i64 j.lb, .int .i64 j.lc, .int .i64 j.wl, .int .i64 j.lv] : Array Value).toList) w.heap.size [.int .i64 4, .int .i64 j.id, .int .i64 j.pr, .int .i64 j.nd, .int .i64 j.na, .int .i64 j.nb, .int .i64 j.nc, .int .i64 j.la, .int .i64 j.lb, .int .i64 j.lc, .int .i64 j.wl, .int .i64 j.lv, .int .i64 n, .int .i64 a, .int .i64 b, .int .i64 c]) := HR2.out.below HB3.out
    have HB4 : Hid (Below w.heap.size w ((w2.alloc (.cells #[.int .i64 0, .int .i64 0, .int .i64 0, .int .i64 0, .int .i64 0, .int .i64 0, .int .i64 0, .int .i64 0, .int .i64 0, .int .i64 0, .int .i64 0] 26)).setCells w2.heap.size 0 (#[.int .i64 j.id, .int .i64 j.pr, .int .i64 j.nd, .int .i64 j.na, .int .i64 j.nb, .int .i64 j.nc, .int .i64 j.la, .int .i64 j.lb, .int .i64 j.lc, .int .i64 j.wl, .int .i64 j.lv] : Array Value).toList)) := below_then HB2.out HB3.out
    clear HZ HB3 HR2 HB2
    generalize (w2.alloc (.cells #[.int .i64 0, .int .i64 0, .int .i64 0, .int .i64 0, .int .i64 0, .int .i64 0, .int .i64 0, .int .i64 0, .int .i64 0, .int .i64 0, .int .i64 0] 26)).setCells w2.heap.size 0 _ = w3 at HJ3 HR3 HB4 ⊢
    generalize w2.heap.size = q at HJ3 ⊢
    have c3 := HR3.out.cell 0 _ rfl
    have c12 := HR3.out.cell 12 _ rfl
    go_wp2_with fail
    clear c3 c12
    refine (CN _).mono ?_
    rintro e w4 ⟨rfl, hb⟩
    have HB5 : Hid (Below w.heap.size w w4) := below_then HB4.out hb
    clear hb HB4
    go_wp2_with fail
    go_ret
    exact ⟨by rw [HE.out]; rfl, HB5.out⟩
set_option maxHeartbeats 2000000 in
set_option maxRecDepth 100000 in
theorem specCmdText_5 (j : Jb) (n a b c : Int) (w : World) (h : cmdB 5 j n a b c = true) : Calls Tryd.prog 47 #[.agg #[.int .i64 5, .int .i64 j.id, .int .i64 j.pr, .int .i64 j.nd, .int .i64 j.na, .int .i64 j.nb, .int .i64 j.nc, .int .i64 j.la, .int .i64 j.lb, .int .i64 j.lc, .int .i64 j.wl, .int .i64 j.lv, .int .i64 n, .int .i64 a, .int .i64 b, .int .i64 c]] w fun e w' => e = .returned (.string ⟨(Lib.join (cwL 5 j n a b c) [32]).toArray⟩) ∧ Below w.heap.size w w' := by
  have hok := specCmdOk_c 5 j n a b c
  rw [h] at hok
  have HK : Hid (∀ w, Calls Tryd.prog 8 #[.agg #[.int .i64 5, .int .i64 j.id, .int .i64 j.pr, .int .i64 j.nd, .int .i64 j.na, .int .i64 j.nb, .int .i64 j.nc, .int .i64 j.la, .int .i64 j.lb, .int .i64 j.lc, .int .i64 j.wl, .int .i64 j.lv, .int .i64 n, .int .i64 a, .int .i64 b, .int .i64 c]] w fun e w' => e = .returned (.bool true) ∧ Below w.heap.size w w') := hok
  clear hok h
  obtain ⟨y1, hy1, A1⟩ : ∃ y, Hid (y = (⟨(kwL 5 ++ [32]).toArray⟩ : ByteArray)) ∧ ∀ W, (Op.stringOp .add ⟨#[114,101,115,117,109,101]⟩ ⟨#[32]⟩).run Tryd.prog W = .ok (.string y) W := ⟨_, hid_rfl, add_l (kwL 5) [32] (by decide) (by decide)⟩
  have hln := numL_len n
  obtain ⟨N, hN, CN⟩ : ∃ N, Hid (N = (⟨(numL n).toArray⟩ : ByteArray)) ∧ ∀ W, Calls Tryd.prog 44 #[.int .i64 n] W fun e w' => e = .returned (.string N) ∧ Below W.heap.size W w' := ⟨_, hid_rfl, fun W => specNumText_all n W⟩
  obtain ⟨y2, hy2, A2⟩ : ∃ y, Hid (y = (⟨(kwL 5 ++ [32] ++ numL n).toArray⟩ : ByteArray)) ∧ ∀ W, (Op.stringOp .add y1 N).run Tryd.prog W = .ok (.string y) W := ⟨_, hid_rfl, by rw [hy1.out, hN.out]; exact add_l _ (numL n) (by simp [kwL, kws]) (by omega)⟩
  have HE : Hid (y2 = (⟨(Lib.join (cwL 5 j n a b c) [32]).toArray⟩ : ByteArray)) := by show _ = _; rw [hy2.out]; simp [cwL, Lib.join]
  clear hy1 hN hy2 hln
  go_enter Tryd.func47, Tryd.ntmps47
  go_wp2_with (refine stay_load 28 ?_)
  refine ⟨?_⟩
  have HR : Hid (Row (w.alloc (.cells #[.int .i64 5, .int .i64 j.id, .int .i64 j.pr, .int .i64 j.nd, .int .i64 j.na, .int .i64 j.nb, .int .i64 j.nc, .int .i64 j.la, .int .i64 j.lb, .int .i64 j.lc, .int .i64 j.wl, .int .i64 j.lv, .int .i64 n, .int .i64 a, .int .i64 b, .int .i64 c] 28)) w.heap.size [.int .i64 5, .int .i64 j.id, .int .i64 j.pr, .int .i64 j.nd, .int .i64 j.na, .int .i64 j.nb, .int .i64 j.nc, .int .i64 j.la, .int .i64 j.lb, .int .i64 j.lc, .int .i64 j.wl, .int .i64 j.lv, .int .i64 n, .int .i64 a, .int .i64 b, .int .i64 c]) := row_fresh w [.int .i64 5, .int .i64 j.id, .int .i64 j.pr, .int .i64 j.nd, .int .i64 j.na, .int .i64 j.nb, .int .i64 j.nc, .int .i64 j.la, .int .i64 j.lb, .int .i64 j.lc, .int .i64 j.wl, .int .i64 j.lv, .int .i64 n, .int .i64 a, .int .i64 b, .int .i64 c] 28
  have HB : Hid (Below w.heap.size w (w.alloc (.cells #[.int .i64 5, .int .i64 j.id, .int .i64 j.pr, .int .i64 j.nd, .int .i64 j.na, .int .i64 j.nb, .int .i64 j.nc, .int .i64 j.la, .int .i64 j.lb, .int .i64 j.lc, .int .i64 j.wl, .int .i64 j.lv, .int .i64 n, .int .i64 a, .int .i64 b, .int .i64 c] 28))) := low_alloc _ _
  generalize w.alloc (.cells #[.int .i64 5, .int .i64 j.id, .int .i64 j.pr, .int .i64 j.nd, .int .i64 j.na, .int .i64 j.nb, .int .i64 j.nc, .int .i64 j.la, .int .i64 j.lb, .int .i64 j.lc, .int .i64 j.wl, .int .i64 j.lv, .int .i64 n, .int .i64 a, .int .i64 b, .int .i64 c] 28) = w0 at HR HB ⊢
  refine wpList_load_mid rfl 28 _ rfl w.heap.size 0 rfl [.int .i64 5, .int .i64 j.id, .int .i64 j.pr, .int .i64 j.nd, .int .i64 j.na, .int .i64 j.nb, .int .i64 j.nc, .int .i64 j.la, .int .i64 j.lb, .int .i64 j.lc, .int .i64 j.wl, .int .i64 j.lv, .int .i64 n, .int .i64 a, .int .i64 b, .int .i64 c] _ HR.out.all Tryd.underlying28 rfl szCmdS ?_
  go_wp2_with fail
  refine (HK.out _).mono ?_
  rintro e w1 ⟨rfl, hb⟩
  have HR1 : Hid (Row w1 w.heap.size [.int .i64 5, .int .i64 j.id, .int .i64 j.pr, .int .i64 j.nd, .int .i64 j.na, .int .i64 j.nb, .int .i64 j.nc, .int .i64 j.la, .int .i64 j.lb, .int .i64 j.lc, .int .i64 j.wl, .int .i64 j.lv, .int .i64 n, .int .i64 a, .int .i64 b, .int .i64 c]) := HR.out.below hb
  have HB1 : Hid (Below w.heap.size w w1) := below_then HB.out hb
  clear hb HR HB HK
  go_wp2_with fail
  have HD : Hid (Below w1.heap.size w1 w1.drew) := low_drew w1
  have HC0 : Hid (w1.cell? ⟨w.heap.size, 0, none⟩ = some (.int .i64 5)) := HR1.out.cell 0 _ rfl
  have hwl : w.heap.size < w1.heap.size := HR1.out.lt
  have HR1d : Hid (Row w1.drew w.heap.size [.int .i64 5, .int .i64 j.id, .int .i64 j.pr, .int .i64 j.nd, .int .i64 j.na, .int .i64 j.nb, .int .i64 j.nc, .int .i64 j.la, .int .i64 j.lb, .int .i64 j.lc, .int .i64 j.wl, .int .i64 j.lv, .int .i64 n, .int .i64 a, .int .i64 b, .int .i64 c]) := HR1.out.below HD.out
  have HB1d : Hid (Below w.heap.size w w1.drew) := below_then HB1.out HD.out
  have c1 := HR1d.out.cell 0 _ rfl
  go_region_with (first
    | (go_at_call 78; refine (l08Words_c w1.drew).mono ?_; rintro e w2 ⟨g, rfl, hg, hr, hb⟩; have g2 := hr.cell 5 _ rfl; have HB2 : Hid (Below w.heap.size w w2) := below_then HB1d.out hb; have HR2 : Hid (Row w2 w.heap.size [.int .i64 5, .int .i64 j.id, .int .i64 j.pr, .int .i64 j.nd, .int .i64 j.na, .int .i64 j.nb, .int .i64 j.nc, .int .i64 j.la, .int .i64 j.lb, .int .i64 j.lc, .int .i64 j.wl, .int .i64 j.lv, .int .i64 n, .int .i64 a, .int .i64 b, .int .i64 c]) := HR1d.out.below hb; have c2 := HR2.out.cell 0 _ rfl; clear hr hb))
  all_goals
    clear g2 c1 c2 HR1 HB1 HC0 HD HR1d HB1d hg
    go_wp2_with (refine stay_load 26 ?_)
    refine ⟨?_⟩
    refine wpList_load_mid rfl 26 _ rfl w.heap.size 1 rfl [.int .i64 j.id, .int .i64 j.pr, .int .i64 j.nd, .int .i64 j.na, .int .i64 j.nb, .int .i64 j.nc, .int .i64 j.la, .int .i64 j.lb, .int .i64 j.lc, .int .i64 j.wl, .int .i64 j.lv] _ (HR2.out.sub 1 11) Tryd.underlying26 rfl szJobS' ?_
    have HZ := row_fresh w2 [.int .i64 0, .int .i64 0, .int .i64 0, .int .i64 0, .int .i64 0, .int .i64 0, .int .i64 0, .int .i64 0, .int .i64 0, .int .i64 0, .int .i64 0] 26
    go_wp2_with (refine stay_store 26 ?_)
    refine ⟨?_⟩
    refine wpList_store_mid rfl 26 _ _ rfl w2.heap.size 0 _ rfl rfl (HZ.room 0 11 (by simp)) szJobS' (by simp [Value.oneCell']) ?_
    have HJ3 : Hid (Row ((w2.alloc (.cells #[.int .i64 0, .int .i64 0, .int .i64 0, .int .i64 0, .int .i64 0, .int .i64 0, .int .i64 0, .int .i64 0, .int .i64 0, .int .i64 0, .int .i64 0] 26)).setCells w2.heap.size 0 (#[.int .i64 j.id, .int .i64 j.pr, .int .i64 j.nd, .int .i64 j.na, .int .i64 j.nb, .int .i64 j.nc, .int .i64 j.la, .int .i64 j.lb, .int .i64 j.lc, .int .i64 j.wl, .int .i64 j.lv] : Array Value).toList) w2.heap.size [.int .i64 j.id, .int .i64 j.pr, .int .i64 j.nd, .int .i64 j.na, .int .i64 j.nb, .int .i64 j.nc, .int .i64 j.la, .int .i64 j.lb, .int .i64 j.lc, .int .i64 j.wl, .int .i64 j.lv]) := Row.setCs _ 0 HZ (by simp)
    have HB3 : Hid (Below w2.heap.size w2 ((w2.alloc (.cells #[.int .i64 0, .int .i64 0, .int .i64 0, .int .i64 0, .int .i64 0, .int .i64 0, .int .i64 0, .int .i64 0, .int .i64 0, .int .i64 0, .int .i64 0] 26)).setCells w2.heap.size 0 (#[.int .i64 j.id, .int .i64 j.pr, .int .i64 j.nd, .int .i64 j.na, .int .i64 j.nb, .int .i64 j.nc, .int .i64 j.la, .int .i64 j.lb, .int .i64 j.lc, .int .i64 j.wl, .int .i64 j.lv] : Array Value).toList)) := below_setCs (Nat.le_refl _) _ _ (low_alloc _ _)
    have HR3 : Hid (Row ((w2.alloc (.cells #[.int .i64 0, .int .i64 0, .int .i64 0, .int .i64 0, .int .i64 0, .int .i64 0, .int .i64 0, .int .i64 0, .int .i64 0, .int .i64 0, .int .i64 0] 26)).setCells w2.heap.size 0 (#[.int .i64 j.id, .int .i64 j.pr, .int .i64 j.nd, .int .i64 j.na, .int .i64 j.nb, .int .i64 j.nc, .int .i64 j.la, .int .i64 j.lb, .int .i64 j.lc, .int .i64 j.wl, .int .i64 j.lv] : Array Value).toList) w.heap.size [.int .i64 5, .int .i64 j.id, .int .i64 j.pr, .int .i64 j.nd, .int .i64 j.na, .int .i64 j.nb, .int .i64 j.nc, .int .i64 j.la, .int .i64 j.lb, .int .i64 j.lc, .int .i64 j.wl, .int .i64 j.lv, .int .i64 n, .int .i64 a, .int .i64 b, .int .i64 c]) := HR2.out.below HB3.out
    have HB4 : Hid (Below w.heap.size w ((w2.alloc (.cells #[.int .i64 0, .int .i64 0, .int .i64 0, .int .i64 0, .int .i64 0, .int .i64 0, .int .i64 0, .int .i64 0, .int .i64 0, .int .i64 0, .int .i64 0] 26)).setCells w2.heap.size 0 (#[.int .i64 j.id, .int .i64 j.pr, .int .i64 j.nd, .int .i64 j.na, .int .i64 j.nb, .int .i64 j.nc, .int .i64 j.la, .int .i64 j.lb, .int .i64 j.lc, .int .i64 j.wl, .int .i64 j.lv] : Array Value).toList)) := below_then HB2.out HB3.out
    clear HZ HB3 HR2 HB2
    generalize (w2.alloc (.cells #[.int .i64 0, .int .i64 0, .int .i64 0, .int .i64 0, .int .i64 0, .int .i64 0, .int .i64 0, .int .i64 0, .int .i64 0, .int .i64 0, .int .i64 0] 26)).setCells w2.heap.size 0 _ = w3 at HJ3 HR3 HB4 ⊢
    generalize w2.heap.size = q at HJ3 ⊢
    have c3 := HR3.out.cell 0 _ rfl
    have c12 := HR3.out.cell 12 _ rfl
    go_wp2_with fail
    clear c3 c12
    refine (CN _).mono ?_
    rintro e w4 ⟨rfl, hb⟩
    have HB5 : Hid (Below w.heap.size w w4) := below_then HB4.out hb
    clear hb HB4
    go_wp2_with fail
    go_ret
    exact ⟨by rw [HE.out]; rfl, HB5.out⟩
set_option maxHeartbeats 2000000 in
set_option maxRecDepth 100000 in
theorem specCmdText_7 (j : Jb) (n a b c : Int) (w : World) (h : cmdB 7 j n a b c = true) : Calls Tryd.prog 47 #[.agg #[.int .i64 7, .int .i64 j.id, .int .i64 j.pr, .int .i64 j.nd, .int .i64 j.na, .int .i64 j.nb, .int .i64 j.nc, .int .i64 j.la, .int .i64 j.lb, .int .i64 j.lc, .int .i64 j.wl, .int .i64 j.lv, .int .i64 n, .int .i64 a, .int .i64 b, .int .i64 c]] w fun e w' => e = .returned (.string ⟨(Lib.join (cwL 7 j n a b c) [32]).toArray⟩) ∧ Below w.heap.size w w' := by
  have hok := specCmdOk_c 7 j n a b c
  rw [h] at hok
  have HK : Hid (∀ w, Calls Tryd.prog 8 #[.agg #[.int .i64 7, .int .i64 j.id, .int .i64 j.pr, .int .i64 j.nd, .int .i64 j.na, .int .i64 j.nb, .int .i64 j.nc, .int .i64 j.la, .int .i64 j.lb, .int .i64 j.lc, .int .i64 j.wl, .int .i64 j.lv, .int .i64 n, .int .i64 a, .int .i64 b, .int .i64 c]] w fun e w' => e = .returned (.bool true) ∧ Below w.heap.size w w') := hok
  clear hok h
  obtain ⟨y1, hy1, A1⟩ : ∃ y, Hid (y = (⟨(kwL 7 ++ [32]).toArray⟩ : ByteArray)) ∧ ∀ W, (Op.stringOp .add ⟨#[103,111]⟩ ⟨#[32]⟩).run Tryd.prog W = .ok (.string y) W := ⟨_, hid_rfl, add_l (kwL 7) [32] (by decide) (by decide)⟩
  have hln := numL_len n
  obtain ⟨N, hN, CN⟩ : ∃ N, Hid (N = (⟨(numL n).toArray⟩ : ByteArray)) ∧ ∀ W, Calls Tryd.prog 44 #[.int .i64 n] W fun e w' => e = .returned (.string N) ∧ Below W.heap.size W w' := ⟨_, hid_rfl, fun W => specNumText_all n W⟩
  obtain ⟨y2, hy2, A2⟩ : ∃ y, Hid (y = (⟨(kwL 7 ++ [32] ++ numL n).toArray⟩ : ByteArray)) ∧ ∀ W, (Op.stringOp .add y1 N).run Tryd.prog W = .ok (.string y) W := ⟨_, hid_rfl, by rw [hy1.out, hN.out]; exact add_l _ (numL n) (by simp [kwL, kws]) (by omega)⟩
  have HE : Hid (y2 = (⟨(Lib.join (cwL 7 j n a b c) [32]).toArray⟩ : ByteArray)) := by show _ = _; rw [hy2.out]; simp [cwL, Lib.join]
  clear hy1 hN hy2 hln
  go_enter Tryd.func47, Tryd.ntmps47
  go_wp2_with (refine stay_load 28 ?_)
  refine ⟨?_⟩
  have HR : Hid (Row (w.alloc (.cells #[.int .i64 7, .int .i64 j.id, .int .i64 j.pr, .int .i64 j.nd, .int .i64 j.na, .int .i64 j.nb, .int .i64 j.nc, .int .i64 j.la, .int .i64 j.lb, .int .i64 j.lc, .int .i64 j.wl, .int .i64 j.lv, .int .i64 n, .int .i64 a, .int .i64 b, .int .i64 c] 28)) w.heap.size [.int .i64 7, .int .i64 j.id, .int .i64 j.pr, .int .i64 j.nd, .int .i64 j.na, .int .i64 j.nb, .int .i64 j.nc, .int .i64 j.la, .int .i64 j.lb, .int .i64 j.lc, .int .i64 j.wl, .int .i64 j.lv, .int .i64 n, .int .i64 a, .int .i64 b, .int .i64 c]) := row_fresh w [.int .i64 7, .int .i64 j.id, .int .i64 j.pr, .int .i64 j.nd, .int .i64 j.na, .int .i64 j.nb, .int .i64 j.nc, .int .i64 j.la, .int .i64 j.lb, .int .i64 j.lc, .int .i64 j.wl, .int .i64 j.lv, .int .i64 n, .int .i64 a, .int .i64 b, .int .i64 c] 28
  have HB : Hid (Below w.heap.size w (w.alloc (.cells #[.int .i64 7, .int .i64 j.id, .int .i64 j.pr, .int .i64 j.nd, .int .i64 j.na, .int .i64 j.nb, .int .i64 j.nc, .int .i64 j.la, .int .i64 j.lb, .int .i64 j.lc, .int .i64 j.wl, .int .i64 j.lv, .int .i64 n, .int .i64 a, .int .i64 b, .int .i64 c] 28))) := low_alloc _ _
  generalize w.alloc (.cells #[.int .i64 7, .int .i64 j.id, .int .i64 j.pr, .int .i64 j.nd, .int .i64 j.na, .int .i64 j.nb, .int .i64 j.nc, .int .i64 j.la, .int .i64 j.lb, .int .i64 j.lc, .int .i64 j.wl, .int .i64 j.lv, .int .i64 n, .int .i64 a, .int .i64 b, .int .i64 c] 28) = w0 at HR HB ⊢
  refine wpList_load_mid rfl 28 _ rfl w.heap.size 0 rfl [.int .i64 7, .int .i64 j.id, .int .i64 j.pr, .int .i64 j.nd, .int .i64 j.na, .int .i64 j.nb, .int .i64 j.nc, .int .i64 j.la, .int .i64 j.lb, .int .i64 j.lc, .int .i64 j.wl, .int .i64 j.lv, .int .i64 n, .int .i64 a, .int .i64 b, .int .i64 c] _ HR.out.all Tryd.underlying28 rfl szCmdS ?_
  go_wp2_with fail
  refine (HK.out _).mono ?_
  rintro e w1 ⟨rfl, hb⟩
  have HR1 : Hid (Row w1 w.heap.size [.int .i64 7, .int .i64 j.id, .int .i64 j.pr, .int .i64 j.nd, .int .i64 j.na, .int .i64 j.nb, .int .i64 j.nc, .int .i64 j.la, .int .i64 j.lb, .int .i64 j.lc, .int .i64 j.wl, .int .i64 j.lv, .int .i64 n, .int .i64 a, .int .i64 b, .int .i64 c]) := HR.out.below hb
  have HB1 : Hid (Below w.heap.size w w1) := below_then HB.out hb
  clear hb HR HB HK
  go_wp2_with fail
  have HD : Hid (Below w1.heap.size w1 w1.drew) := low_drew w1
  have HC0 : Hid (w1.cell? ⟨w.heap.size, 0, none⟩ = some (.int .i64 7)) := HR1.out.cell 0 _ rfl
  have hwl : w.heap.size < w1.heap.size := HR1.out.lt
  have HR1d : Hid (Row w1.drew w.heap.size [.int .i64 7, .int .i64 j.id, .int .i64 j.pr, .int .i64 j.nd, .int .i64 j.na, .int .i64 j.nb, .int .i64 j.nc, .int .i64 j.la, .int .i64 j.lb, .int .i64 j.lc, .int .i64 j.wl, .int .i64 j.lv, .int .i64 n, .int .i64 a, .int .i64 b, .int .i64 c]) := HR1.out.below HD.out
  have HB1d : Hid (Below w.heap.size w w1.drew) := below_then HB1.out HD.out
  have c1 := HR1d.out.cell 0 _ rfl
  go_region_with (first
    | (go_at_call 78; refine (l08Words_c w1.drew).mono ?_; rintro e w2 ⟨g, rfl, hg, hr, hb⟩; have g2 := hr.cell 7 _ rfl; have HB2 : Hid (Below w.heap.size w w2) := below_then HB1d.out hb; have HR2 : Hid (Row w2 w.heap.size [.int .i64 7, .int .i64 j.id, .int .i64 j.pr, .int .i64 j.nd, .int .i64 j.na, .int .i64 j.nb, .int .i64 j.nc, .int .i64 j.la, .int .i64 j.lb, .int .i64 j.lc, .int .i64 j.wl, .int .i64 j.lv, .int .i64 n, .int .i64 a, .int .i64 b, .int .i64 c]) := HR1d.out.below hb; have c2 := HR2.out.cell 0 _ rfl; clear hr hb))
  all_goals
    clear g2 c1 c2 HR1 HB1 HC0 HD HR1d HB1d hg
    go_wp2_with (refine stay_load 26 ?_)
    refine ⟨?_⟩
    refine wpList_load_mid rfl 26 _ rfl w.heap.size 1 rfl [.int .i64 j.id, .int .i64 j.pr, .int .i64 j.nd, .int .i64 j.na, .int .i64 j.nb, .int .i64 j.nc, .int .i64 j.la, .int .i64 j.lb, .int .i64 j.lc, .int .i64 j.wl, .int .i64 j.lv] _ (HR2.out.sub 1 11) Tryd.underlying26 rfl szJobS' ?_
    have HZ := row_fresh w2 [.int .i64 0, .int .i64 0, .int .i64 0, .int .i64 0, .int .i64 0, .int .i64 0, .int .i64 0, .int .i64 0, .int .i64 0, .int .i64 0, .int .i64 0] 26
    go_wp2_with (refine stay_store 26 ?_)
    refine ⟨?_⟩
    refine wpList_store_mid rfl 26 _ _ rfl w2.heap.size 0 _ rfl rfl (HZ.room 0 11 (by simp)) szJobS' (by simp [Value.oneCell']) ?_
    have HJ3 : Hid (Row ((w2.alloc (.cells #[.int .i64 0, .int .i64 0, .int .i64 0, .int .i64 0, .int .i64 0, .int .i64 0, .int .i64 0, .int .i64 0, .int .i64 0, .int .i64 0, .int .i64 0] 26)).setCells w2.heap.size 0 (#[.int .i64 j.id, .int .i64 j.pr, .int .i64 j.nd, .int .i64 j.na, .int .i64 j.nb, .int .i64 j.nc, .int .i64 j.la, .int .i64 j.lb, .int .i64 j.lc, .int .i64 j.wl, .int .i64 j.lv] : Array Value).toList) w2.heap.size [.int .i64 j.id, .int .i64 j.pr, .int .i64 j.nd, .int .i64 j.na, .int .i64 j.nb, .int .i64 j.nc, .int .i64 j.la, .int .i64 j.lb, .int .i64 j.lc, .int .i64 j.wl, .int .i64 j.lv]) := Row.setCs _ 0 HZ (by simp)
    have HB3 : Hid (Below w2.heap.size w2 ((w2.alloc (.cells #[.int .i64 0, .int .i64 0, .int .i64 0, .int .i64 0, .int .i64 0, .int .i64 0, .int .i64 0, .int .i64 0, .int .i64 0, .int .i64 0, .int .i64 0] 26)).setCells w2.heap.size 0 (#[.int .i64 j.id, .int .i64 j.pr, .int .i64 j.nd, .int .i64 j.na, .int .i64 j.nb, .int .i64 j.nc, .int .i64 j.la, .int .i64 j.lb, .int .i64 j.lc, .int .i64 j.wl, .int .i64 j.lv] : Array Value).toList)) := below_setCs (Nat.le_refl _) _ _ (low_alloc _ _)
    have HR3 : Hid (Row ((w2.alloc (.cells #[.int .i64 0, .int .i64 0, .int .i64 0, .int .i64 0, .int .i64 0, .int .i64 0, .int .i64 0, .int .i64 0, .int .i64 0, .int .i64 0, .int .i64 0] 26)).setCells w2.heap.size 0 (#[.int .i64 j.id, .int .i64 j.pr, .int .i64 j.nd, .int .i64 j.na, .int .i64 j.nb, .int .i64 j.nc, .int .i64 j.la, .int .i64 j.lb, .int .i64 j.lc, .int .i64 j.wl, .int .i64 j.lv] : Array Value).toList) w.heap.size [.int .i64 7, .int .i64 j.id, .int .i64 j.pr, .int .i64 j.nd, .int .i64 j.na, .int .i64 j.nb, .int .i64 j.nc, .int .i64 j.la, .int .i64 j.lb, .int .i64 j.lc, .int .i64 j.wl, .int .i64 j.lv, .int .i64 n, .int .i64 a, .int .i64 b, .int .i64 c]) := HR2.out.below HB3.out
    have HB4 : Hid (Below w.heap.size w ((w2.alloc (.cells #[.int .i64 0, .int .i64 0, .int .i64 0, .int .i64 0, .int .i64 0, .int .i64 0, .int .i64 0, .int .i64 0, .int .i64 0, .int .i64 0, .int .i64 0] 26)).setCells w2.heap.size 0 (#[.int .i64 j.id, .int .i64 j.pr, .int .i64 j.nd, .int .i64 j.na, .int .i64 j.nb, .int .i64 j.nc, .int .i64 j.la, .int .i64 j.lb, .int .i64 j.lc, .int .i64 j.wl, .int .i64 j.lv] : Array Value).toList)) := below_then HB2.out HB3.out
    clear HZ HB3 HR2 HB2
    generalize (w2.alloc (.cells #[.int .i64 0, .int .i64 0, .int .i64 0, .int .i64 0, .int .i64 0, .int .i64 0, .int .i64 0, .int .i64 0, .int .i64 0, .int .i64 0, .int .i64 0] 26)).setCells w2.heap.size 0 _ = w3 at HJ3 HR3 HB4 ⊢
    generalize w2.heap.size = q at HJ3 ⊢
    have c3 := HR3.out.cell 0 _ rfl
    have c12 := HR3.out.cell 12 _ rfl
    go_wp2_with fail
    clear c3 c12
    refine (CN _).mono ?_
    rintro e w4 ⟨rfl, hb⟩
    have HB5 : Hid (Below w.heap.size w w4) := below_then HB4.out hb
    clear hb HB4
    go_wp2_with fail
    go_ret
    exact ⟨by rw [HE.out]; rfl, HB5.out⟩
set_option maxHeartbeats 2000000 in
set_option maxRecDepth 100000 in
theorem specCmdText_6 (j : Jb) (n a b c : Int) (w : World) (h : cmdB 6 j n a b c = true) : Calls Tryd.prog 47 #[.agg #[.int .i64 6, .int .i64 j.id, .int .i64 j.pr, .int .i64 j.nd, .int .i64 j.na, .int .i64 j.nb, .int .i64 j.nc, .int .i64 j.la, .int .i64 j.lb, .int .i64 j.lc, .int .i64 j.wl, .int .i64 j.lv, .int .i64 n, .int .i64 a, .int .i64 b, .int .i64 c]] w fun e w' => e = .returned (.string ⟨(Lib.join (cwL 6 j n a b c) [32]).toArray⟩) ∧ Below w.heap.size w w' := by
  have hok := specCmdOk_c 6 j n a b c
  rw [h] at hok
  have HK : Hid (∀ w, Calls Tryd.prog 8 #[.agg #[.int .i64 6, .int .i64 j.id, .int .i64 j.pr, .int .i64 j.nd, .int .i64 j.na, .int .i64 j.nb, .int .i64 j.nc, .int .i64 j.la, .int .i64 j.lb, .int .i64 j.lc, .int .i64 j.wl, .int .i64 j.lv, .int .i64 n, .int .i64 a, .int .i64 b, .int .i64 c]] w fun e w' => e = .returned (.bool true) ∧ Below w.heap.size w w') := hok
  clear hok h
  obtain ⟨y1, hy1, A1⟩ : ∃ y, Hid (y = (⟨(kwL 6 ++ [32]).toArray⟩ : ByteArray)) ∧ ∀ W, (Op.stringOp .add ⟨#[108,105,99]⟩ ⟨#[32]⟩).run Tryd.prog W = .ok (.string y) W := ⟨_, hid_rfl, add_l (kwL 6) [32] (by decide) (by decide)⟩
  have hln := vt_len a b c
  obtain ⟨N, hN, CN⟩ : ∃ N, Hid (N = (⟨(vtL a b c).toArray⟩ : ByteArray)) ∧ ∀ W, Calls Tryd.prog 79 #[.agg #[.int .i64 a, .int .i64 b, .int .i64 c]] W fun e w' => e = .returned (.string N) ∧ Below W.heap.size W w' := ⟨_, hid_rfl, fun W => specVecText_all a b c W⟩
  obtain ⟨y2, hy2, A2⟩ : ∃ y, Hid (y = (⟨(kwL 6 ++ [32] ++ vtL a b c).toArray⟩ : ByteArray)) ∧ ∀ W, (Op.stringOp .add y1 N).run Tryd.prog W = .ok (.string y) W := ⟨_, hid_rfl, by rw [hy1.out, hN.out]; exact add_l _ (vtL a b c) (by simp [kwL, kws]) (by omega)⟩
  have HE : Hid (y2 = (⟨(Lib.join (cwL 6 j n a b c) [32]).toArray⟩ : ByteArray)) := by show _ = _; rw [hy2.out]; simp [cwL, Lib.join]
  clear hy1 hN hy2 hln
  go_enter Tryd.func47, Tryd.ntmps47
  go_wp2_with (refine stay_load 28 ?_)
  refine ⟨?_⟩
  have HR : Hid (Row (w.alloc (.cells #[.int .i64 6, .int .i64 j.id, .int .i64 j.pr, .int .i64 j.nd, .int .i64 j.na, .int .i64 j.nb, .int .i64 j.nc, .int .i64 j.la, .int .i64 j.lb, .int .i64 j.lc, .int .i64 j.wl, .int .i64 j.lv, .int .i64 n, .int .i64 a, .int .i64 b, .int .i64 c] 28)) w.heap.size [.int .i64 6, .int .i64 j.id, .int .i64 j.pr, .int .i64 j.nd, .int .i64 j.na, .int .i64 j.nb, .int .i64 j.nc, .int .i64 j.la, .int .i64 j.lb, .int .i64 j.lc, .int .i64 j.wl, .int .i64 j.lv, .int .i64 n, .int .i64 a, .int .i64 b, .int .i64 c]) := row_fresh w [.int .i64 6, .int .i64 j.id, .int .i64 j.pr, .int .i64 j.nd, .int .i64 j.na, .int .i64 j.nb, .int .i64 j.nc, .int .i64 j.la, .int .i64 j.lb, .int .i64 j.lc, .int .i64 j.wl, .int .i64 j.lv, .int .i64 n, .int .i64 a, .int .i64 b, .int .i64 c] 28
  have HB : Hid (Below w.heap.size w (w.alloc (.cells #[.int .i64 6, .int .i64 j.id, .int .i64 j.pr, .int .i64 j.nd, .int .i64 j.na, .int .i64 j.nb, .int .i64 j.nc, .int .i64 j.la, .int .i64 j.lb, .int .i64 j.lc, .int .i64 j.wl, .int .i64 j.lv, .int .i64 n, .int .i64 a, .int .i64 b, .int .i64 c] 28))) := low_alloc _ _
  generalize w.alloc (.cells #[.int .i64 6, .int .i64 j.id, .int .i64 j.pr, .int .i64 j.nd, .int .i64 j.na, .int .i64 j.nb, .int .i64 j.nc, .int .i64 j.la, .int .i64 j.lb, .int .i64 j.lc, .int .i64 j.wl, .int .i64 j.lv, .int .i64 n, .int .i64 a, .int .i64 b, .int .i64 c] 28) = w0 at HR HB ⊢
  refine wpList_load_mid rfl 28 _ rfl w.heap.size 0 rfl [.int .i64 6, .int .i64 j.id, .int .i64 j.pr, .int .i64 j.nd, .int .i64 j.na, .int .i64 j.nb, .int .i64 j.nc, .int .i64 j.la, .int .i64 j.lb, .int .i64 j.lc, .int .i64 j.wl, .int .i64 j.lv, .int .i64 n, .int .i64 a, .int .i64 b, .int .i64 c] _ HR.out.all Tryd.underlying28 rfl szCmdS ?_
  go_wp2_with fail
  refine (HK.out _).mono ?_
  rintro e w1 ⟨rfl, hb⟩
  have HR1 : Hid (Row w1 w.heap.size [.int .i64 6, .int .i64 j.id, .int .i64 j.pr, .int .i64 j.nd, .int .i64 j.na, .int .i64 j.nb, .int .i64 j.nc, .int .i64 j.la, .int .i64 j.lb, .int .i64 j.lc, .int .i64 j.wl, .int .i64 j.lv, .int .i64 n, .int .i64 a, .int .i64 b, .int .i64 c]) := HR.out.below hb
  have HB1 : Hid (Below w.heap.size w w1) := below_then HB.out hb
  clear hb HR HB HK
  go_wp2_with fail
  have HD : Hid (Below w1.heap.size w1 w1.drew) := low_drew w1
  have HC0 : Hid (w1.cell? ⟨w.heap.size, 0, none⟩ = some (.int .i64 6)) := HR1.out.cell 0 _ rfl
  have hwl : w.heap.size < w1.heap.size := HR1.out.lt
  have HR1d : Hid (Row w1.drew w.heap.size [.int .i64 6, .int .i64 j.id, .int .i64 j.pr, .int .i64 j.nd, .int .i64 j.na, .int .i64 j.nb, .int .i64 j.nc, .int .i64 j.la, .int .i64 j.lb, .int .i64 j.lc, .int .i64 j.wl, .int .i64 j.lv, .int .i64 n, .int .i64 a, .int .i64 b, .int .i64 c]) := HR1.out.below HD.out
  have HB1d : Hid (Below w.heap.size w w1.drew) := below_then HB1.out HD.out
  have c1 := HR1d.out.cell 0 _ rfl
  go_region_with (first
    | (go_at_call 78; refine (l08Words_c w1.drew).mono ?_; rintro e w2 ⟨g, rfl, hg, hr, hb⟩; have g2 := hr.cell 6 _ rfl; have HB2 : Hid (Below w.heap.size w w2) := below_then HB1d.out hb; have HR2 : Hid (Row w2 w.heap.size [.int .i64 6, .int .i64 j.id, .int .i64 j.pr, .int .i64 j.nd, .int .i64 j.na, .int .i64 j.nb, .int .i64 j.nc, .int .i64 j.la, .int .i64 j.lb, .int .i64 j.lc, .int .i64 j.wl, .int .i64 j.lv, .int .i64 n, .int .i64 a, .int .i64 b, .int .i64 c]) := HR1d.out.below hb; have c2 := HR2.out.cell 0 _ rfl; clear hr hb))
  all_goals
    clear g2 c1 c2 HR1 HB1 HC0 HD HR1d HB1d hg
    go_wp2_with (refine stay_load 26 ?_)
    refine ⟨?_⟩
    refine wpList_load_mid rfl 26 _ rfl w.heap.size 1 rfl [.int .i64 j.id, .int .i64 j.pr, .int .i64 j.nd, .int .i64 j.na, .int .i64 j.nb, .int .i64 j.nc, .int .i64 j.la, .int .i64 j.lb, .int .i64 j.lc, .int .i64 j.wl, .int .i64 j.lv] _ (HR2.out.sub 1 11) Tryd.underlying26 rfl szJobS' ?_
    have HZ := row_fresh w2 [.int .i64 0, .int .i64 0, .int .i64 0, .int .i64 0, .int .i64 0, .int .i64 0, .int .i64 0, .int .i64 0, .int .i64 0, .int .i64 0, .int .i64 0] 26
    go_wp2_with (refine stay_store 26 ?_)
    refine ⟨?_⟩
    refine wpList_store_mid rfl 26 _ _ rfl w2.heap.size 0 _ rfl rfl (HZ.room 0 11 (by simp)) szJobS' (by simp [Value.oneCell']) ?_
    have HJ3 : Hid (Row ((w2.alloc (.cells #[.int .i64 0, .int .i64 0, .int .i64 0, .int .i64 0, .int .i64 0, .int .i64 0, .int .i64 0, .int .i64 0, .int .i64 0, .int .i64 0, .int .i64 0] 26)).setCells w2.heap.size 0 (#[.int .i64 j.id, .int .i64 j.pr, .int .i64 j.nd, .int .i64 j.na, .int .i64 j.nb, .int .i64 j.nc, .int .i64 j.la, .int .i64 j.lb, .int .i64 j.lc, .int .i64 j.wl, .int .i64 j.lv] : Array Value).toList) w2.heap.size [.int .i64 j.id, .int .i64 j.pr, .int .i64 j.nd, .int .i64 j.na, .int .i64 j.nb, .int .i64 j.nc, .int .i64 j.la, .int .i64 j.lb, .int .i64 j.lc, .int .i64 j.wl, .int .i64 j.lv]) := Row.setCs _ 0 HZ (by simp)
    have HB3 : Hid (Below w2.heap.size w2 ((w2.alloc (.cells #[.int .i64 0, .int .i64 0, .int .i64 0, .int .i64 0, .int .i64 0, .int .i64 0, .int .i64 0, .int .i64 0, .int .i64 0, .int .i64 0, .int .i64 0] 26)).setCells w2.heap.size 0 (#[.int .i64 j.id, .int .i64 j.pr, .int .i64 j.nd, .int .i64 j.na, .int .i64 j.nb, .int .i64 j.nc, .int .i64 j.la, .int .i64 j.lb, .int .i64 j.lc, .int .i64 j.wl, .int .i64 j.lv] : Array Value).toList)) := below_setCs (Nat.le_refl _) _ _ (low_alloc _ _)
    have HR3 : Hid (Row ((w2.alloc (.cells #[.int .i64 0, .int .i64 0, .int .i64 0, .int .i64 0, .int .i64 0, .int .i64 0, .int .i64 0, .int .i64 0, .int .i64 0, .int .i64 0, .int .i64 0] 26)).setCells w2.heap.size 0 (#[.int .i64 j.id, .int .i64 j.pr, .int .i64 j.nd, .int .i64 j.na, .int .i64 j.nb, .int .i64 j.nc, .int .i64 j.la, .int .i64 j.lb, .int .i64 j.lc, .int .i64 j.wl, .int .i64 j.lv] : Array Value).toList) w.heap.size [.int .i64 6, .int .i64 j.id, .int .i64 j.pr, .int .i64 j.nd, .int .i64 j.na, .int .i64 j.nb, .int .i64 j.nc, .int .i64 j.la, .int .i64 j.lb, .int .i64 j.lc, .int .i64 j.wl, .int .i64 j.lv, .int .i64 n, .int .i64 a, .int .i64 b, .int .i64 c]) := HR2.out.below HB3.out
    have HB4 : Hid (Below w.heap.size w ((w2.alloc (.cells #[.int .i64 0, .int .i64 0, .int .i64 0, .int .i64 0, .int .i64 0, .int .i64 0, .int .i64 0, .int .i64 0, .int .i64 0, .int .i64 0, .int .i64 0] 26)).setCells w2.heap.size 0 (#[.int .i64 j.id, .int .i64 j.pr, .int .i64 j.nd, .int .i64 j.na, .int .i64 j.nb, .int .i64 j.nc, .int .i64 j.la, .int .i64 j.lb, .int .i64 j.lc, .int .i64 j.wl, .int .i64 j.lv] : Array Value).toList)) := below_then HB2.out HB3.out
    clear HZ HB3 HR2 HB2
    generalize (w2.alloc (.cells #[.int .i64 0, .int .i64 0, .int .i64 0, .int .i64 0, .int .i64 0, .int .i64 0, .int .i64 0, .int .i64 0, .int .i64 0, .int .i64 0, .int .i64 0] 26)).setCells w2.heap.size 0 _ = w3 at HJ3 HR3 HB4 ⊢
    generalize w2.heap.size = q at HJ3 ⊢
    have c3 := HR3.out.cell 0 _ rfl
    have c13 := HR3.out.cell 13 _ rfl
    have c14 := HR3.out.cell 14 _ rfl
    have c15 := HR3.out.cell 15 _ rfl
    go_wp2_with fail
    clear c3 c13 c14 c15
    refine (CN _).mono ?_
    rintro e w4 ⟨rfl, hb⟩
    have HB5 : Hid (Below w.heap.size w w4) := below_then HB4.out hb
    clear hb HB4
    go_wp2_with fail
    go_ret
    exact ⟨by rw [HE.out]; rfl, HB5.out⟩
end Go.Proofs.YtejleghdgdbbnaaDoor
