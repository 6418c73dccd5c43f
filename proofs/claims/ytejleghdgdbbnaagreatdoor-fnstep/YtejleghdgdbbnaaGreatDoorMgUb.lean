/- The text of a command: the specification's, of a submit. -/
import Derived.Test.YtejleghdgdbbnaaGreatDoorCmS
import Derived.Test.YtejleghdgdbbnaaGreatDoorCmC
import Derived.Test.YtejleghdgdbbnaaGreatDoorTxtA
import Derived.Test.YtejleghdgdbbnaaGreatDoorBehA
namespace Go.Proofs.YtejleghdgdbbnaaGreatDoor
open Go.ChangeShapes Go.WideShapes Go.ChangeAt Go.RowKit

/-- The words of the kinds. -/
def kws : List (List UInt8) := [[], [115, 117, 98, 109, 105, 116], [99, 97, 110, 99, 101, 108], [100, 111, 110, 101], [102, 97, 105, 108], [114, 101, 115, 117, 109, 101], [108, 105, 99], [103, 111]]
def kwV : List Value := [.string ⟨#[]⟩, .string ⟨#[115, 117, 98, 109, 105, 116]⟩, .string ⟨#[99, 97, 110, 99, 101, 108]⟩, .string ⟨#[100, 111, 110, 101]⟩, .string ⟨#[102, 97, 105, 108]⟩, .string ⟨#[114, 101, 115, 117, 109, 101]⟩, .string ⟨#[108, 105, 99]⟩, .string ⟨#[103, 111]⟩]
def kwL (s : Int) : List UInt8 := kws.getD s.toNat []
/-- The words of a job. -/
def jwL (j : Jb) : List (List UInt8) := [numL j.id, numL j.pr, numL j.nd, vtL j.na j.nb j.nc, vtL j.la j.lb j.lc, numL j.wl, numL j.lv]
/-- The words of a command. -/
def cwL (s : Int) (j : Jb) (n a b c : Int) : List (List UInt8) := if s = 1 then kwL s :: jwL j else if s = 6 then [kwL s, vtL a b c] else [kwL s, numL n]
/-- The text of a command. -/
def ctL (s : Int) (j : Jb) (n a b c : Int) : List UInt8 := bif cmdB s j n a b c then Lib.join (cwL s j n a b c) [32] else []

set_option maxHeartbeats 1000000 in
theorem l08Words_c (w : World) : Calls Tryz.prog 34 #[] w fun e w' => ∃ g, e = .returned (.slice (some ⟨g, 0, none⟩) 8 8) ∧ w.heap.size ≤ g ∧ Row w' g kwV ∧ Below w.heap.size w w' := by
  go_enter Tryz.func34, Tryz.ntmps34
  go_wp2_with fail
  go_ret
  exact ⟨w.heap.size, rfl, Nat.le_refl _, row_fresh w kwV 9, low_alloc _ _⟩

end Go.Proofs.YtejleghdgdbbnaaGreatDoor

namespace Go.Proofs.YtejleghdgdbbnaaGreatDoor
open Go.ChangeShapes Go.WideShapes Go.ChangeAt Go.RowKit

theorem hid_rfl {α : Type} {a : α} : Hid (a = a) := rfl
theorem held1 {V w' : World} {B k : Nat} {x : Value} {xs : List Value} (hr : Row V B xs) (hx : xs[k]? = some x) (h : Below V.heap.size V w') : Below V.heap.size V w' ∧ w'.cell? ⟨B, k, none⟩ = some x := ⟨h, (hr.below h).cell k _ hx⟩
theorem szCmdS : (Tryz.prog.info? 28).map (·.size) = some 16 := by kernel_rfl
theorem szJobS' : (Tryz.prog.info? 26).map (·.size) = some 11 := by kernel_rfl
set_option maxHeartbeats 2000000 in
set_option maxRecDepth 100000 in
theorem specCmdText_2 (j : Jb) (n a b c : Int) (w : World) (h : cmdB 2 j n a b c = true) : Calls Tryz.prog 16 #[.agg #[.int .i64 2, .int .i64 j.id, .int .i64 j.pr, .int .i64 j.nd, .int .i64 j.na, .int .i64 j.nb, .int .i64 j.nc, .int .i64 j.la, .int .i64 j.lb, .int .i64 j.lc, .int .i64 j.wl, .int .i64 j.lv, .int .i64 n, .int .i64 a, .int .i64 b, .int .i64 c]] w fun e w' => e = .returned (.string ⟨(Lib.join (cwL 2 j n a b c) [32]).toArray⟩) ∧ Below w.heap.size w w' := by
  have hok := specCmdOk_c 2 j n a b c
  rw [h] at hok
  have HK : Hid (∀ w, Calls Tryz.prog 33 #[.agg #[.int .i64 2, .int .i64 j.id, .int .i64 j.pr, .int .i64 j.nd, .int .i64 j.na, .int .i64 j.nb, .int .i64 j.nc, .int .i64 j.la, .int .i64 j.lb, .int .i64 j.lc, .int .i64 j.wl, .int .i64 j.lv, .int .i64 n, .int .i64 a, .int .i64 b, .int .i64 c]] w fun e w' => e = .returned (.bool true) ∧ Below w.heap.size w w') := hok
  clear hok h
  obtain ⟨y1, hy1, A1⟩ : ∃ y, Hid (y = (⟨(kwL 2 ++ [32]).toArray⟩ : ByteArray)) ∧ ∀ W, (Op.stringOp .add ⟨#[99,97,110,99,101,108]⟩ ⟨#[32]⟩).run Tryz.prog W = .ok (.string y) W := ⟨_, hid_rfl, add_l (kwL 2) [32] (by decide) (by decide)⟩
  have hln := numL_len n
  obtain ⟨N, hN, CN⟩ : ∃ N, Hid (N = (⟨(numL n).toArray⟩ : ByteArray)) ∧ ∀ W, Calls Tryz.prog 18 #[.int .i64 n] W fun e w' => e = .returned (.string N) ∧ Below W.heap.size W w' := ⟨_, hid_rfl, fun W => specNumText_all n W⟩
  obtain ⟨y2, hy2, A2⟩ : ∃ y, Hid (y = (⟨(kwL 2 ++ [32] ++ numL n).toArray⟩ : ByteArray)) ∧ ∀ W, (Op.stringOp .add y1 N).run Tryz.prog W = .ok (.string y) W := ⟨_, hid_rfl, by rw [hy1.out, hN.out]; exact add_l _ (numL n) (by simp [kwL, kws]) (by omega)⟩
  have HE : Hid (y2 = (⟨(Lib.join (cwL 2 j n a b c) [32]).toArray⟩ : ByteArray)) := by show _ = _; rw [hy2.out]; simp [cwL, Lib.join]
  clear hy1 hN hy2 hln
  go_enter Tryz.func16, Tryz.ntmps16
  go_wp2_with (refine stay_load 28 ?_)
  refine ⟨?_⟩
  have HR : Hid (Row (w.alloc (.cells #[.int .i64 2, .int .i64 j.id, .int .i64 j.pr, .int .i64 j.nd, .int .i64 j.na, .int .i64 j.nb, .int .i64 j.nc, .int .i64 j.la, .int .i64 j.lb, .int .i64 j.lc, .int .i64 j.wl, .int .i64 j.lv, .int .i64 n, .int .i64 a, .int .i64 b, .int .i64 c] 28)) w.heap.size [.int .i64 2, .int .i64 j.id, .int .i64 j.pr, .int .i64 j.nd, .int .i64 j.na, .int .i64 j.nb, .int .i64 j.nc, .int .i64 j.la, .int .i64 j.lb, .int .i64 j.lc, .int .i64 j.wl, .int .i64 j.lv, .int .i64 n, .int .i64 a, .int .i64 b, .int .i64 c]) := row_fresh w [.int .i64 2, .int .i64 j.id, .int .i64 j.pr, .int .i64 j.nd, .int .i64 j.na, .int .i64 j.nb, .int .i64 j.nc, .int .i64 j.la, .int .i64 j.lb, .int .i64 j.lc, .int .i64 j.wl, .int .i64 j.lv, .int .i64 n, .int .i64 a, .int .i64 b, .int .i64 c] 28
  have HB : Hid (Below w.heap.size w (w.alloc (.cells #[.int .i64 2, .int .i64 j.id, .int .i64 j.pr, .int .i64 j.nd, .int .i64 j.na, .int .i64 j.nb, .int .i64 j.nc, .int .i64 j.la, .int .i64 j.lb, .int .i64 j.lc, .int .i64 j.wl, .int .i64 j.lv, .int .i64 n, .int .i64 a, .int .i64 b, .int .i64 c] 28))) := low_alloc _ _
  generalize w.alloc (.cells #[.int .i64 2, .int .i64 j.id, .int .i64 j.pr, .int .i64 j.nd, .int .i64 j.na, .int .i64 j.nb, .int .i64 j.nc, .int .i64 j.la, .int .i64 j.lb, .int .i64 j.lc, .int .i64 j.wl, .int .i64 j.lv, .int .i64 n, .int .i64 a, .int .i64 b, .int .i64 c] 28) = w0 at HR HB ⊢
  refine wpList_load_mid rfl 28 _ rfl w.heap.size 0 rfl [.int .i64 2, .int .i64 j.id, .int .i64 j.pr, .int .i64 j.nd, .int .i64 j.na, .int .i64 j.nb, .int .i64 j.nc, .int .i64 j.la, .int .i64 j.lb, .int .i64 j.lc, .int .i64 j.wl, .int .i64 j.lv, .int .i64 n, .int .i64 a, .int .i64 b, .int .i64 c] _ HR.out.all Tryz.underlying28 rfl szCmdS ?_
  go_wp2_with fail
  refine (HK.out _).mono ?_
  rintro e w1 ⟨rfl, hb⟩
  have HR1 : Hid (Row w1 w.heap.size [.int .i64 2, .int .i64 j.id, .int .i64 j.pr, .int .i64 j.nd, .int .i64 j.na, .int .i64 j.nb, .int .i64 j.nc, .int .i64 j.la, .int .i64 j.lb, .int .i64 j.lc, .int .i64 j.wl, .int .i64 j.lv, .int .i64 n, .int .i64 a, .int .i64 b, .int .i64 c]) := HR.out.below hb
  have HB1 : Hid (Below w.heap.size w w1) := below_then HB.out hb
  clear hb HR HB HK
  go_wp2_with fail
  have HD : Hid (Below w1.heap.size w1 w1.drew) := low_drew w1
  have HC0 : Hid (w1.cell? ⟨w.heap.size, 0, none⟩ = some (.int .i64 2)) := HR1.out.cell 0 _ rfl
  have hwl : w.heap.size < w1.heap.size := HR1.out.lt
  have HR1d : Hid (Row w1.drew w.heap.size [.int .i64 2, .int .i64 j.id, .int .i64 j.pr, .int .i64 j.nd, .int .i64 j.na, .int .i64 j.nb, .int .i64 j.nc, .int .i64 j.la, .int .i64 j.lb, .int .i64 j.lc, .int .i64 j.wl, .int .i64 j.lv, .int .i64 n, .int .i64 a, .int .i64 b, .int .i64 c]) := HR1.out.below HD.out
  have HB1d : Hid (Below w.heap.size w w1.drew) := below_then HB1.out HD.out
  have c1 := HR1d.out.cell 0 _ rfl
  go_region_with (first
    | (go_at_call 34; refine (l08Words_c w1.drew).mono ?_; rintro e w2 ⟨g, rfl, hg, hr, hb⟩; have g2 := hr.cell 2 _ rfl; have HB2 : Hid (Below w.heap.size w w2) := below_then HB1d.out hb; have HR2 : Hid (Row w2 w.heap.size [.int .i64 2, .int .i64 j.id, .int .i64 j.pr, .int .i64 j.nd, .int .i64 j.na, .int .i64 j.nb, .int .i64 j.nc, .int .i64 j.la, .int .i64 j.lb, .int .i64 j.lc, .int .i64 j.wl, .int .i64 j.lv, .int .i64 n, .int .i64 a, .int .i64 b, .int .i64 c]) := HR1d.out.below hb; have c2 := HR2.out.cell 0 _ rfl; clear hr hb))
  all_goals
    clear g2 c1 c2 HR1 HB1 HC0 HD HR1d HB1d hg
    go_wp2_with (refine stay_load 26 ?_)
    refine ⟨?_⟩
    refine wpList_load_mid rfl 26 _ rfl w.heap.size 1 rfl [.int .i64 j.id, .int .i64 j.pr, .int .i64 j.nd, .int .i64 j.na, .int .i64 j.nb, .int .i64 j.nc, .int .i64 j.la, .int .i64 j.lb, .int .i64 j.lc, .int .i64 j.wl, .int .i64 j.lv] _ (HR2.out.sub 1 11) Tryz.underlying26 rfl szJobS' ?_
    have HZ := row_fresh w2 [.int .i64 0, .int .i64 0, .int .i64 0, .int .i64 0, .int .i64 0, .int .i64 0, .int .i64 0, .int .i64 0, .int .i64 0, .int .i64 0, .int .i64 0] 26
    go_wp2_with (refine stay_store 26 ?_)
    refine ⟨?_⟩
    refine wpList_store_mid rfl 26 _ _ rfl w2.heap.size 0 _ rfl rfl (HZ.room 0 11 (by simp)) szJobS' (by simp [Value.oneCell']) ?_
    have HJ3 : Hid (Row ((w2.alloc (.cells #[.int .i64 0, .int .i64 0, .int .i64 0, .int .i64 0, .int .i64 0, .int .i64 0, .int .i64 0, .int .i64 0, .int .i64 0, .int .i64 0, .int .i64 0] 26)).setCells w2.heap.size 0 (#[.int .i64 j.id, .int .i64 j.pr, .int .i64 j.nd, .int .i64 j.na, .int .i64 j.nb, .int .i64 j.nc, .int .i64 j.la, .int .i64 j.lb, .int .i64 j.lc, .int .i64 j.wl, .int .i64 j.lv] : Array Value).toList) w2.heap.size [.int .i64 j.id, .int .i64 j.pr, .int .i64 j.nd, .int .i64 j.na, .int .i64 j.nb, .int .i64 j.nc, .int .i64 j.la, .int .i64 j.lb, .int .i64 j.lc, .int .i64 j.wl, .int .i64 j.lv]) := Row.setCs _ 0 HZ (by simp)
    have HB3 : Hid (Below w2.heap.size w2 ((w2.alloc (.cells #[.int .i64 0, .int .i64 0, .int .i64 0, .int .i64 0, .int .i64 0, .int .i64 0, .int .i64 0, .int .i64 0, .int .i64 0, .int .i64 0, .int .i64 0] 26)).setCells w2.heap.size 0 (#[.int .i64 j.id, .int .i64 j.pr, .int .i64 j.nd, .int .i64 j.na, .int .i64 j.nb, .int .i64 j.nc, .int .i64 j.la, .int .i64 j.lb, .int .i64 j.lc, .int .i64 j.wl, .int .i64 j.lv] : Array Value).toList)) := below_setCs (Nat.le_refl _) _ _ (low_alloc _ _)
    have HR3 : Hid (Row ((w2.alloc (.cells #[.int .i64 0, .int .i64 0, .int .i64 0, .int .i64 0, .int .i64 0, .int .i64 0, .int .i64 0, .int .i64 0, .int .i64 0, .int .i64 0, .int .i64 0] 26)).setCells w2.heap.size 0 (#[.int .i64 j.id, .int .i64 j.pr, .int .i64 j.nd, .int .i64 j.na, .int .i64 j.nb, .int .i64 j.nc, .int .i64 j.la, .int .i64 j.lb, .int .i64 j.lc, .int .i64 j.wl, .int .i64 j.lv] : Array Value).toList) w.heap.size [.int .i64 2, .int .i64 j.id, .int .i64 j.pr, .int .i64 j.nd, .int .i64 j.na, .int .i64 j.nb, .int .i64 j.nc, .int .i64 j.la, .int .i64 j.lb, .int .i64 j.lc, .int .i64 j.wl, .int .i64 j.lv, .int .i64 n, .int .i64 a, .int .i64 b, .int .i64 c]) := HR2.out.below HB3.out
    have HB4 : Hid (Below w.heap.size w ((w2.alloc (.cells #[.int .i64 0, .int .i64 0, .int .i64 0, .int .i64 0, .int .i64 0, .int .i64 0, .int .i64 0, .int .i64 0, .int .i64 0, .int .i64 0, .int .i64 0] 26)).setCells w2.heap.size 0 (#[.int .i64 j.id, .int .i64 j.pr, .int .i64 j.nd, .int .i64 j.na, .int .i64 j.nb, .int .i64 j.nc, .int .i64 j.la, .int .i64 j.lb, .int .i64 j.lc, .int .i64 j.wl, .int .i64 j.lv] : Array Value).toList)) := below_then HB2.out HB3.out
    clear HZ HB3 HR2 HB2
    generalize (w2.alloc (.cells #[.int .i64 0, .int .i64 0, .int .i64 0, .int .i64 0, .int .i64 0, .int .i64 0, .int .i64 0, .int .i64 0, .int .i64 0, .int .i64 0, .int .i64 0] 26)).setCells w2.heap.size 0 _ = w3 at HJ3 HR3 HB4 ⊢
    generalize w2.heap.size = q at HJ3 ⊢
    have c3 := HR3.out.cell 0 _ rfl
    have c12 := HR3.out.cell 12 _ rfl
    go_wp2_with fail
    clear c3 c12
    refine (CN _).mono ?_
    rintro e w4 ⟨rfl, hb⟩
    have HB5 : Hid (Below w.heap.size w w4) := below_then HB4.out hb
    clear hb HB4
    go_wp2_with fail
    go_ret
    exact ⟨by rw [HE.out]; rfl, HB5.out⟩
set_option maxHeartbeats 2000000 in
set_option maxRecDepth 100000 in
theorem specCmdText_3 (j : Jb) (n a b c : Int) (w : World) (h : cmdB 3 j n a b c = true) : Calls Tryz.prog 16 #[.agg #[.int .i64 3, .int .i64 j.id, .int .i64 j.pr, .int .i64 j.nd, .int .i64 j.na, .int .i64 j.nb, .int .i64 j.nc, .int .i64 j.la, .int .i64 j.lb, .int .i64 j.lc, .int .i64 j.wl, .int .i64 j.lv, .int .i64 n, .int .i64 a, .int .i64 b, .int .i64 c]] w fun e w' => e = .returned (.string ⟨(Lib.join (cwL 3 j n a b c) [32]).toArray⟩) ∧ Below w.heap.size w w' := by
  have hok := specCmdOk_c 3 j n a b c
  rw [h] at hok
  have HK : Hid (∀ w, Calls Tryz.prog 33 #[.agg #[.int .i64 3, .int .i64 j.id, .int .i64 j.pr, .int .i64 j.nd, .int .i64 j.na, .int .i64 j.nb, .int .i64 j.nc, .int .i64 j.la, .int .i64 j.lb, .int .i64 j.lc, .int .i64 j.wl, .int .i64 j.lv, .int .i64 n, .int .i64 a, .int .i64 b, .int .i64 c]] w fun e w' => e = .returned (.bool true) ∧ Below w.heap.size w w') := hok
  clear hok h
  obtain ⟨y1, hy1, A1⟩ : ∃ y, Hid (y = (⟨(kwL 3 ++ [32]).toArray⟩ : ByteArray)) ∧ ∀ W, (Op.stringOp .add ⟨#[100,111,110,101]⟩ ⟨#[32]⟩).run Tryz.prog W = .ok (.string y) W := ⟨_, hid_rfl, add_l (kwL 3) [32] (by decide) (by decide)⟩
  have hln := numL_len n
  obtain ⟨N, hN, CN⟩ : ∃ N, Hid (N = (⟨(numL n).toArray⟩ : ByteArray)) ∧ ∀ W, Calls Tryz.prog 18 #[.int .i64 n] W fun e w' => e = .returned (.string N) ∧ Below W.heap.size W w' := ⟨_, hid_rfl, fun W => specNumText_all n W⟩
  obtain ⟨y2, hy2, A2⟩ : ∃ y, Hid (y = (⟨(kwL 3 ++ [32] ++ numL n).toArray⟩ : ByteArray)) ∧ ∀ W, (Op.stringOp .add y1 N).run Tryz.prog W = .ok (.string y) W := ⟨_, hid_rfl, by rw [hy1.out, hN.out]; exact add_l _ (numL n) (by simp [kwL, kws]) (by omega)⟩
  have HE : Hid (y2 = (⟨(Lib.join (cwL 3 j n a b c) [32]).toArray⟩ : ByteArray)) := by show _ = _; rw [hy2.out]; simp [cwL, Lib.join]
  clear hy1 hN hy2 hln
  go_enter Tryz.func16, Tryz.ntmps16
  go_wp2_with (refine stay_load 28 ?_)
  refine ⟨?_⟩
  have HR : Hid (Row (w.alloc (.cells #[.int .i64 3, .int .i64 j.id, .int .i64 j.pr, .int .i64 j.nd, .int .i64 j.na, .int .i64 j.nb, .int .i64 j.nc, .int .i64 j.la, .int .i64 j.lb, .int .i64 j.lc, .int .i64 j.wl, .int .i64 j.lv, .int .i64 n, .int .i64 a, .int .i64 b, .int .i64 c] 28)) w.heap.size [.int .i64 3, .int .i64 j.id, .int .i64 j.pr, .int .i64 j.nd, .int .i64 j.na, .int .i64 j.nb, .int .i64 j.nc, .int .i64 j.la, .int .i64 j.lb, .int .i64 j.lc, .int .i64 j.wl, .int .i64 j.lv, .int .i64 n, .int .i64 a, .int .i64 b, .int .i64 c]) := row_fresh w [.int .i64 3, .int .i64 j.id, .int .i64 j.pr, .int .i64 j.nd, .int .i64 j.na, .int .i64 j.nb, .int .i64 j.nc, .int .i64 j.la, .int .i64 j.lb, .int .i64 j.lc, .int .i64 j.wl, .int .i64 j.lv, .int .i64 n, .int .i64 a, .int .i64 b, .int .i64 c] 28
  have HB : Hid (Below w.heap.size w (w.alloc (.cells #[.int .i64 3, .int .i64 j.id, .int .i64 j.pr, .int .i64 j.nd, .int .i64 j.na, .int .i64 j.nb, .int .i64 j.nc, .int .i64 j.la, .int .i64 j.lb, .int .i64 j.lc, .int .i64 j.wl, .int .i64 j.lv, .int .i64 n, .int .i64 a, .int .i64 b, .int .i64 c] 28))) := low_alloc _ _
  generalize w.alloc (.cells #[.int .i64 3, .int .i64 j.id, .int .i64 j.pr, .int .i64 j.nd, .int .i64 j.na, .int .i64 j.nb, .int .i64 j.nc, .int .i64 j.la, .int .i64 j.lb, .int .i64 j.lc, .int .i64 j.wl, .int .i64 j.lv, .int .i64 n, .int .i64 a, .int .i64 b, .int .i64 c] 28) = w0 at HR HB ⊢
  refine wpList_load_mid rfl 28 _ rfl w.heap.size 0 rfl [.int .i64 3, .int .i64 j.id, .int .i64 j.pr, .int .i64 j.nd, .int .i64 j.na, .int .i64 j.nb, .int .i64 j.nc, .int .i64 j.la, .int .i64 j.lb, .int .i64 j.lc, .int .i64 j.wl, .int .i64 j.lv, .int .i64 n, .int .i64 a, .int .i64 b, .int .i64 c] _ HR.out.all Tryz.underlying28 rfl szCmdS ?_
  go_wp2_with fail
  refine (HK.out _).mono ?_
  rintro e w1 ⟨rfl, hb⟩
  have HR1 : Hid (Row w1 w.heap.size [.int .i64 3, .int .i64 j.id, .int .i64 j.pr, .int .i64 j.nd, .int .i64 j.na, .int .i64 j.nb, .int .i64 j.nc, .int .i64 j.la, .int .i64 j.lb, .int .i64 j.lc, .int .i64 j.wl, .int .i64 j.lv, .int .i64 n, .int .i64 a, .int .i64 b, .int .i64 c]) := HR.out.below hb
  have HB1 : Hid (Below w.heap.size w w1) := below_then HB.out hb
  clear hb HR HB HK
  go_wp2_with fail
  have HD : Hid (Below w1.heap.size w1 w1.drew) := low_drew w1
  have HC0 : Hid (w1.cell? ⟨w.heap.size, 0, none⟩ = some (.int .i64 3)) := HR1.out.cell 0 _ rfl
  have hwl : w.heap.size < w1.heap.size := HR1.out.lt
  have HR1d : Hid (Row w1.drew w.heap.size [.int .i64 3, .int .i64 j.id, .int .i64 j.pr, .int .i64 j.nd, .int .i64 j.na, .int .i64 j.nb, .int .i64 j.nc, .int .i64 j.la, .int .i64 j.lb, .int .i64 j.lc, .int .i64 j.wl, .int .i64 j.lv, .int .i64 n, .int .i64 a, .int .i64 b, .int .i64 c]) := HR1.out.below HD.out
  have HB1d : Hid (Below w.heap.size w w1.drew) := below_then HB1.out HD.out
  have c1 := HR1d.out.cell 0 _ rfl
  go_region_with (first
    | (go_at_call 34; refine (l08Words_c w1.drew).mono ?_; rintro e w2 ⟨g, rfl, hg, hr, hb⟩; have g2 := hr.cell 3 _ rfl; have HB2 : Hid (Below w.heap.size w w2) := below_then HB1d.out hb; have HR2 : Hid (Row w2 w.heap.size [.int .i64 3, .int .i64 j.id, .int .i64 j.pr, .int .i64 j.nd, .int .i64 j.na, .int .i64 j.nb, .int .i64 j.nc, .int .i64 j.la, .int .i64 j.lb, .int .i64 j.lc, .int .i64 j.wl, .int .i64 j.lv, .int .i64 n, .int .i64 a, .int .i64 b, .int .i64 c]) := HR1d.out.below hb; have c2 := HR2.out.cell 0 _ rfl; clear hr hb))
  all_goals
    clear g2 c1 c2 HR1 HB1 HC0 HD HR1d HB1d hg
    go_wp2_with (refine stay_load 26 ?_)
    refine ⟨?_⟩
    refine wpList_load_mid rfl 26 _ rfl w.heap.size 1 rfl [.int .i64 j.id, .int .i64 j.pr, .int .i64 j.nd, .int .i64 j.na, .int .i64 j.nb, .int .i64 j.nc, .int .i64 j.la, .int .i64 j.lb, .int .i64 j.lc, .int .i64 j.wl, .int .i64 j.lv] _ (HR2.out.sub 1 11) Tryz.underlying26 rfl szJobS' ?_
    have HZ := row_fresh w2 [.int .i64 0, .int .i64 0, .int .i64 0, .int .i64 0, .int .i64 0, .int .i64 0, .int .i64 0, .int .i64 0, .int .i64 0, .int .i64 0, .int .i64 0] 26
    go_wp2_with (refine stay_store 26 ?_)
    refine ⟨?_⟩
    refine wpList_store_mid rfl 26 _ _ rfl w2.heap.size 0 _ rfl rfl (HZ.room 0 11 (by simp)) szJobS' (by simp [Value.oneCell']) ?_
    have HJ3 : Hid (Row ((w2.alloc (.cells #[.int .i64 0, .int .i64 0, .int .i64 0, .int .i64 0, .int .i64 0, .int .i64 0, .int .i64 0, .int .i64 0, .int .i64 0, .int .i64 0, .int .i64 0] 26)).setCells w2.heap.size 0 (#[.int .i64 j.id, .int .i64 j.pr, .int .i64 j.nd, .int .i64 j.na, .int .i64 j.nb, .int .i64 j.nc, .int .i64 j.la, .int .i64 j.lb, .int .i64 j.lc, .int .i64 j.wl, .int .i64 j.lv] : Array Value).toList) w2.heap.size [.int .i64 j.id, .int .i64 j.pr, .int .i64 j.nd, .int .i64 j.na, .int .i64 j.nb, .int .i64 j.nc, .int .i64 j.la, .int .i64 j.lb, .int .i64 j.lc, .int .i64 j.wl, .int .i64 j.lv]) := Row.setCs _ 0 HZ (by simp)
    have HB3 : Hid (Below w2.heap.size w2 ((w2.alloc (.cells #[.int .i64 0, .int .i64 0, .int .i64 0, .int .i64 0, .int .i64 0, .int .i64 0, .int .i64 0, .int .i64 0, .int .i64 0, .int .i64 0, .int .i64 0] 26)).setCells w2.heap.size 0 (#[.int .i64 j.id, .int .i64 j.pr, .int .i64 j.nd, .int .i64 j.na, .int .i64 j.nb, .int .i64 j.nc, .int .i64 j.la, .int .i64 j.lb, .int .i64 j.lc, .int .i64 j.wl, .int .i64 j.lv] : Array Value).toList)) := below_setCs (Nat.le_refl _) _ _ (low_alloc _ _)
    have HR3 : Hid (Row ((w2.alloc (.cells #[.int .i64 0, .int .i64 0, .int .i64 0, .int .i64 0, .int .i64 0, .int .i64 0, .int .i64 0, .int .i64 0, .int .i64 0, .int .i64 0, .int .i64 0] 26)).setCells w2.heap.size 0 (#[.int .i64 j.id, .int .i64 j.pr, .int .i64 j.nd, .int .i64 j.na, .int .i64 j.nb, .int .i64 j.nc, .int .i64 j.la, .int .i64 j.lb, .int .i64 j.lc, .int .i64 j.wl, .int .i64 j.lv] : Array Value).toList) w.heap.size [.int .i64 3, .int .i64 j.id, .int .i64 j.pr, .int .i64 j.nd, .int .i64 j.na, .int .i64 j.nb, .int .i64 j.nc, .int .i64 j.la, .int .i64 j.lb, .int .i64 j.lc, .int .i64 j.wl, .int .i64 j.lv, .int .i64 n, .int .i64 a, .int .i64 b, .int .i64 c]) := HR2.out.below HB3.out
    have HB4 : Hid (Below w.heap.size w ((w2.alloc (.cells #[.int .i64 0, .int .i64 0, .int .i64 0, .int .i64 0, .int .i64 0, .int .i64 0, .int .i64 0, .int .i64 0, .int .i64 0, .int .i64 0, .int .i64 0] 26)).setCells w2.heap.size 0 (#[.int .i64 j.id, .int .i64 j.pr, .int .i64 j.nd, .int .i64 j.na, .int .i64 j.nb, .int .i64 j.nc, .int .i64 j.la, .int .i64 j.lb, .int .i64 j.lc, .int .i64 j.wl, .int .i64 j.lv] : Array Value).toList)) := below_then HB2.out HB3.out
    clear HZ HB3 HR2 HB2
    generalize (w2.alloc (.cells #[.int .i64 0, .int .i64 0, .int .i64 0, .int .i64 0, .int .i64 0, .int .i64 0, .int .i64 0, .int .i64 0, .int .i64 0, .int .i64 0, .int .i64 0] 26)).setCells w2.heap.size 0 _ = w3 at HJ3 HR3 HB4 ⊢
    generalize w2.heap.size = q at HJ3 ⊢
    have c3 := HR3.out.cell 0 _ rfl
    have c12 := HR3.out.cell 12 _ rfl
    go_wp2_with fail
    clear c3 c12
    refine (CN _).mono ?_
    rintro e w4 ⟨rfl, hb⟩
    have HB5 : Hid (Below w.heap.size w w4) := below_then HB4.out hb
    clear hb HB4
    go_wp2_with fail
    go_ret
    exact ⟨by rw [HE.out]; rfl, HB5.out⟩
set_option maxHeartbeats 2000000 in
set_option maxRecDepth 100000 in
theorem specCmdText_4 (j : Jb) (n a b c : Int) (w : World) (h : cmdB 4 j n a b c = true) : Calls Tryz.prog 16 #[.agg #[.int .i64 4, .int .i64 j.id, .int .i64 j.pr, .int .i64 j.nd, .int .i64 j.na, .int .i64 j.nb, .int .i64 j.nc, .int .i64 j.la, .int .i64 j.lb, .int .i64 j.lc, .int .i64 j.wl, .int .i64 j.lv, .int .i64 n, .int .i64 a, .int .i64 b, .int .i64 c]] w fun e w' => e = .returned (.string ⟨(Lib.join (cwL 4 j n a b c) [32]).toArray⟩) ∧ Below w.heap.size w w' := by
  have hok := specCmdOk_c 4 j n a b c
  rw [h] at hok
  have HK : Hid (∀ w, Calls Tryz.prog 33 #[.agg #[.int .i64 4, .int .i64 j.id, .int .i64 j.pr, .int .i64 j.nd, .int .i64 j.na, .int .i64 j.nb, .int .i64 j.nc, .int .i64 j.la, .int .i64 j.lb, .int .i64 j.lc, .int .i64 j.wl, .int .i64 j.lv, .int .i64 n, .int .i64 a, .int .i64 b, .int .i64 c]] w fun e w' => e = .returned (.bool true) ∧ Below w.heap.size w w') := hok
  clear hok h
  obtain ⟨y1, hy1, A1⟩ : ∃ y, Hid (y = (⟨(kwL 4 ++ [32]).toArray⟩ : ByteArray)) ∧ ∀ W, (Op.stringOp .add ⟨#[102,97,105,108]⟩ ⟨#[32]⟩).run Tryz.prog W = .ok (.string y) W := ⟨_, hid_rfl, add_l (kwL 4) [32] (by decide) (by decide)⟩
  have hln := numL_len n
  obtain ⟨N, hN, CN⟩ : ∃ N, Hid (N = (⟨(numL n).toArray⟩ : ByteArray)) ∧ ∀ W, Calls Tryz.prog 18 #[.int .i64 n] W fun e w' => e = .returned (.string N) ∧ Below W.heap.size W w' := ⟨_, hid_rfl, fun W => specNumText_all n W⟩
  obtain ⟨y2, hy2, A2⟩ : ∃ y, Hid (y = (⟨(kwL 4 ++ [32] ++ numL n).toArray⟩ : ByteArray)) ∧ ∀ W, (Op.stringOp .add y1 N).run Tryz.prog W = .ok (.string y) W := ⟨_, hid_rfl, by rw [hy1.out, hN.out]; exact add_l _ (numL n) (by simp [kwL, kws]) (by omega)⟩
  have HE : Hid (y2 = (⟨(Lib.join (cwL 4 j n a b c) [32]).toArray⟩ : ByteArray)) := by show _ = _; rw [hy2.out]; simp [cwL, Lib.join]
  clear hy1 hN hy2 hln
  go_enter Tryz.func16, Tryz.ntmps16
  go_wp2_with (refine stay_load 28 ?_)
  refine ⟨?_⟩
  have HR : Hid (Row (w.alloc (.cells #[.int .i64 4, .int .i64 j.id, .int .i64 j.pr, .int .i64 j.nd, .int .i64 j.na, .int .i64 j.nb, .int .i64 j.nc, .int .i64 j.la, .int .i64 j.lb, .int .i64 j.lc, .int .i64 j.wl, .int .i64 j.lv, .int .i64 n, .int .i64 a, .int .i64 b, .int .i64 c] 28)) w.heap.size [.int .i64 4, .int .i64 j.id, .int .i64 j.pr, .int .i64 j.nd, .int .i64 j.na, .int .i64 j.nb, .int .i64 j.nc, .int .i64 j.la, .int .i64 j.lb, .int .i64 j.lc, .int .i64 j.wl, .int .i64 j.lv, .int .i64 n, .int .i64 a, .int .i64 b, .int .i64 c]) := row_fresh w [.int .i64 4, .int .i64 j.id, .int .i64 j.pr, .int .i64 j.nd, .int .i64 j.na, .int .i64 j.nb, .int .i64 j.nc, .int .i64 j.la, .int .i64 j.lb, .int .i64 j.lc, .int .i64 j.wl, .int .i64 j.lv, .int .i64 n, .int .i64 a, .int .i64 b, .int .i64 c] 28
  have HB : Hid (Below w.heap.size w (w.alloc (.cells #[.int .i64 4, .int .i64 j.id, .int .i64 j.pr, .int .i64 j.nd, .int .i64 j.na, .int .i64 j.nb, .int .i64 j.nc, .int .i64 j.la, .int .i64 j.lb, .int .i64 j.lc, .int .i64 j.wl, .int .i64 j.lv, .int .i64 n, .int .i64 a, .int .i64 b, .int .i64 c] 28))) := low_alloc _ _
  generalize w.alloc (.cells #[.int .i64 4, .int .i64 j.id, .int .i64 j.pr, .int .i64 j.nd, .int .i64 j.na, .int .i64 j.nb, .int .i64 j.nc, .int .i64 j.la, .int .i64 j.lb, .int .i64 j.lc, .int .i64 j.wl, .int .i64 j.lv, .int .i64 n, .int .i64 a, .int .i64 b, .int .i64 c] 28) = w0 at HR HB ⊢
  refine wpList_load_mid rfl 28 _ rfl w.heap.size 0 rfl [.int .i64 4, .int .i64 j.id, .int .i64 j.pr, .int .i64 j.nd, .int .i64 j.na, .int .i64 j.nb, .int .i64 j.nc, .int .i64 j.la, .int .i64 j.lb, .int .i64 j.lc, .int .i64 j.wl, .int .i64 j.lv, .int .i64 n, .int .i64 a, .int .i64 b, .int .i64 c] _ HR.out.all Tryz.underlying28 rfl szCmdS ?_
  go_wp2_with fail
  refine (HK.out _).mono ?_
  rintro e w1 ⟨rfl, hb⟩
  have HR1 : Hid (Row w1 w.heap.size [.int .i64 4, .int .i64 j.id, .int .i64 j.pr, .int .i64 j.nd, .int .i64 j.na, .int .i64 j.nb, .int .i64 j.nc, .int .i64 j.la, .int .i64 j.lb, .int .i64 j.lc, .int .i64 j.wl, .int .i64 j.lv, .int .i64 n, .int .i64 a, .int .i64 b, .int .i64 c]) := HR.out.below hb
  have HB1 : Hid (Below w.heap.size w w1) := below_then HB.out hb
  clear hb HR HB HK
  go_wp2_with fail
  have HD : Hid (Below w1.heap.size w1 w1.drew) := low_drew w1
  have HC0 : Hid (w1.cell? ⟨w.heap.size, 0, none⟩ = some (.int .i64 4)) := HR1.out.cell 0 _ rfl
  have hwl : w.heap.size < w1.heap.size := HR1.out.lt
  have HR1d : Hid (Row w1.drew w.heap.size [.int .i64 4, .int .i64 j.id, .int .i64 j.pr, .int .i64 j.nd, .int .i64 j.na, .int .i64 j.nb, .int .i64 j.nc, .int .i64 j.la, .int .i64 j.lb, .int .i64 j.lc, .int .i64 j.wl, .int .i64 j.lv, .int .i64 n, .int .i64 a, .int .i64 b, .int .i64 c]) := HR1.out.below HD.out
  have HB1d : Hid (Below w.heap.size w w1.drew) := below_then HB1.out HD.out
  have c1 := HR1d.out.cell 0 _ rfl
  go_region_with (first
    | (go_at_call 34; refine (l08Words_c w1.drew).mono ?_; rintro e w2 ⟨g, rfl, hg, hr, hb⟩; have g2 := hr.cell 4 _ rfl; have HB2 : Hid (Below w.heap.size w w2) := below_then HB1d.out hb; have HR2 : Hid (Row w2 w.heap.size [.int .i64 4, .int .i64 j.id, .int .i64 j.pr, .int .i64 j.nd, .int .i64 j.na, .int .i64 j.nb, .int .i64 j.nc, .int .i64 j.la, .int .i64 j.lb, .int .i64 j.lc, .int .i64 j.wl, .int .i64 j.lv, .int .i64 n, .int .i64 a, .int .i64 b, .int .i64 c]) := HR1d.out.below hb; have c2 := HR2.out.cell 0 _ rfl; clear hr hb))
  all_goals
    clear g2 c1 c2 HR1 HB1 HC0 HD HR1d HB1d hg
    go_wp2_with (refine stay_load 26 ?_)
    refine ⟨?_⟩
    refine wpList_load_mid rfl 26 _ rfl w.heap.size 1 rfl [.int .i64 j.id, .int .i64 j.pr, .int .i64 j.nd, .int .i64 j.na, .int .i64 j.nb, .int .i64 j.nc, .int .i64 j.la, .int .i64 j.lb, .int .i64 j.lc, .int .i64 j.wl, .int .i64 j.lv] _ (HR2.out.sub 1 11) Tryz.underlying26 rfl szJobS' ?_
    have HZ := row_fresh w2 [.int .i64 0, .int .i64 0, .int .i64 0, .int .i64 0, .int .i64 0, .int .i64 0, .int .i64 0, .int .i64 0, .int .i64 0, .int .i64 0, .int .i64 0] 26
    go_wp2_with (refine stay_store 26 ?_)
    refine ⟨?_⟩
    refine wpList_store_mid rfl 26 _ _ rfl w2.heap.size 0 _ rfl rfl (HZ.room 0 11 (by simp)) szJobS' (by simp [Value.oneCell']) ?_
    have HJ3 : Hid (Row ((w2.alloc (.cells #[.int .i64 0, .int .i64 0, .int .i64 0, .int .i64 0, .int .i64 0, .int .i64 0, .int .i64 0, .int .i64 0, .int .i64 0, .int .i64 0, .int .i64 0] 26)).setCells w2.heap.size 0 (#[.int .i64 j.id, .int .i64 j.pr, .int .i64 j.nd, .int .i64 j.na, .int .i64 j.nb, .int .i64 j.nc, .int .i64 j.la, .int .i64 j.lb, .int .i64 j.lc, .int .i64 j.wl, .int .i64 j.lv] : Array Value).toList) w2.heap.size [.int .i64 j.id, .int .i64 j.pr, .int .i64 j.nd, .int .i64 j.na, .int .i64 j.nb, .int .i64 j.nc, .int .i64 j.la, .int .i64 j.lb, .int .i64 j.lc, .int .i64 j.wl, .int .i64 j.lv]) := Row.setCs _ 0 HZ (by simp)
    have HB3 : Hid (Below w2.heap.size w2 ((w2.alloc (.cells #[.int .i64 0, .int .i64 0, .int .i64 0, .int .i64 0, .int .i64 0, .int .i64 0, .int .i64 0, .int .i64 0, .int .i64 0, .int .i64 0, .int .i64 0] 26)).setCells w2.heap.size 0 (#[.int .i64 j.id, .int .i64 j.pr, .int .i64 j.nd, .int .i64 j.na, .int .i64 j.nb, .int .i64 j.nc, .int .i64 j.la, .int .i64 j.lb, .int .i64 j.lc, .int .i64 j.wl, .int .i64 j.lv] : Array Value).toList)) := below_setCs (Nat.le_refl _) _ _ (low_alloc _ _)
    have HR3 : Hid (Row ((w2.alloc (.cells #[.int .i64 0, .int .i64 0, .int .i64 0, .int .i64 0, .int .i64 0, .int .i64 0, .int .i64 0, .int .i64 0, .int .i64 0, .int .i64 0, .int .i64 0] 26)).setCells w2.heap.size 0 (#[.int .i64 j.id, .int .i64 j.pr, .int .i64 j.nd, .int .i64 j.na, .int .i64 j.nb, .int .i64 j.nc, .int .i64 j.la, .int .i64 j.lb, .int .i64 j.lc, .int .i64 j.wl, .int .i64 j.lv] : Array Value).toList) w.heap.size [.int .i64 4, .int .i64 j.id, .int .i64 j.pr, .int .i64 j.nd, .int .i64 j.na, .int .i64 j.nb, .int .i64 j.nc, .int .i64 j.la, .int .i64 j.lb, .int .i64 j.lc, .int .i64 j.wl, .int .i64 j.lv, .int .i64 n, .int .i64 a, .int .i64 b, .int .i64 c]) := HR2.out.below HB3.out
    have HB4 : Hid (Below w.heap.size w ((w2.alloc (.cells #[.int .i64 0, .int .i64 0, .int .i64 0, .int .i64 0, .int .i64 0, .int .i64 0, .int .i64 0, .int .i64 0, .int .i64 0, .int .i64 0, .int .i64 0] 26)).setCells w2.heap.size 0 (#[.int .i64 j.id, .int .i64 j.pr, .int .i64 j.nd, .int .i64 j.na, .int .i64 j.nb, .int .i64 j.nc, .int .i64 j.la, .int .i64 j.lb, .int .i64 j.lc, .int .i64 j.wl, .int .i64 j.lv] : Array Value).toList)) := below_then HB2.out HB3.out
    clear HZ HB3 HR2 HB2
    generalize (w2.alloc (.cells #[.int .i64 0, .int .i64 0, .int .i64 0, .int .i64 0, .int .i64 0, .int .i64 0, .int .i64 0, .int .i64 0, .int .i64 0, .int .i64 0, .int .i64 0] 26)).setCells w2.heap.size 0 _ = w3 at HJ3 HR3 HB4 ⊢
    generalize w2.heap.size = q at HJ3 ⊢
    have c3 := HR3.out.cell 0 _ rfl
    have c12 := HR3.out.cell 12 _ rfl
    go_wp2_with fail
    clear c3 c12
    refine (CN _).mono ?_
    rintro e w4 ⟨rfl, hb⟩
    have HB5 : Hid (Below w.heap.size w w4) := below_then HB4.out hb
    clear hb HB4
    go_wp2_with fail
    go_ret
    exact ⟨by rw [HE.out]; rfl, HB5.out⟩
set_option maxHeartbeats 2000000 in
set_option maxRecDepth 100000 in
theorem specCmdText_5 (j : Jb) (n a b c : Int) (w : World) (h : cmdB 5 j n a b c = true) : Calls Tryz.prog 16 #[.agg #[.int .i64 5, .int .i64 j.id, .int .i64 j.pr, .int .i64 j.nd, .int .i64 j.na, .int .i64 j.nb, .int .i64 j.nc, .int .i64 j.la, .int .i64 j.lb, .int .i64 j.lc, .int .i64 j.wl, .int .i64 j.lv, .int .i64 n, .int .i64 a, .int .i64 b, .int .i64 c]] w fun e w' => e = .returned (.string ⟨(Lib.join (cwL 5 j n a b c) [32]).toArray⟩) ∧ Below w.heap.size w w' := by
  have hok := specCmdOk_c 5 j n a b c
  rw [h] at hok
  have HK : Hid (∀ w, Calls Tryz.prog 33 #[.agg #[.int .i64 5, .int .i64 j.id, .int .i64 j.pr, .int .i64 j.nd, .int .i64 j.na, .int .i64 j.nb, .int .i64 j.nc, .int .i64 j.la, .int .i64 j.lb, .int .i64 j.lc, .int .i64 j.wl, .int .i64 j.lv, .int .i64 n, .int .i64 a, .int .i64 b, .int .i64 c]] w fun e w' => e = .returned (.bool true) ∧ Below w.heap.size w w') := hok
  clear hok h
  obtain ⟨y1, hy1, A1⟩ : ∃ y, Hid (y = (⟨(kwL 5 ++ [32]).toArray⟩ : ByteArray)) ∧ ∀ W, (Op.stringOp .add ⟨#[114,101,115,117,109,101]⟩ ⟨#[32]⟩).run Tryz.prog W = .ok (.string y) W := ⟨_, hid_rfl, add_l (kwL 5) [32] (by decide) (by decide)⟩
  have hln := numL_len n
  obtain ⟨N, hN, CN⟩ : ∃ N, Hid (N = (⟨(numL n).toArray⟩ : ByteArray)) ∧ ∀ W, Calls Tryz.prog 18 #[.int .i64 n] W fun e w' => e = .returned (.string N) ∧ Below W.heap.size W w' := ⟨_, hid_rfl, fun W => specNumText_all n W⟩
  obtain ⟨y2, hy2, A2⟩ : ∃ y, Hid (y = (⟨(kwL 5 ++ [32] ++ numL n).toArray⟩ : ByteArray)) ∧ ∀ W, (Op.stringOp .add y1 N).run Tryz.prog W = .ok (.string y) W := ⟨_, hid_rfl, by rw [hy1.out, hN.out]; exact add_l _ (numL n) (by simp [kwL, kws]) (by omega)⟩
  have HE : Hid (y2 = (⟨(Lib.join (cwL 5 j n a b c) [32]).toArray⟩ : ByteArray)) := by show _ = _; rw [hy2.out]; simp [cwL, Lib.join]
  clear hy1 hN hy2 hln
  go_enter Tryz.func16, Tryz.ntmps16
  go_wp2_with (refine stay_load 28 ?_)
  refine ⟨?_⟩
  have HR : Hid (Row (w.alloc (.cells #[.int .i64 5, .int .i64 j.id, .int .i64 j.pr, .int .i64 j.nd, .int .i64 j.na, .int .i64 j.nb, .int .i64 j.nc, .int .i64 j.la, .int .i64 j.lb, .int .i64 j.lc, .int .i64 j.wl, .int .i64 j.lv, .int .i64 n, .int .i64 a, .int .i64 b, .int .i64 c] 28)) w.heap.size [.int .i64 5, .int .i64 j.id, .int .i64 j.pr, .int .i64 j.nd, .int .i64 j.na, .int .i64 j.nb, .int .i64 j.nc, .int .i64 j.la, .int .i64 j.lb, .int .i64 j.lc, .int .i64 j.wl, .int .i64 j.lv, .int .i64 n, .int .i64 a, .int .i64 b, .int .i64 c]) := row_fresh w [.int .i64 5, .int .i64 j.id, .int .i64 j.pr, .int .i64 j.nd, .int .i64 j.na, .int .i64 j.nb, .int .i64 j.nc, .int .i64 j.la, .int .i64 j.lb, .int .i64 j.lc, .int .i64 j.wl, .int .i64 j.lv, .int .i64 n, .int .i64 a, .int .i64 b, .int .i64 c] 28
  have HB : Hid (Below w.heap.size w (w.alloc (.cells #[.int .i64 5, .int .i64 j.id, .int .i64 j.pr, .int .i64 j.nd, .int .i64 j.na, .int .i64 j.nb, .int .i64 j.nc, .int .i64 j.la, .int .i64 j.lb, .int .i64 j.lc, .int .i64 j.wl, .int .i64 j.lv, .int .i64 n, .int .i64 a, .int .i64 b, .int .i64 c] 28))) := low_alloc _ _
  generalize w.alloc (.cells #[.int .i64 5, .int .i64 j.id, .int .i64 j.pr, .int .i64 j.nd, .int .i64 j.na, .int .i64 j.nb, .int .i64 j.nc, .int .i64 j.la, .int .i64 j.lb, .int .i64 j.lc, .int .i64 j.wl, .int .i64 j.lv, .int .i64 n, .int .i64 a, .int .i64 b, .int .i64 c] 28) = w0 at HR HB ⊢
  refine wpList_load_mid rfl 28 _ rfl w.heap.size 0 rfl [.int .i64 5, .int .i64 j.id, .int .i64 j.pr, .int .i64 j.nd, .int .i64 j.na, .int .i64 j.nb, .int .i64 j.nc, .int .i64 j.la, .int .i64 j.lb, .int .i64 j.lc, .int .i64 j.wl, .int .i64 j.lv, .int .i64 n, .int .i64 a, .int .i64 b, .int .i64 c] _ HR.out.all Tryz.underlying28 rfl szCmdS ?_
  go_wp2_with fail
  refine (HK.out _).mono ?_
  rintro e w1 ⟨rfl, hb⟩
  have HR1 : Hid (Row w1 w.heap.size [.int .i64 5, .int .i64 j.id, .int .i64 j.pr, .int .i64 j.nd, .int .i64 j.na, .int .i64 j.nb, .int .i64 j.nc, .int .i64 j.la, .int .i64 j.lb, .int .i64 j.lc, .int .i64 j.wl, .int .i64 j.lv, .int .i64 n, .int .i64 a, .int .i64 b, .int .i64 c]) := HR.out.below hb
  have HB1 : Hid (Below w.heap.size w w1) := below_then HB.out hb
  clear hb HR HB HK
  go_wp2_with fail
  have HD : Hid (Below w1.heap.size w1 w1.drew) := low_drew w1
  have HC0 : Hid (w1.cell? ⟨w.heap.size, 0, none⟩ = some (.int .i64 5)) := HR1.out.cell 0 _ rfl
  have hwl : w.heap.size < w1.heap.size := HR1.out.lt
  have HR1d : Hid (Row w1.drew w.heap.size [.int .i64 5, .int .i64 j.id, .int .i64 j.pr, .int .i64 j.nd, .int .i64 j.na, .int .i64 j.nb, .int .i64 j.nc, .int .i64 j.la, .int .i64 j.lb, .int .i64 j.lc, .int .i64 j.wl, .int .i64 j.lv, .int .i64 n, .int .i64 a, .int .i64 b, .int .i64 c]) := HR1.out.below HD.out
  have HB1d : Hid (Below w.heap.size w w1.drew) := below_then HB1.out HD.out
  have c1 := HR1d.out.cell 0 _ rfl
  go_region_with (first
    | (go_at_call 34; refine (l08Words_c w1.drew).mono ?_; rintro e w2 ⟨g, rfl, hg, hr, hb⟩; have g2 := hr.cell 5 _ rfl; have HB2 : Hid (Below w.heap.size w w2) := below_then HB1d.out hb; have HR2 : Hid (Row w2 w.heap.size [.int .i64 5, .int .i64 j.id, .int .i64 j.pr, .int .i64 j.nd, .int .i64 j.na, .int .i64 j.nb, .int .i64 j.nc, .int .i64 j.la, .int .i64 j.lb, .int .i64 j.lc, .int .i64 j.wl, .int .i64 j.lv, .int .i64 n, .int .i64 a, .int .i64 b, .int .i64 c]) := HR1d.out.below hb; have c2 := HR2.out.cell 0 _ rfl; clear hr hb))
  all_goals
    clear g2 c1 c2 HR1 HB1 HC0 HD HR1d HB1d hg
    go_wp2_with (refine stay_load 26 ?_)
    refine ⟨?_⟩
    refine wpList_load_mid rfl 26 _ rfl w.heap.size 1 rfl [.int .i64 j.id, .int .i64 j.pr, .int .i64 j.nd, .int .i64 j.na, .int .i64 j.nb, .int .i64 j.nc, .int .i64 j.la, .int .i64 j.lb, .int .i64 j.lc, .int .i64 j.wl, .int .i64 j.lv] _ (HR2.out.sub 1 11) Tryz.underlying26 rfl szJobS' ?_
    have HZ := row_fresh w2 [.int .i64 0, .int .i64 0, .int .i64 0, .int .i64 0, .int .i64 0, .int .i64 0, .int .i64 0, .int .i64 0, .int .i64 0, .int .i64 0, .int .i64 0] 26
    go_wp2_with (refine stay_store 26 ?_)
    refine ⟨?_⟩
    refine wpList_store_mid rfl 26 _ _ rfl w2.heap.size 0 _ rfl rfl (HZ.room 0 11 (by simp)) szJobS' (by simp [Value.oneCell']) ?_
    have HJ3 : Hid (Row ((w2.alloc (.cells #[.int .i64 0, .int .i64 0, .int .i64 0, .int .i64 0, .int .i64 0, .int .i64 0, .int .i64 0, .int .i64 0, .int .i64 0, .int .i64 0, .int .i64 0] 26)).setCells w2.heap.size 0 (#[.int .i64 j.id, .int .i64 j.pr, .int .i64 j.nd, .int .i64 j.na, .int .i64 j.nb, .int .i64 j.nc, .int .i64 j.la, .int .i64 j.lb, .int .i64 j.lc, .int .i64 j.wl, .int .i64 j.lv] : Array Value).toList) w2.heap.size [.int .i64 j.id, .int .i64 j.pr, .int .i64 j.nd, .int .i64 j.na, .int .i64 j.nb, .int .i64 j.nc, .int .i64 j.la, .int .i64 j.lb, .int .i64 j.lc, .int .i64 j.wl, .int .i64 j.lv]) := Row.setCs _ 0 HZ (by simp)
    have HB3 : Hid (Below w2.heap.size w2 ((w2.alloc (.cells #[.int .i64 0, .int .i64 0, .int .i64 0, .int .i64 0, .int .i64 0, .int .i64 0, .int .i64 0, .int .i64 0, .int .i64 0, .int .i64 0, .int .i64 0] 26)).setCells w2.heap.size 0 (#[.int .i64 j.id, .int .i64 j.pr, .int .i64 j.nd, .int .i64 j.na, .int .i64 j.nb, .int .i64 j.nc, .int .i64 j.la, .int .i64 j.lb, .int .i64 j.lc, .int .i64 j.wl, .int .i64 j.lv] : Array Value).toList)) := below_setCs (Nat.le_refl _) _ _ (low_alloc _ _)
    have HR3 : Hid (Row ((w2.alloc (.cells #[.int .i64 0, .int .i64 0, .int .i64 0, .int .i64 0, .int .i64 0, .int .i64 0, .int .i64 0, .int .i64 0, .int .i64 0, .int .i64 0, .int .i64 0] 26)).setCells w2.heap.size 0 (#[.int .i64 j.id, .int .i64 j.pr, .int .i64 j.nd, .int .i64 j.na, .int .i64 j.nb, .int .i64 j.nc, .int .i64 j.la, .int .i64 j.lb, .int .i64 j.lc, .int .i64 j.wl, .int .i64 j.lv] : Array Value).toList) w.heap.size [.int .i64 5, .int .i64 j.id, .int .i64 j.pr, .int .i64 j.nd, .int .i64 j.na, .int .i64 j.nb, .int .i64 j.nc, .int .i64 j.la, .int .i64 j.lb, .int .i64 j.lc, .int .i64 j.wl, .int .i64 j.lv, .int .i64 n, .int .i64 a, .int .i64 b, .int .i64 c]) := HR2.out.below HB3.out
    have HB4 : Hid (Below w.heap.size w ((w2.alloc (.cells #[.int .i64 0, .int .i64 0, .int .i64 0, .int .i64 0, .int .i64 0, .int .i64 0, .int .i64 0, .int .i64 0, .int .i64 0, .int .i64 0, .int .i64 0] 26)).setCells w2.heap.size 0 (#[.int .i64 j.id, .int .i64 j.pr, .int .i64 j.nd, .int .i64 j.na, .int .i64 j.nb, .int .i64 j.nc, .int .i64 j.la, .int .i64 j.lb, .int .i64 j.lc, .int .i64 j.wl, .int .i64 j.lv] : Array Value).toList)) := below_then HB2.out HB3.out
    clear HZ HB3 HR2 HB2
    generalize (w2.alloc (.cells #[.int .i64 0, .int .i64 0, .int .i64 0, .int .i64 0, .int .i64 0, .int .i64 0, .int .i64 0, .int .i64 0, .int .i64 0, .int .i64 0, .int .i64 0] 26)).setCells w2.heap.size 0 _ = w3 at HJ3 HR3 HB4 ⊢
    generalize w2.heap.size = q at HJ3 ⊢
    have c3 := HR3.out.cell 0 _ rfl
    have c12 := HR3.out.cell 12 _ rfl
    go_wp2_with fail
    clear c3 c12
    refine (CN _).mono ?_
    rintro e w4 ⟨rfl, hb⟩
    have HB5 : Hid (Below w.heap.size w w4) := below_then HB4.out hb
    clear hb HB4
    go_wp2_with fail
    go_ret
    exact ⟨by rw [HE.out]; rfl, HB5.out⟩
set_option maxHeartbeats 2000000 in
set_option maxRecDepth 100000 in
theorem specCmdText_7 (j : Jb) (n a b c : Int) (w : World) (h : cmdB 7 j n a b c = true) : Calls Tryz.prog 16 #[.agg #[.int .i64 7, .int .i64 j.id, .int .i64 j.pr, .int .i64 j.nd, .int .i64 j.na, .int .i64 j.nb, .int .i64 j.nc, .int .i64 j.la, .int .i64 j.lb, .int .i64 j.lc, .int .i64 j.wl, .int .i64 j.lv, .int .i64 n, .int .i64 a, .int .i64 b, .int .i64 c]] w fun e w' => e = .returned (.string ⟨(Lib.join (cwL 7 j n a b c) [32]).toArray⟩) ∧ Below w.heap.size w w' := by
  have hok := specCmdOk_c 7 j n a b c
  rw [h] at hok
  have HK : Hid (∀ w, Calls Tryz.prog 33 #[.agg #[.int .i64 7, .int .i64 j.id, .int .i64 j.pr, .int .i64 j.nd, .int .i64 j.na, .int .i64 j.nb, .int .i64 j.nc, .int .i64 j.la, .int .i64 j.lb, .int .i64 j.lc, .int .i64 j.wl, .int .i64 j.lv, .int .i64 n, .int .i64 a, .int .i64 b, .int .i64 c]] w fun e w' => e = .returned (.bool true) ∧ Below w.heap.size w w') := hok
  clear hok h
  obtain ⟨y1, hy1, A1⟩ : ∃ y, Hid (y = (⟨(kwL 7 ++ [32]).toArray⟩ : ByteArray)) ∧ ∀ W, (Op.stringOp .add ⟨#[103,111]⟩ ⟨#[32]⟩).run Tryz.prog W = .ok (.string y) W := ⟨_, hid_rfl, add_l (kwL 7) [32] (by decide) (by decide)⟩
  have hln := numL_len n
  obtain ⟨N, hN, CN⟩ : ∃ N, Hid (N = (⟨(numL n).toArray⟩ : ByteArray)) ∧ ∀ W, Calls Tryz.prog 18 #[.int .i64 n] W fun e w' => e = .returned (.string N) ∧ Below W.heap.size W w' := ⟨_, hid_rfl, fun W => specNumText_all n W⟩
  obtain ⟨y2, hy2, A2⟩ : ∃ y, Hid (y = (⟨(kwL 7 ++ [32] ++ numL n).toArray⟩ : ByteArray)) ∧ ∀ W, (Op.stringOp .add y1 N).run Tryz.prog W = .ok (.string y) W := ⟨_, hid_rfl, by rw [hy1.out, hN.out]; exact add_l _ (numL n) (by simp [kwL, kws]) (by omega)⟩
  have HE : Hid (y2 = (⟨(Lib.join (cwL 7 j n a b c) [32]).toArray⟩ : ByteArray)) := by show _ = _; rw [hy2.out]; simp [cwL, Lib.join]
  clear hy1 hN hy2 hln
  go_enter Tryz.func16, Tryz.ntmps16
  go_wp2_with (refine stay_load 28 ?_)
  refine ⟨?_⟩
  have HR : Hid (Row (w.alloc (.cells #[.int .i64 7, .int .i64 j.id, .int .i64 j.pr, .int .i64 j.nd, .int .i64 j.na, .int .i64 j.nb, .int .i64 j.nc, .int .i64 j.la, .int .i64 j.lb, .int .i64 j.lc, .int .i64 j.wl, .int .i64 j.lv, .int .i64 n, .int .i64 a, .int .i64 b, .int .i64 c] 28)) w.heap.size [.int .i64 7, .int .i64 j.id, .int .i64 j.pr, .int .i64 j.nd, .int .i64 j.na, .int .i64 j.nb, .int .i64 j.nc, .int .i64 j.la, .int .i64 j.lb, .int .i64 j.lc, .int .i64 j.wl, .int .i64 j.lv, .int .i64 n, .int .i64 a, .int .i64 b, .int .i64 c]) := row_fresh w [.int .i64 7, .int .i64 j.id, .int .i64 j.pr, .int .i64 j.nd, .int .i64 j.na, .int .i64 j.nb, .int .i64 j.nc, .int .i64 j.la, .int .i64 j.lb, .int .i64 j.lc, .int .i64 j.wl, .int .i64 j.lv, .int .i64 n, .int .i64 a, .int .i64 b, .int .i64 c] 28
  have HB : Hid (Below w.heap.size w (w.alloc (.cells #[.int .i64 7, .int .i64 j.id, .int .i64 j.pr, .int .i64 j.nd, .int .i64 j.na, .int .i64 j.nb, .int .i64 j.nc, .int .i64 j.la, .int .i64 j.lb, .int .i64 j.lc, .int .i64 j.wl, .int .i64 j.lv, .int .i64 n, .int .i64 a, .int .i64 b, .int .i64 c] 28))) := low_alloc _ _
  generalize w.alloc (.cells #[.int .i64 7, .int .i64 j.id, .int .i64 j.pr, .int .i64 j.nd, .int .i64 j.na, .int .i64 j.nb, .int .i64 j.nc, .int .i64 j.la, .int .i64 j.lb, .int .i64 j.lc, .int .i64 j.wl, .int .i64 j.lv, .int .i64 n, .int .i64 a, .int .i64 b, .int .i64 c] 28) = w0 at HR HB ⊢
  refine wpList_load_mid rfl 28 _ rfl w.heap.size 0 rfl [.int .i64 7, .int .i64 j.id, .int .i64 j.pr, .int .i64 j.nd, .int .i64 j.na, .int .i64 j.nb, .int .i64 j.nc, .int .i64 j.la, .int .i64 j.lb, .int .i64 j.lc, .int .i64 j.wl, .int .i64 j.lv, .int .i64 n, .int .i64 a, .int .i64 b, .int .i64 c] _ HR.out.all Tryz.underlying28 rfl szCmdS ?_
  go_wp2_with fail
  refine (HK.out _).mono ?_
  rintro e w1 ⟨rfl, hb⟩
  have HR1 : Hid (Row w1 w.heap.size [.int .i64 7, .int .i64 j.id, .int .i64 j.pr, .int .i64 j.nd, .int .i64 j.na, .int .i64 j.nb, .int .i64 j.nc, .int .i64 j.la, .int .i64 j.lb, .int .i64 j.lc, .int .i64 j.wl, .int .i64 j.lv, .int .i64 n, .int .i64 a, .int .i64 b, .int .i64 c]) := HR.out.below hb
  have HB1 : Hid (Below w.heap.size w w1) := below_then HB.out hb
  clear hb HR HB HK
  go_wp2_with fail
  have HD : Hid (Below w1.heap.size w1 w1.drew) := low_drew w1
  have HC0 : Hid (w1.cell? ⟨w.heap.size, 0, none⟩ = some (.int .i64 7)) := HR1.out.cell 0 _ rfl
  have hwl : w.heap.size < w1.heap.size := HR1.out.lt
  have HR1d : Hid (Row w1.drew w.heap.size [.int .i64 7, .int .i64 j.id, .int .i64 j.pr, .int .i64 j.nd, .int .i64 j.na, .int .i64 j.nb, .int .i64 j.nc, .int .i64 j.la, .int .i64 j.lb, .int .i64 j.lc, .int .i64 j.wl, .int .i64 j.lv, .int .i64 n, .int .i64 a, .int .i64 b, .int .i64 c]) := HR1.out.below HD.out
  have HB1d : Hid (Below w.heap.size w w1.drew) := below_then HB1.out HD.out
  have c1 := HR1d.out.cell 0 _ rfl
  go_region_with (first
    | (go_at_call 34; refine (l08Words_c w1.drew).mono ?_; rintro e w2 ⟨g, rfl, hg, hr, hb⟩; have g2 := hr.cell 7 _ rfl; have HB2 : Hid (Below w.heap.size w w2) := below_then HB1d.out hb; have HR2 : Hid (Row w2 w.heap.size [.int .i64 7, .int .i64 j.id, .int .i64 j.pr, .int .i64 j.nd, .int .i64 j.na, .int .i64 j.nb, .int .i64 j.nc, .int .i64 j.la, .int .i64 j.lb, .int .i64 j.lc, .int .i64 j.wl, .int .i64 j.lv, .int .i64 n, .int .i64 a, .int .i64 b, .int .i64 c]) := HR1d.out.below hb; have c2 := HR2.out.cell 0 _ rfl; clear hr hb))
  all_goals
    clear g2 c1 c2 HR1 HB1 HC0 HD HR1d HB1d hg
    go_wp2_with (refine stay_load 26 ?_)
    refine ⟨?_⟩
    refine wpList_load_mid rfl 26 _ rfl w.heap.size 1 rfl [.int .i64 j.id, .int .i64 j.pr, .int .i64 j.nd, .int .i64 j.na, .int .i64 j.nb, .int .i64 j.nc, .int .i64 j.la, .int .i64 j.lb, .int .i64 j.lc, .int .i64 j.wl, .int .i64 j.lv] _ (HR2.out.sub 1 11) Tryz.underlying26 rfl szJobS' ?_
    have HZ := row_fresh w2 [.int .i64 0, .int .i64 0, .int .i64 0, .int .i64 0, .int .i64 0, .int .i64 0, .int .i64 0, .int .i64 0, .int .i64 0, .int .i64 0, .int .i64 0] 26
    go_wp2_with (refine stay_store 26 ?_)
    refine ⟨?_⟩
    refine wpList_store_mid rfl 26 _ _ rfl w2.heap.size 0 _ rfl rfl (HZ.room 0 11 (by simp)) szJobS' (by simp [Value.oneCell']) ?_
    have HJ3 : Hid (Row ((w2.alloc (.cells #[.int .i64 0, .int .i64 0, .int .i64 0, .int .i64 0, .int .i64 0, .int .i64 0, .int .i64 0, .int .i64 0, .int .i64 0, .int .i64 0, .int .i64 0] 26)).setCells w2.heap.size 0 (#[.int .i64 j.id, .int .i64 j.pr, .int .i64 j.nd, .int .i64 j.na, .int .i64 j.nb, .int .i64 j.nc, .int .i64 j.la, .int .i64 j.lb, .int .i64 j.lc, .int .i64 j.wl, .int .i64 j.lv] : Array Value).toList) w2.heap.size [.int .i64 j.id, .int .i64 j.pr, .int .i64 j.nd, .int .i64 j.na, .int .i64 j.nb, .int .i64 j.nc, .int .i64 j.la, .int .i64 j.lb, .int .i64 j.lc, .int .i64 j.wl, .int .i64 j.lv]) := Row.setCs _ 0 HZ (by simp)
    have HB3 : Hid (Below w2.heap.size w2 ((w2.alloc (.cells #[.int .i64 0, .int .i64 0, .int .i64 0, .int .i64 0, .int .i64 0, .int .i64 0, .int .i64 0, .int .i64 0, .int .i64 0, .int .i64 0, .int .i64 0] 26)).setCells w2.heap.size 0 (#[.int .i64 j.id, .int .i64 j.pr, .int .i64 j.nd, .int .i64 j.na, .int .i64 j.nb, .int .i64 j.nc, .int .i64 j.la, .int .i64 j.lb, .int .i64 j.lc, .int .i64 j.wl, .int .i64 j.lv] : Array Value).toList)) := below_setCs (Nat.le_refl _) _ _ (low_alloc _ _)
    have HR3 : Hid (Row ((w2.alloc (.cells #[.int .i64 0, .int .i64 0, .int .i64 0, .int .i64 0, .int .i64 0, .int .i64 0, .int .i64 0, .int .i64 0, .int .i64 0, .int .i64 0, .int .i64 0] 26)).setCells w2.heap.size 0 (#[.int .i64 j.id, .int .i64 j.pr, .int .i64 j.nd, .int .i64 j.na, .int .i64 j.nb, .int .i64 j.nc, .int .i64 j.la, .int .i64 j.lb, .int .i64 j.lc, .int .i64 j.wl, .int .i64 j.lv] : Array Value).toList) w.heap.size [.int .i64 7, .int .i64 j.id, .int .i64 j.pr, .int .i64 j.nd, .int .i64 j.na, .int .i64 j.nb, .int .i64 j.nc, .int .i64 j.la, .int .i64 j.lb, .int .i64 j.lc, .int .i64 j.wl, .int .i64 j.lv, .int .i64 n, .int .i64 a, .int .i64 b, .int .i64 c]) := HR2.out.below HB3.out
    have HB4 : Hid (Below w.heap.size w ((w2.alloc (.cells #[.int .i64 0, .int .i64 0, .int .i64 0, .int .i64 0, .int .i64 0, .int .i64 0, .int .i64 0, .int .i64 0, .int .i64 0, .int .i64 0, .int .i64 0] 26)).setCells w2.heap.size 0 (#[.int .i64 j.id, .int .i64 j.pr, .int .i64 j.nd, .int .i64 j.na, .int .i64 j.nb, .int .i64 j.nc, .int .i64 j.la, .int .i64 j.lb, .int .i64 j.lc, .int .i64 j.wl, .int .i64 j.lv] : Array Value).toList)) := below_then HB2.out HB3.out
    clear HZ HB3 HR2 HB2
    generalize (w2.alloc (.cells #[.int .i64 0, .int .i64 0, .int .i64 0, .int .i64 0, .int .i64 0, .int .i64 0, .int .i64 0, .int .i64 0, .int .i64 0, .int .i64 0, .int .i64 0] 26)).setCells w2.heap.size 0 _ = w3 at HJ3 HR3 HB4 ⊢
    generalize w2.heap.size = q at HJ3 ⊢
    have c3 := HR3.out.cell 0 _ rfl
    have c12 := HR3.out.cell 12 _ rfl
    go_wp2_with fail
    clear c3 c12
    refine (CN _).mono ?_
    rintro e w4 ⟨rfl, hb⟩
    have HB5 : Hid (Below w.heap.size w w4) := below_then HB4.out hb
    clear hb HB4
    go_wp2_with fail
    go_ret
    exact ⟨by rw [HE.out]; rfl, HB5.out⟩
set_option maxHeartbeats 2000000 in
set_option maxRecDepth 100000 in
theorem specCmdText_6 (j : Jb) (n a b c : Int) (w : World) (h : cmdB 6 j n a b c = true) : Calls Tryz.prog 16 #[.agg #[.int .i64 6, .int .i64 j.id, .int .i64 j.pr, .int .i64 j.nd, .int .i64 j.na, .int .i64 j.nb, .int .i64 j.nc, .int .i64 j.la, .int .i64 j.lb, .int .i64 j.lc, .int .i64 j.wl, .int .i64 j.lv, .int .i64 n, .int .i64 a, .int .i64 b, .int .i64 c]] w fun e w' => e = .returned (.string ⟨(Lib.join (cwL 6 j n a b c) [32]).toArray⟩) ∧ Below w.heap.size w w' := by
  have hok := specCmdOk_c 6 j n a b c
  rw [h] at hok
  have HK : Hid (∀ w, Calls Tryz.prog 33 #[.agg #[.int .i64 6, .int .i64 j.id, .int .i64 j.pr, .int .i64 j.nd, .int .i64 j.na, .int .i64 j.nb, .int .i64 j.nc, .int .i64 j.la, .int .i64 j.lb, .int .i64 j.lc, .int .i64 j.wl, .int .i64 j.lv, .int .i64 n, .int .i64 a, .int .i64 b, .int .i64 c]] w fun e w' => e = .returned (.bool true) ∧ Below w.heap.size w w') := hok
  clear hok h
  obtain ⟨y1, hy1, A1⟩ : ∃ y, Hid (y = (⟨(kwL 6 ++ [32]).toArray⟩ : ByteArray)) ∧ ∀ W, (Op.stringOp .add ⟨#[108,105,99]⟩ ⟨#[32]⟩).run Tryz.prog W = .ok (.string y) W := ⟨_, hid_rfl, add_l (kwL 6) [32] (by decide) (by decide)⟩
  have hln := vt_len a b c
  obtain ⟨N, hN, CN⟩ : ∃ N, Hid (N = (⟨(vtL a b c).toArray⟩ : ByteArray)) ∧ ∀ W, Calls Tryz.prog 35 #[.agg #[.int .i64 a, .int .i64 b, .int .i64 c]] W fun e w' => e = .returned (.string N) ∧ Below W.heap.size W w' := ⟨_, hid_rfl, fun W => specVecText_all a b c W⟩
  obtain ⟨y2, hy2, A2⟩ : ∃ y, Hid (y = (⟨(kwL 6 ++ [32] ++ vtL a b c).toArray⟩ : ByteArray)) ∧ ∀ W, (Op.stringOp .add y1 N).run Tryz.prog W = .ok (.string y) W := ⟨_, hid_rfl, by rw [hy1.out, hN.out]; exact add_l _ (vtL a b c) (by simp [kwL, kws]) (by omega)⟩
  have HE : Hid (y2 = (⟨(Lib.join (cwL 6 j n a b c) [32]).toArray⟩ : ByteArray)) := by show _ = _; rw [hy2.out]; simp [cwL, Lib.join]
  clear hy1 hN hy2 hln
  go_enter Tryz.func16, Tryz.ntmps16
  go_wp2_with (refine stay_load 28 ?_)
  refine ⟨?_⟩
  have HR : Hid (Row (w.alloc (.cells #[.int .i64 6, .int .i64 j.id, .int .i64 j.pr, .int .i64 j.nd, .int .i64 j.na, .int .i64 j.nb, .int .i64 j.nc, .int .i64 j.la, .int .i64 j.lb, .int .i64 j.lc, .int .i64 j.wl, .int .i64 j.lv, .int .i64 n, .int .i64 a, .int .i64 b, .int .i64 c] 28)) w.heap.size [.int .i64 6, .int .i64 j.id, .int .i64 j.pr, .int .i64 j.nd, .int .i64 j.na, .int .i64 j.nb, .int .i64 j.nc, .int .i64 j.la, .int .i64 j.lb, .int .i64 j.lc, .int .i64 j.wl, .int .i64 j.lv, .int .i64 n, .int .i64 a, .int .i64 b, .int .i64 c]) := row_fresh w [.int .i64 6, .int .i64 j.id, .int .i64 j.pr, .int .i64 j.nd, .int .i64 j.na, .int .i64 j.nb, .int .i64 j.nc, .int .i64 j.la, .int .i64 j.lb, .int .i64 j.lc, .int .i64 j.wl, .int .i64 j.lv, .int .i64 n, .int .i64 a, .int .i64 b, .int .i64 c] 28
  have HB : Hid (Below w.heap.size w (w.alloc (.cells #[.int .i64 6, .int .i64 j.id, .int .i64 j.pr, .int .i64 j.nd, .int .i64 j.na, .int .i64 j.nb, .int .i64 j.nc, .int .i64 j.la, .int .i64 j.lb, .int .i64 j.lc, .int .i64 j.wl, .int .i64 j.lv, .int .i64 n, .int .i64 a, .int .i64 b, .int .i64 c] 28))) := low_alloc _ _
  generalize w.alloc (.cells #[.int .i64 6, .int .i64 j.id, .int .i64 j.pr, .int .i64 j.nd, .int .i64 j.na, .int .i64 j.nb, .int .i64 j.nc, .int .i64 j.la, .int .i64 j.lb, .int .i64 j.lc, .int .i64 j.wl, .int .i64 j.lv, .int .i64 n, .int .i64 a, .int .i64 b, .int .i64 c] 28) = w0 at HR HB ⊢
  refine wpList_load_mid rfl 28 _ rfl w.heap.size 0 rfl [.int .i64 6, .int .i64 j.id, .int .i64 j.pr, .int .i64 j.nd, .int .i64 j.na, .int .i64 j.nb, .int .i64 j.nc, .int .i64 j.la, .int .i64 j.lb, .int .i64 j.lc, .int .i64 j.wl, .int .i64 j.lv, .int .i64 n, .int .i64 a, .int .i64 b, .int .i64 c] _ HR.out.all Tryz.underlying28 rfl szCmdS ?_
  go_wp2_with fail
  refine (HK.out _).mono ?_
  rintro e w1 ⟨rfl, hb⟩
  have HR1 : Hid (Row w1 w.heap.size [.int .i64 6, .int .i64 j.id, .int .i64 j.pr, .int .i64 j.nd, .int .i64 j.na, .int .i64 j.nb, .int .i64 j.nc, .int .i64 j.la, .int .i64 j.lb, .int .i64 j.lc, .int .i64 j.wl, .int .i64 j.lv, .int .i64 n, .int .i64 a, .int .i64 b, .int .i64 c]) := HR.out.below hb
  have HB1 : Hid (Below w.heap.size w w1) := below_then HB.out hb
  clear hb HR HB HK
  go_wp2_with fail
  have HD : Hid (Below w1.heap.size w1 w1.drew) := low_drew w1
  have HC0 : Hid (w1.cell? ⟨w.heap.size, 0, none⟩ = some (.int .i64 6)) := HR1.out.cell 0 _ rfl
  have hwl : w.heap.size < w1.heap.size := HR1.out.lt
  have HR1d : Hid (Row w1.drew w.heap.size [.int .i64 6, .int .i64 j.id, .int .i64 j.pr, .int .i64 j.nd, .int .i64 j.na, .int .i64 j.nb, .int .i64 j.nc, .int .i64 j.la, .int .i64 j.lb, .int .i64 j.lc, .int .i64 j.wl, .int .i64 j.lv, .int .i64 n, .int .i64 a, .int .i64 b, .int .i64 c]) := HR1.out.below HD.out
  have HB1d : Hid (Below w.heap.size w w1.drew) := below_then HB1.out HD.out
  have c1 := HR1d.out.cell 0 _ rfl
  go_region_with (first
    | (go_at_call 34; refine (l08Words_c w1.drew).mono ?_; rintro e w2 ⟨g, rfl, hg, hr, hb⟩; have g2 := hr.cell 6 _ rfl; have HB2 : Hid (Below w.heap.size w w2) := below_then HB1d.out hb; have HR2 : Hid (Row w2 w.heap.size [.int .i64 6, .int .i64 j.id, .int .i64 j.pr, .int .i64 j.nd, .int .i64 j.na, .int .i64 j.nb, .int .i64 j.nc, .int .i64 j.la, .int .i64 j.lb, .int .i64 j.lc, .int .i64 j.wl, .int .i64 j.lv, .int .i64 n, .int .i64 a, .int .i64 b, .int .i64 c]) := HR1d.out.below hb; have c2 := HR2.out.cell 0 _ rfl; clear hr hb))
  all_goals
    clear g2 c1 c2 HR1 HB1 HC0 HD HR1d HB1d hg
    go_wp2_with (refine stay_load 26 ?_)
    refine ⟨?_⟩
    refine wpList_load_mid rfl 26 _ rfl w.heap.size 1 rfl [.int .i64 j.id, .int .i64 j.pr, .int .i64 j.nd, .int .i64 j.na, .int .i64 j.nb, .int .i64 j.nc, .int .i64 j.la, .int .i64 j.lb, .int .i64 j.lc, .int .i64 j.wl, .int .i64 j.lv] _ (HR2.out.sub 1 11) Tryz.underlying26 rfl szJobS' ?_
    have HZ := row_fresh w2 [.int .i64 0, .int .i64 0, .int .i64 0, .int .i64 0, .int .i64 0, .int .i64 0, .int .i64 0, .int .i64 0, .int .i64 0, .int .i64 0, .int .i64 0] 26
    go_wp2_with (refine stay_store 26 ?_)
    refine ⟨?_⟩
    refine wpList_store_mid rfl 26 _ _ rfl w2.heap.size 0 _ rfl rfl (HZ.room 0 11 (by simp)) szJobS' (by simp [Value.oneCell']) ?_
    have HJ3 : Hid (Row ((w2.alloc (.cells #[.int .i64 0, .int .i64 0, .int .i64 0, .int .i64 0, .int .i64 0, .int .i64 0, .int .i64 0, .int .i64 0, .int .i64 0, .int .i64 0, .int .i64 0] 26)).setCells w2.heap.size 0 (#[.int .i64 j.id, .int .i64 j.pr, .int .i64 j.nd, .int .i64 j.na, .int .i64 j.nb, .int .i64 j.nc, .int .i64 j.la, .int .i64 j.lb, .int .i64 j.lc, .int .i64 j.wl, .int .i64 j.lv] : Array Value).toList) w2.heap.size [.int .i64 j.id, .int .i64 j.pr, .int .i64 j.nd, .int .i64 j.na, .int .i64 j.nb, .int .i64 j.nc, .int .i64 j.la, .int .i64 j.lb, .int .i64 j.lc, .int .i64 j.wl, .int .i64 j.lv]) := Row.setCs _ 0 HZ (by simp)
    have HB3 : Hid (Below w2.heap.size w2 ((w2.alloc (.cells #[.int .i64 0, .int .i64 0, .int .i64 0, .int .i64 0, .int .i64 0, .int .i64 0, .int .i64 0, .int .i64 0, .int .i64 0, .int .i64 0, .int .i64 0] 26)).setCells w2.heap.size 0 (#[.int .i64 j.id, .int .i64 j.pr, .int .i64 j.nd, .int .i64 j.na, .int .i64 j.nb, .int .i64 j.nc, .int .i64 j.la, .int .i64 j.lb, .int .i64 j.lc, .int .i64 j.wl, .int .i64 j.lv] : Array Value).toList)) := below_setCs (Nat.le_refl _) _ _ (low_alloc _ _)
    have HR3 : Hid (Row ((w2.alloc (.cells #[.int .i64 0, .int .i64 0, .int .i64 0, .int .i64 0, .int .i64 0, .int .i64 0, .int .i64 0, .int .i64 0, .int .i64 0, .int .i64 0, .int .i64 0] 26)).setCells w2.heap.size 0 (#[.int .i64 j.id, .int .i64 j.pr, .int .i64 j.nd, .int .i64 j.na, .int .i64 j.nb, .int .i64 j.nc, .int .i64 j.la, .int .i64 j.lb, .int .i64 j.lc, .int .i64 j.wl, .int .i64 j.lv] : Array Value).toList) w.heap.size [.int .i64 6, .int .i64 j.id, .int .i64 j.pr, .int .i64 j.nd, .int .i64 j.na, .int .i64 j.nb, .int .i64 j.nc, .int .i64 j.la, .int .i64 j.lb, .int .i64 j.lc, .int .i64 j.wl, .int .i64 j.lv, .int .i64 n, .int .i64 a, .int .i64 b, .int .i64 c]) := HR2.out.below HB3.out
    have HB4 : Hid (Below w.heap.size w ((w2.alloc (.cells #[.int .i64 0, .int .i64 0, .int .i64 0, .int .i64 0, .int .i64 0, .int .i64 0, .int .i64 0, .int .i64 0, .int .i64 0, .int .i64 0, .int .i64 0] 26)).setCells w2.heap.size 0 (#[.int .i64 j.id, .int .i64 j.pr, .int .i64 j.nd, .int .i64 j.na, .int .i64 j.nb, .int .i64 j.nc, .int .i64 j.la, .int .i64 j.lb, .int .i64 j.lc, .int .i64 j.wl, .int .i64 j.lv] : Array Value).toList)) := below_then HB2.out HB3.out
    clear HZ HB3 HR2 HB2
    generalize (w2.alloc (.cells #[.int .i64 0, .int .i64 0, .int .i64 0, .int .i64 0, .int .i64 0, .int .i64 0, .int .i64 0, .int .i64 0, .int .i64 0, .int .i64 0, .int .i64 0] 26)).setCells w2.heap.size 0 _ = w3 at HJ3 HR3 HB4 ⊢
    generalize w2.heap.size = q at HJ3 ⊢
    have c3 := HR3.out.cell 0 _ rfl
    have c13 := HR3.out.cell 13 _ rfl
    have c14 := HR3.out.cell 14 _ rfl
    have c15 := HR3.out.cell 15 _ rfl
    go_wp2_with fail
    clear c3 c13 c14 c15
    refine (CN _).mono ?_
    rintro e w4 ⟨rfl, hb⟩
    have HB5 : Hid (Below w.heap.size w w4) := below_then HB4.out hb
    clear hb HB4
    go_wp2_with fail
    go_ret
    exact ⟨by rw [HE.out]; rfl, HB5.out⟩
end Go.Proofs.YtejleghdgdbbnaaGreatDoor

namespace Go.Proofs.YtejleghdgdbbnaaGreatDoor
open Go.ChangeShapes Go.WideShapes Go.ChangeAt Go.RowKit

set_option maxHeartbeats 2000000 in
set_option maxRecDepth 100000 in
theorem specCmdText_1 (j : Jb) (n a b c : Int) (w : World) (h : cmdB 1 j n a b c = true) : Calls Tryz.prog 16 #[.agg #[.int .i64 1, .int .i64 j.id, .int .i64 j.pr, .int .i64 j.nd, .int .i64 j.na, .int .i64 j.nb, .int .i64 j.nc, .int .i64 j.la, .int .i64 j.lb, .int .i64 j.lc, .int .i64 j.wl, .int .i64 j.lv, .int .i64 n, .int .i64 a, .int .i64 b, .int .i64 c]] w fun e w' => e = .returned (.string ⟨(Lib.join (cwL 1 j n a b c) [32]).toArray⟩) ∧ Below w.heap.size w w' := by
  have hok := specCmdOk_c 1 j n a b c
  rw [h] at hok
  have HK : Hid (∀ w, Calls Tryz.prog 33 #[.agg #[.int .i64 1, .int .i64 j.id, .int .i64 j.pr, .int .i64 j.nd, .int .i64 j.na, .int .i64 j.nb, .int .i64 j.nc, .int .i64 j.la, .int .i64 j.lb, .int .i64 j.lc, .int .i64 j.wl, .int .i64 j.lv, .int .i64 n, .int .i64 a, .int .i64 b, .int .i64 c]] w fun e w' => e = .returned (.bool true) ∧ Below w.heap.size w w') := hok
  clear hok h
  have l0 := numL_len j.id
  obtain ⟨N0, hN0, C0⟩ : ∃ N, Hid (N = (⟨(numL j.id).toArray⟩ : ByteArray)) ∧ ∀ W, Calls Tryz.prog 18 #[.int .i64 j.id] W fun e w' => e = .returned (.string N) ∧ Below W.heap.size W w' := ⟨_, hid_rfl, fun W => specNumText_all j.id W⟩
  have l1 := numL_len j.pr
  obtain ⟨N1, hN1, C1⟩ : ∃ N, Hid (N = (⟨(numL j.pr).toArray⟩ : ByteArray)) ∧ ∀ W, Calls Tryz.prog 18 #[.int .i64 j.pr] W fun e w' => e = .returned (.string N) ∧ Below W.heap.size W w' := ⟨_, hid_rfl, fun W => specNumText_all j.pr W⟩
  have l2 := numL_len j.nd
  obtain ⟨N2, hN2, C2⟩ : ∃ N, Hid (N = (⟨(numL j.nd).toArray⟩ : ByteArray)) ∧ ∀ W, Calls Tryz.prog 18 #[.int .i64 j.nd] W fun e w' => e = .returned (.string N) ∧ Below W.heap.size W w' := ⟨_, hid_rfl, fun W => specNumText_all j.nd W⟩
  have l3 := vt_len j.na j.nb j.nc
  obtain ⟨N3, hN3, C3⟩ : ∃ N, Hid (N = (⟨(vtL j.na j.nb j.nc).toArray⟩ : ByteArray)) ∧ ∀ W, Calls Tryz.prog 35 #[.agg #[.int .i64 j.na, .int .i64 j.nb, .int .i64 j.nc]] W fun e w' => e = .returned (.string N) ∧ Below W.heap.size W w' := ⟨_, hid_rfl, fun W => specVecText_all j.na j.nb j.nc W⟩
  have l4 := vt_len j.la j.lb j.lc
  obtain ⟨N4, hN4, C4⟩ : ∃ N, Hid (N = (⟨(vtL j.la j.lb j.lc).toArray⟩ : ByteArray)) ∧ ∀ W, Calls Tryz.prog 35 #[.agg #[.int .i64 j.la, .int .i64 j.lb, .int .i64 j.lc]] W fun e w' => e = .returned (.string N) ∧ Below W.heap.size W w' := ⟨_, hid_rfl, fun W => specVecText_all j.la j.lb j.lc W⟩
  have l5 := numL_len j.wl
  obtain ⟨N5, hN5, C5⟩ : ∃ N, Hid (N = (⟨(numL j.wl).toArray⟩ : ByteArray)) ∧ ∀ W, Calls Tryz.prog 18 #[.int .i64 j.wl] W fun e w' => e = .returned (.string N) ∧ Below W.heap.size W w' := ⟨_, hid_rfl, fun W => specNumText_all j.wl W⟩
  have l6 := numL_len j.lv
  obtain ⟨N6, hN6, C6⟩ : ∃ N, Hid (N = (⟨(numL j.lv).toArray⟩ : ByteArray)) ∧ ∀ W, Calls Tryz.prog 18 #[.int .i64 j.lv] W fun e w' => e = .returned (.string N) ∧ Below W.heap.size W w' := ⟨_, hid_rfl, fun W => specNumText_all j.lv W⟩
  have k0 : (kwL 1).length = 6 := rfl
  obtain ⟨y1, hy1, A1⟩ : ∃ y, Hid (y = (⟨(kwL 1 ++ [32]).toArray⟩ : ByteArray)) ∧ ∀ W, (Op.stringOp .add ⟨#[115,117,98,109,105,116]⟩ ⟨#[32]⟩).run Tryz.prog W = .ok (.string y) W := ⟨_, hid_rfl, add_l (kwL 1) [32] (by decide) (by decide)⟩
  obtain ⟨y2, hy2, A2⟩ : ∃ y, Hid (y = (⟨(kwL 1 ++ [32] ++ numL j.id).toArray⟩ : ByteArray)) ∧ ∀ W, (Op.stringOp .add y1 N0).run Tryz.prog W = .ok (.string y) W := ⟨_, hid_rfl, by rw [hy1.out, hN0.out]; exact add_l _ (numL j.id) (by simp only [List.length_append, List.length_cons, List.length_nil]; omega) (by omega)⟩
  obtain ⟨y3, hy3, A3⟩ : ∃ y, Hid (y = (⟨(kwL 1 ++ [32] ++ numL j.id ++ [32]).toArray⟩ : ByteArray)) ∧ ∀ W, (Op.stringOp .add y2 ⟨#[32]⟩).run Tryz.prog W = .ok (.string y) W := ⟨_, hid_rfl, by rw [hy2.out]; exact add_l _ [32] (by simp only [List.length_append, List.length_cons, List.length_nil]; omega) (by decide)⟩
  obtain ⟨y4, hy4, A4⟩ : ∃ y, Hid (y = (⟨(kwL 1 ++ [32] ++ numL j.id ++ [32] ++ numL j.pr).toArray⟩ : ByteArray)) ∧ ∀ W, (Op.stringOp .add y3 N1).run Tryz.prog W = .ok (.string y) W := ⟨_, hid_rfl, by rw [hy3.out, hN1.out]; exact add_l _ (numL j.pr) (by simp only [List.length_append, List.length_cons, List.length_nil]; omega) (by omega)⟩
  obtain ⟨y5, hy5, A5⟩ : ∃ y, Hid (y = (⟨(kwL 1 ++ [32] ++ numL j.id ++ [32] ++ numL j.pr ++ [32]).toArray⟩ : ByteArray)) ∧ ∀ W, (Op.stringOp .add y4 ⟨#[32]⟩).run Tryz.prog W = .ok (.string y) W := ⟨_, hid_rfl, by rw [hy4.out]; exact add_l _ [32] (by simp only [List.length_append, List.length_cons, List.length_nil]; omega) (by decide)⟩
  obtain ⟨y6, hy6, A6⟩ : ∃ y, Hid (y = (⟨(kwL 1 ++ [32] ++ numL j.id ++ [32] ++ numL j.pr ++ [32] ++ numL j.nd).toArray⟩ : ByteArray)) ∧ ∀ W, (Op.stringOp .add y5 N2).run Tryz.prog W = .ok (.string y) W := ⟨_, hid_rfl, by rw [hy5.out, hN2.out]; exact add_l _ (numL j.nd) (by simp only [List.length_append, List.length_cons, List.length_nil]; omega) (by omega)⟩
  obtain ⟨y7, hy7, A7⟩ : ∃ y, Hid (y = (⟨(kwL 1 ++ [32] ++ numL j.id ++ [32] ++ numL j.pr ++ [32] ++ numL j.nd ++ [32]).toArray⟩ : ByteArray)) ∧ ∀ W, (Op.stringOp .add y6 ⟨#[32]⟩).run Tryz.prog W = .ok (.string y) W := ⟨_, hid_rfl, by rw [hy6.out]; exact add_l _ [32] (by simp only [List.length_append, List.length_cons, List.length_nil]; omega) (by decide)⟩
  obtain ⟨y8, hy8, A8⟩ : ∃ y, Hid (y = (⟨(kwL 1 ++ [32] ++ numL j.id ++ [32] ++ numL j.pr ++ [32] ++ numL j.nd ++ [32] ++ vtL j.na j.nb j.nc).toArray⟩ : ByteArray)) ∧ ∀ W, (Op.stringOp .add y7 N3).run Tryz.prog W = .ok (.string y) W := ⟨_, hid_rfl, by rw [hy7.out, hN3.out]; exact add_l _ (vtL j.na j.nb j.nc) (by simp only [List.length_append, List.length_cons, List.length_nil]; omega) (by omega)⟩
  obtain ⟨y9, hy9, A9⟩ : ∃ y, Hid (y = (⟨(kwL 1 ++ [32] ++ numL j.id ++ [32] ++ numL j.pr ++ [32] ++ numL j.nd ++ [32] ++ vtL j.na j.nb j.nc ++ [32]).toArray⟩ : ByteArray)) ∧ ∀ W, (Op.stringOp .add y8 ⟨#[32]⟩).run Tryz.prog W = .ok (.string y) W := ⟨_, hid_rfl, by rw [hy8.out]; exact add_l _ [32] (by simp only [List.length_append, List.length_cons, List.length_nil]; omega) (by decide)⟩
  obtain ⟨y10, hy10, A10⟩ : ∃ y, Hid (y = (⟨(kwL 1 ++ [32] ++ numL j.id ++ [32] ++ numL j.pr ++ [32] ++ numL j.nd ++ [32] ++ vtL j.na j.nb j.nc ++ [32] ++ vtL j.la j.lb j.lc).toArray⟩ : ByteArray)) ∧ ∀ W, (Op.stringOp .add y9 N4).run Tryz.prog W = .ok (.string y) W := ⟨_, hid_rfl, by rw [hy9.out, hN4.out]; exact add_l _ (vtL j.la j.lb j.lc) (by simp only [List.length_append, List.length_cons, List.length_nil]; omega) (by omega)⟩
  obtain ⟨y11, hy11, A11⟩ : ∃ y, Hid (y = (⟨(kwL 1 ++ [32] ++ numL j.id ++ [32] ++ numL j.pr ++ [32] ++ numL j.nd ++ [32] ++ vtL j.na j.nb j.nc ++ [32] ++ vtL j.la j.lb j.lc ++ [32]).toArray⟩ : ByteArray)) ∧ ∀ W, (Op.stringOp .add y10 ⟨#[32]⟩).run Tryz.prog W = .ok (.string y) W := ⟨_, hid_rfl, by rw [hy10.out]; exact add_l _ [32] (by simp only [List.length_append, List.length_cons, List.length_nil]; omega) (by decide)⟩
  obtain ⟨y12, hy12, A12⟩ : ∃ y, Hid (y = (⟨(kwL 1 ++ [32] ++ numL j.id ++ [32] ++ numL j.pr ++ [32] ++ numL j.nd ++ [32] ++ vtL j.na j.nb j.nc ++ [32] ++ vtL j.la j.lb j.lc ++ [32] ++ numL j.wl).toArray⟩ : ByteArray)) ∧ ∀ W, (Op.stringOp .add y11 N5).run Tryz.prog W = .ok (.string y) W := ⟨_, hid_rfl, by rw [hy11.out, hN5.out]; exact add_l _ (numL j.wl) (by simp only [List.length_append, List.length_cons, List.length_nil]; omega) (by omega)⟩
  obtain ⟨y13, hy13, A13⟩ : ∃ y, Hid (y = (⟨(kwL 1 ++ [32] ++ numL j.id ++ [32] ++ numL j.pr ++ [32] ++ numL j.nd ++ [32] ++ vtL j.na j.nb j.nc ++ [32] ++ vtL j.la j.lb j.lc ++ [32] ++ numL j.wl ++ [32]).toArray⟩ : ByteArray)) ∧ ∀ W, (Op.stringOp .add y12 ⟨#[32]⟩).run Tryz.prog W = .ok (.string y) W := ⟨_, hid_rfl, by rw [hy12.out]; exact add_l _ [32] (by simp only [List.length_append, List.length_cons, List.length_nil]; omega) (by decide)⟩
  obtain ⟨y14, hy14, A14⟩ : ∃ y, Hid (y = (⟨(kwL 1 ++ [32] ++ numL j.id ++ [32] ++ numL j.pr ++ [32] ++ numL j.nd ++ [32] ++ vtL j.na j.nb j.nc ++ [32] ++ vtL j.la j.lb j.lc ++ [32] ++ numL j.wl ++ [32] ++ numL j.lv).toArray⟩ : ByteArray)) ∧ ∀ W, (Op.stringOp .add y13 N6).run Tryz.prog W = .ok (.string y) W := ⟨_, hid_rfl, by rw [hy13.out, hN6.out]; exact add_l _ (numL j.lv) (by simp only [List.length_append, List.length_cons, List.length_nil]; omega) (by omega)⟩
  have HE : Hid (y14 = (⟨(Lib.join (cwL 1 j n a b c) [32]).toArray⟩ : ByteArray)) := by show _ = _; rw [hy14.out]; simp [cwL, jwL, Lib.join]
  clear hy1 hy2 hy3 hy4 hy5 hy6 hy7 hy8 hy9 hy10 hy11 hy12 hy13 hy14 hN0 hN1 hN2 hN3 hN4 hN5 hN6 l0 l1 l2 l3 l4 l5 l6 k0
  go_enter Tryz.func16, Tryz.ntmps16
  go_wp2_with (refine stay_load 28 ?_)
  refine ⟨?_⟩
  have HR : Hid (Row (w.alloc (.cells #[.int .i64 1, .int .i64 j.id, .int .i64 j.pr, .int .i64 j.nd, .int .i64 j.na, .int .i64 j.nb, .int .i64 j.nc, .int .i64 j.la, .int .i64 j.lb, .int .i64 j.lc, .int .i64 j.wl, .int .i64 j.lv, .int .i64 n, .int .i64 a, .int .i64 b, .int .i64 c] 28)) w.heap.size [.int .i64 1, .int .i64 j.id, .int .i64 j.pr, .int .i64 j.nd, .int .i64 j.na, .int .i64 j.nb, .int .i64 j.nc, .int .i64 j.la, .int .i64 j.lb, .int .i64 j.lc, .int .i64 j.wl, .int .i64 j.lv, .int .i64 n, .int .i64 a, .int .i64 b, .int .i64 c]) := row_fresh w [.int .i64 1, .int .i64 j.id, .int .i64 j.pr, .int .i64 j.nd, .int .i64 j.na, .int .i64 j.nb, .int .i64 j.nc, .int .i64 j.la, .int .i64 j.lb, .int .i64 j.lc, .int .i64 j.wl, .int .i64 j.lv, .int .i64 n, .int .i64 a, .int .i64 b, .int .i64 c] 28
  have HB : Hid (Below w.heap.size w (w.alloc (.cells #[.int .i64 1, .int .i64 j.id, .int .i64 j.pr, .int .i64 j.nd, .int .i64 j.na, .int .i64 j.nb, .int .i64 j.nc, .int .i64 j.la, .int .i64 j.lb, .int .i64 j.lc, .int .i64 j.wl, .int .i64 j.lv, .int .i64 n, .int .i64 a, .int .i64 b, .int .i64 c] 28))) := low_alloc _ _
  generalize w.alloc (.cells #[.int .i64 1, .int .i64 j.id, .int .i64 j.pr, .int .i64 j.nd, .int .i64 j.na, .int .i64 j.nb, .int .i64 j.nc, .int .i64 j.la, .int .i64 j.lb, .int .i64 j.lc, .int .i64 j.wl, .int .i64 j.lv, .int .i64 n, .int .i64 a, .int .i64 b, .int .i64 c] 28) = w0 at HR HB ⊢
  refine wpList_load_mid rfl 28 _ rfl w.heap.size 0 rfl [.int .i64 1, .int .i64 j.id, .int .i64 j.pr, .int .i64 j.nd, .int .i64 j.na, .int .i64 j.nb, .int .i64 j.nc, .int .i64 j.la, .int .i64 j.lb, .int .i64 j.lc, .int .i64 j.wl, .int .i64 j.lv, .int .i64 n, .int .i64 a, .int .i64 b, .int .i64 c] _ HR.out.all Tryz.underlying28 rfl szCmdS ?_
  go_wp2_with fail
  refine (HK.out _).mono ?_
  rintro e w1 ⟨rfl, hb⟩
  have HR1 : Hid (Row w1 w.heap.size [.int .i64 1, .int .i64 j.id, .int .i64 j.pr, .int .i64 j.nd, .int .i64 j.na, .int .i64 j.nb, .int .i64 j.nc, .int .i64 j.la, .int .i64 j.lb, .int .i64 j.lc, .int .i64 j.wl, .int .i64 j.lv, .int .i64 n, .int .i64 a, .int .i64 b, .int .i64 c]) := HR.out.below hb
  have HB1 : Hid (Below w.heap.size w w1) := below_then HB.out hb
  clear hb HR HB HK
  go_wp2_with fail
  have HD : Hid (Below w1.heap.size w1 w1.drew) := low_drew w1
  have HC0 : Hid (w1.cell? ⟨w.heap.size, 0, none⟩ = some (.int .i64 1)) := HR1.out.cell 0 _ rfl
  have hwl : w.heap.size < w1.heap.size := HR1.out.lt
  have HR1d : Hid (Row w1.drew w.heap.size [.int .i64 1, .int .i64 j.id, .int .i64 j.pr, .int .i64 j.nd, .int .i64 j.na, .int .i64 j.nb, .int .i64 j.nc, .int .i64 j.la, .int .i64 j.lb, .int .i64 j.lc, .int .i64 j.wl, .int .i64 j.lv, .int .i64 n, .int .i64 a, .int .i64 b, .int .i64 c]) := HR1.out.below HD.out
  have HB1d : Hid (Below w.heap.size w w1.drew) := below_then HB1.out HD.out
  have c1 := HR1d.out.cell 0 _ rfl
  go_region_with (first
    | (go_at_call 34; refine (l08Words_c w1.drew).mono ?_; rintro e w2 ⟨g, rfl, hg, hr, hb⟩; have g2 := hr.cell 1 _ rfl; have HB2 : Hid (Below w.heap.size w w2) := below_then HB1d.out hb; have HR2 : Hid (Row w2 w.heap.size [.int .i64 1, .int .i64 j.id, .int .i64 j.pr, .int .i64 j.nd, .int .i64 j.na, .int .i64 j.nb, .int .i64 j.nc, .int .i64 j.la, .int .i64 j.lb, .int .i64 j.lc, .int .i64 j.wl, .int .i64 j.lv, .int .i64 n, .int .i64 a, .int .i64 b, .int .i64 c]) := HR1d.out.below hb; have c2 := HR2.out.cell 0 _ rfl; clear hr hb))
  all_goals
    clear g2 c1 c2 HR1 HB1 HC0 HD HR1d HB1d hg
    go_wp2_with (refine stay_load 26 ?_)
    refine ⟨?_⟩
    refine wpList_load_mid rfl 26 _ rfl w.heap.size 1 rfl [.int .i64 j.id, .int .i64 j.pr, .int .i64 j.nd, .int .i64 j.na, .int .i64 j.nb, .int .i64 j.nc, .int .i64 j.la, .int .i64 j.lb, .int .i64 j.lc, .int .i64 j.wl, .int .i64 j.lv] _ (HR2.out.sub 1 11) Tryz.underlying26 rfl szJobS' ?_
    have HZ := row_fresh w2 [.int .i64 0, .int .i64 0, .int .i64 0, .int .i64 0, .int .i64 0, .int .i64 0, .int .i64 0, .int .i64 0, .int .i64 0, .int .i64 0, .int .i64 0] 26
    go_wp2_with (refine stay_store 26 ?_)
    refine ⟨?_⟩
    refine wpList_store_mid rfl 26 _ _ rfl w2.heap.size 0 _ rfl rfl (HZ.room 0 11 (by simp)) szJobS' (by simp [Value.oneCell']) ?_
    have HJ3 : Hid (Row ((w2.alloc (.cells #[.int .i64 0, .int .i64 0, .int .i64 0, .int .i64 0, .int .i64 0, .int .i64 0, .int .i64 0, .int .i64 0, .int .i64 0, .int .i64 0, .int .i64 0] 26)).setCells w2.heap.size 0 (#[.int .i64 j.id, .int .i64 j.pr, .int .i64 j.nd, .int .i64 j.na, .int .i64 j.nb, .int .i64 j.nc, .int .i64 j.la, .int .i64 j.lb, .int .i64 j.lc, .int .i64 j.wl, .int .i64 j.lv] : Array Value).toList) w2.heap.size [.int .i64 j.id, .int .i64 j.pr, .int .i64 j.nd, .int .i64 j.na, .int .i64 j.nb, .int .i64 j.nc, .int .i64 j.la, .int .i64 j.lb, .int .i64 j.lc, .int .i64 j.wl, .int .i64 j.lv]) := Row.setCs _ 0 HZ (by simp)
    have HB3 : Hid (Below w2.heap.size w2 ((w2.alloc (.cells #[.int .i64 0, .int .i64 0, .int .i64 0, .int .i64 0, .int .i64 0, .int .i64 0, .int .i64 0, .int .i64 0, .int .i64 0, .int .i64 0, .int .i64 0] 26)).setCells w2.heap.size 0 (#[.int .i64 j.id, .int .i64 j.pr, .int .i64 j.nd, .int .i64 j.na, .int .i64 j.nb, .int .i64 j.nc, .int .i64 j.la, .int .i64 j.lb, .int .i64 j.lc, .int .i64 j.wl, .int .i64 j.lv] : Array Value).toList)) := below_setCs (Nat.le_refl _) _ _ (low_alloc _ _)
    have HR3 : Hid (Row ((w2.alloc (.cells #[.int .i64 0, .int .i64 0, .int .i64 0, .int .i64 0, .int .i64 0, .int .i64 0, .int .i64 0, .int .i64 0, .int .i64 0, .int .i64 0, .int .i64 0] 26)).setCells w2.heap.size 0 (#[.int .i64 j.id, .int .i64 j.pr, .int .i64 j.nd, .int .i64 j.na, .int .i64 j.nb, .int .i64 j.nc, .int .i64 j.la, .int .i64 j.lb, .int .i64 j.lc, .int .i64 j.wl, .int .i64 j.lv] : Array Value).toList) w.heap.size [.int .i64 1, .int .i64 j.id, .int .i64 j.pr, .int .i64 j.nd, .int .i64 j.na, .int .i64 j.nb, .int .i64 j.nc, .int .i64 j.la, .int .i64 j.lb, .int .i64 j.lc, .int .i64 j.wl, .int .i64 j.lv, .int .i64 n, .int .i64 a, .int .i64 b, .int .i64 c]) := HR2.out.below HB3.out
    have HB4 : Hid (Below w.heap.size w ((w2.alloc (.cells #[.int .i64 0, .int .i64 0, .int .i64 0, .int .i64 0, .int .i64 0, .int .i64 0, .int .i64 0, .int .i64 0, .int .i64 0, .int .i64 0, .int .i64 0] 26)).setCells w2.heap.size 0 (#[.int .i64 j.id, .int .i64 j.pr, .int .i64 j.nd, .int .i64 j.na, .int .i64 j.nb, .int .i64 j.nc, .int .i64 j.la, .int .i64 j.lb, .int .i64 j.lc, .int .i64 j.wl, .int .i64 j.lv] : Array Value).toList)) := below_then HB2.out HB3.out
    clear HZ HB3 HR2 HB2
    generalize (w2.alloc (.cells #[.int .i64 0, .int .i64 0, .int .i64 0, .int .i64 0, .int .i64 0, .int .i64 0, .int .i64 0, .int .i64 0, .int .i64 0, .int .i64 0, .int .i64 0] 26)).setCells w2.heap.size 0 _ = w3 at HJ3 HR3 HB4 ⊢
    generalize w2.heap.size = q at HJ3 ⊢
    have c3 := HR3.out.cell 0 _ rfl
    go_wp2_with fail
    clear c3
    have hsome := beh_some w3
    have m0 := Beh.row HJ3.out 0 _ rfl
    have m1 := Beh.row HJ3.out 1 _ rfl
    have m2 := Beh.row HJ3.out 2 _ rfl
    have m3 := Beh.row HJ3.out 3 _ rfl
    have m4 := Beh.row HJ3.out 4 _ rfl
    have m5 := Beh.row HJ3.out 5 _ rfl
    have m6 := Beh.row HJ3.out 6 _ rfl
    have m7 := Beh.row HJ3.out 7 _ rfl
    have m8 := Beh.row HJ3.out 8 _ rfl
    have m9 := Beh.row HJ3.out 9 _ rfl
    have m10 := Beh.row HJ3.out 10 _ rfl
    refine wp_region_beh (by kernel_rfl) (by kernel_rfl) ?_
    repeat (go_big_quiet_step (first | (go_at_call_of 18 (Value.int IntKind.i64 j.id); with_reducible exact calls_beh (C0 _)) | (go_at_call_of 18 (Value.int IntKind.i64 j.pr); with_reducible exact calls_beh (C1 _)) | (go_at_call_of 18 (Value.int IntKind.i64 j.nd); with_reducible exact calls_beh (C2 _)) | (go_at_call_of 35 (Value.agg #[Value.int IntKind.i64 j.na, Value.int IntKind.i64 j.nb, Value.int IntKind.i64 j.nc]); with_reducible exact calls_beh (C3 _)) | (go_at_call_of 35 (Value.agg #[Value.int IntKind.i64 j.la, Value.int IntKind.i64 j.lb, Value.int IntKind.i64 j.lc]); with_reducible exact calls_beh (C4 _)) | (go_at_call_of 18 (Value.int IntKind.i64 j.wl); with_reducible exact calls_beh (C5 _)) | (go_at_call_of 18 (Value.int IntKind.i64 j.lv); with_reducible exact calls_beh (C6 _))))
    refine wpQuiet_nil ?_
    rintro ⟨w4, hb4⟩
    have HB5 : Hid (Below w.heap.size w w4) := below_then HB4.out hb4
    clear HB4 HJ3
    go_wp2_with fail
    go_ret
    exact ⟨by rw [HE.out]; rfl, HB5.out⟩
end Go.Proofs.YtejleghdgdbbnaaGreatDoor
