/- A command read of words: the program's. -/
import Derived.Test.YtejleghdgdbbnaaGreatDoorMgUa
namespace Go.Proofs.YtejleghdgdbbnaaGreatDoor
open Go.ChangeShapes Go.WideShapes Go.ChangeAt Go.RowKit

/-- A command's numbers. -/
structure Cm where
  (s : Int) (j : Jb) (n a b c : Int)
def Cm.cells (x : Cm) : List Value := [.int .i64 x.s, .int .i64 x.j.id, .int .i64 x.j.pr, .int .i64 x.j.nd, .int .i64 x.j.na, .int .i64 x.j.nb, .int .i64 x.j.nc, .int .i64 x.j.la, .int .i64 x.j.lb, .int .i64 x.j.lc, .int .i64 x.j.wl, .int .i64 x.j.lv, .int .i64 x.n, .int .i64 x.a, .int .i64 x.b, .int .i64 x.c]
/-- What words tell of a command. -/
def rdC (P : List (List UInt8)) : Cm :=
  if P.length = 8 ∧ kdN (P.getD 0 []) = 1 then ⟨1, jrd (P.getD 1 []) (P.getD 2 []) (P.getD 3 []) (P.getD 4 []) (P.getD 5 []) (P.getD 6 []) (P.getD 7 []), 0, 0, 0, 0⟩
  else if P.length = 2 ∧ kdN (P.getD 0 []) = 6 then ⟨6, jb0, 0, (tvR (P.getD 1 [])).1.1, (tvR (P.getD 1 [])).1.2.1, (tvR (P.getD 1 [])).1.2.2⟩
  else if P.length = 2 then ⟨kdN (P.getD 0 []), jb0, (tnR (P.getD 1 [])).1, 0, 0, 0⟩
  else ⟨kdN (P.getD 0 []), jb0, 0, 0, 0, 0⟩

theorem kdN_le (p : List UInt8) : kdN p ≤ 7 := by unfold kdN; repeat' (first | omega | split)
set_option maxHeartbeats 4000000 in
set_option maxRecDepth 100000 in
theorem readCmd_d (g cap : Nat) (x0 : List UInt8) (r : List (List UInt8)) (h2 : r.length ≠ 1) (h8 : ¬ (r.length = 7 ∧ kdN x0 = 1)) (w : World) (h : Row w g (strs (x0 :: r))) (hk : KwT w) :
    Calls Tryz.prog 60 #[.slice (some ⟨g, 0, none⟩) (r.length + 1 : Nat) cap] w fun e w' => e = .returned (.agg #[.int .i64 (kdN x0), .int .i64 0, .int .i64 0, .int .i64 0, .int .i64 0, .int .i64 0, .int .i64 0, .int .i64 0, .int .i64 0, .int .i64 0, .int .i64 0, .int .i64 0, .int .i64 0, .int .i64 0, .int .i64 0, .int .i64 0]) ∧ Below w.heap.size w w' := by
  have HK : Hid (KwT w) := hk
  have s0 := h.cell 0 _ rfl
  have hgl := h.lt
  have hgn : g ≠ w.heap.size := by omega
  have hgn1 : g ≠ w.heap.size + 1 := by omega
  clear h hk
  obtain ⟨k, hkd, C0⟩ : ∃ k : Nat, Hid (kdN x0 = k) ∧ ∀ W, KwT W → Calls Tryz.prog 72 #[.string ⟨x0.toArray⟩] W fun e w' => e = .returned (.int .i64 k) ∧ Below W.heap.size W w' := ⟨_, hid_rfl, fun W hW => kindOf_c x0 W hW⟩
  rw [hkd.out] at h8 ⊢
  clear hkd
  generalize hm : r.length + 1 = m
  have n2 : ((m : Int) == 2) = false := by rw [beq_eq_false_iff_ne]; omega
  go_enter Tryz.func60, Tryz.ntmps60
  go_wp2_with fail
  have HR : Hid (Row (w.alloc (.cells #[.int .i64 0, .int .i64 0, .int .i64 0, .int .i64 0, .int .i64 0, .int .i64 0, .int .i64 0, .int .i64 0, .int .i64 0, .int .i64 0, .int .i64 0, .int .i64 0, .int .i64 0, .int .i64 0, .int .i64 0, .int .i64 0] 28)) w.heap.size [.int .i64 0, .int .i64 0, .int .i64 0, .int .i64 0, .int .i64 0, .int .i64 0, .int .i64 0, .int .i64 0, .int .i64 0, .int .i64 0, .int .i64 0, .int .i64 0, .int .i64 0, .int .i64 0, .int .i64 0, .int .i64 0]) := row_fresh w [.int .i64 0, .int .i64 0, .int .i64 0, .int .i64 0, .int .i64 0, .int .i64 0, .int .i64 0, .int .i64 0, .int .i64 0, .int .i64 0, .int .i64 0, .int .i64 0, .int .i64 0, .int .i64 0, .int .i64 0, .int .i64 0] 28
  have HB : Hid (Below w.heap.size w (w.alloc (.cells #[.int .i64 0, .int .i64 0, .int .i64 0, .int .i64 0, .int .i64 0, .int .i64 0, .int .i64 0, .int .i64 0, .int .i64 0, .int .i64 0, .int .i64 0, .int .i64 0, .int .i64 0, .int .i64 0, .int .i64 0, .int .i64 0] 28))) := low_alloc _ _
  generalize w.alloc (.cells #[.int .i64 0, .int .i64 0, .int .i64 0, .int .i64 0, .int .i64 0, .int .i64 0, .int .i64 0, .int .i64 0, .int .i64 0, .int .i64 0, .int .i64 0, .int .i64 0, .int .i64 0, .int .i64 0, .int .i64 0, .int .i64 0] 28) = u0 at HR HB ⊢
  refine (C0 _ (HK.out.on HB.out)).mono ?_
  rintro e w1 ⟨rfl, hb⟩
  replace HR : Hid (Row w1 w.heap.size [.int .i64 0, .int .i64 0, .int .i64 0, .int .i64 0, .int .i64 0, .int .i64 0, .int .i64 0, .int .i64 0, .int .i64 0, .int .i64 0, .int .i64 0, .int .i64 0, .int .i64 0, .int .i64 0, .int .i64 0, .int .i64 0]) := HR.out.below hb
  replace HB : Hid (Below w.heap.size w w1) := below_then HB.out hb
  clear hb C0 s0
  have HR0 := HR
  by_cases hm8 : m = 8
  · have hk1 : ((k : Int) == 1) = false := by rw [beq_eq_false_iff_ne]; omega
    have n8 : ((m : Int) == 8) = true := by simp; omega
    go_wp2_with (refine stay_load 28 ?_)
    refine ⟨?_⟩
    have HJ : Hid (Row (w1.alloc (.cells #[.int .i64 k, .int .i64 0, .int .i64 0, .int .i64 0, .int .i64 0, .int .i64 0, .int .i64 0, .int .i64 0, .int .i64 0, .int .i64 0, .int .i64 0, .int .i64 0, .int .i64 0, .int .i64 0, .int .i64 0, .int .i64 0] 28)) w1.heap.size [.int .i64 k, .int .i64 0, .int .i64 0, .int .i64 0, .int .i64 0, .int .i64 0, .int .i64 0, .int .i64 0, .int .i64 0, .int .i64 0, .int .i64 0, .int .i64 0, .int .i64 0, .int .i64 0, .int .i64 0, .int .i64 0]) := row_fresh w1 [.int .i64 k, .int .i64 0, .int .i64 0, .int .i64 0, .int .i64 0, .int .i64 0, .int .i64 0, .int .i64 0, .int .i64 0, .int .i64 0, .int .i64 0, .int .i64 0, .int .i64 0, .int .i64 0, .int .i64 0, .int .i64 0] 28
    replace HR : Hid (Row (w1.alloc (.cells #[.int .i64 k, .int .i64 0, .int .i64 0, .int .i64 0, .int .i64 0, .int .i64 0, .int .i64 0, .int .i64 0, .int .i64 0, .int .i64 0, .int .i64 0, .int .i64 0, .int .i64 0, .int .i64 0, .int .i64 0, .int .i64 0] 28)) w.heap.size [.int .i64 0, .int .i64 0, .int .i64 0, .int .i64 0, .int .i64 0, .int .i64 0, .int .i64 0, .int .i64 0, .int .i64 0, .int .i64 0, .int .i64 0, .int .i64 0, .int .i64 0, .int .i64 0, .int .i64 0, .int .i64 0]) := HR.out.below (low_alloc _ _)
    have hq : w.heap.size ≤ w1.heap.size := HB.out.size
    have hql : w.heap.size < w1.heap.size := by have := HR0.out.lt; omega
    replace HB : Hid (Below w.heap.size w (w1.alloc (.cells #[.int .i64 k, .int .i64 0, .int .i64 0, .int .i64 0, .int .i64 0, .int .i64 0, .int .i64 0, .int .i64 0, .int .i64 0, .int .i64 0, .int .i64 0, .int .i64 0, .int .i64 0, .int .i64 0, .int .i64 0, .int .i64 0] 28))) := behind_alloc HB.out _
    clear HR0
    generalize w1.alloc (.cells #[.int .i64 k, .int .i64 0, .int .i64 0, .int .i64 0, .int .i64 0, .int .i64 0, .int .i64 0, .int .i64 0, .int .i64 0, .int .i64 0, .int .i64 0, .int .i64 0, .int .i64 0, .int .i64 0, .int .i64 0, .int .i64 0] 28) = u7 at HR HB HJ ⊢
    generalize w1.heap.size = q at HJ hq hql ⊢
    refine wpList_load_mid rfl 28 _ rfl q 0 rfl [.int .i64 k, .int .i64 0, .int .i64 0, .int .i64 0, .int .i64 0, .int .i64 0, .int .i64 0, .int .i64 0, .int .i64 0, .int .i64 0, .int .i64 0, .int .i64 0, .int .i64 0, .int .i64 0, .int .i64 0, .int .i64 0] _ HJ.out.all Tryz.underlying28 rfl szCmdC ?_
    go_wp2_with (refine stay_store 28 ?_)
    refine ⟨?_⟩
    refine wpList_store_mid rfl 28 _ _ rfl w.heap.size 0 _ rfl rfl (HR.out.room 0 16 (by simp)) szCmdC (by simp [Value.oneCell']) ?_
    replace HR : Hid (Row (u7.setCells w.heap.size 0 (#[.int .i64 k, .int .i64 0, .int .i64 0, .int .i64 0, .int .i64 0, .int .i64 0, .int .i64 0, .int .i64 0, .int .i64 0, .int .i64 0, .int .i64 0, .int .i64 0, .int .i64 0, .int .i64 0, .int .i64 0, .int .i64 0] : Array Value).toList) w.heap.size [.int .i64 k, .int .i64 0, .int .i64 0, .int .i64 0, .int .i64 0, .int .i64 0, .int .i64 0, .int .i64 0, .int .i64 0, .int .i64 0, .int .i64 0, .int .i64 0, .int .i64 0, .int .i64 0, .int .i64 0, .int .i64 0]) := Row.setCs _ 0 HR.out (by simp)
    replace HB : Hid (Below w.heap.size w (u7.setCells w.heap.size 0 (#[.int .i64 k, .int .i64 0, .int .i64 0, .int .i64 0, .int .i64 0, .int .i64 0, .int .i64 0, .int .i64 0, .int .i64 0, .int .i64 0, .int .i64 0, .int .i64 0, .int .i64 0, .int .i64 0, .int .i64 0, .int .i64 0] : Array Value).toList)) := below_setCs (Nat.le_refl _) _ _ HB.out
    generalize u7.setCells w.heap.size 0 _ = u8 at HR HB ⊢
    clear HJ
    go_wp2_with fail
    have r0 := HR.out.cell 0 _ rfl
    have r1 := HR.out.cell 1 _ rfl
    have r2 := HR.out.cell 2 _ rfl
    have r3 := HR.out.cell 3 _ rfl
    have r4 := HR.out.cell 4 _ rfl
    have r5 := HR.out.cell 5 _ rfl
    have r6 := HR.out.cell 6 _ rfl
    have r7 := HR.out.cell 7 _ rfl
    have r8 := HR.out.cell 8 _ rfl
    have r9 := HR.out.cell 9 _ rfl
    have r10 := HR.out.cell 10 _ rfl
    have r11 := HR.out.cell 11 _ rfl
    have r12 := HR.out.cell 12 _ rfl
    have r13 := HR.out.cell 13 _ rfl
    have r14 := HR.out.cell 14 _ rfl
    have r15 := HR.out.cell 15 _ rfl
    exact bodyPost_ret (v := .agg #[.int .i64 k, .int .i64 0, .int .i64 0, .int .i64 0, .int .i64 0, .int .i64 0, .int .i64 0, .int .i64 0, .int .i64 0, .int .i64 0, .int .i64 0, .int .i64 0, .int .i64 0, .int .i64 0, .int .i64 0, .int .i64 0]) (by simp [results, Tryz.results60, go_sem, *]) rfl ⟨rfl, HB.out⟩
  · have n8 : ((m : Int) == 8) = false := by rw [beq_eq_false_iff_ne]; omega
    go_wp2_with (refine stay_load 28 ?_)
    refine ⟨?_⟩
    have HJ : Hid (Row (w1.alloc (.cells #[.int .i64 k, .int .i64 0, .int .i64 0, .int .i64 0, .int .i64 0, .int .i64 0, .int .i64 0, .int .i64 0, .int .i64 0, .int .i64 0, .int .i64 0, .int .i64 0, .int .i64 0, .int .i64 0, .int .i64 0, .int .i64 0] 28)) w1.heap.size [.int .i64 k, .int .i64 0, .int .i64 0, .int .i64 0, .int .i64 0, .int .i64 0, .int .i64 0, .int .i64 0, .int .i64 0, .int .i64 0, .int .i64 0, .int .i64 0, .int .i64 0, .int .i64 0, .int .i64 0, .int .i64 0]) := row_fresh w1 [.int .i64 k, .int .i64 0, .int .i64 0, .int .i64 0, .int .i64 0, .int .i64 0, .int .i64 0, .int .i64 0, .int .i64 0, .int .i64 0, .int .i64 0, .int .i64 0, .int .i64 0, .int .i64 0, .int .i64 0, .int .i64 0] 28
    replace HR : Hid (Row (w1.alloc (.cells #[.int .i64 k, .int .i64 0, .int .i64 0, .int .i64 0, .int .i64 0, .int .i64 0, .int .i64 0, .int .i64 0, .int .i64 0, .int .i64 0, .int .i64 0, .int .i64 0, .int .i64 0, .int .i64 0, .int .i64 0, .int .i64 0] 28)) w.heap.size [.int .i64 0, .int .i64 0, .int .i64 0, .int .i64 0, .int .i64 0, .int .i64 0, .int .i64 0, .int .i64 0, .int .i64 0, .int .i64 0, .int .i64 0, .int .i64 0, .int .i64 0, .int .i64 0, .int .i64 0, .int .i64 0]) := HR.out.below (low_alloc _ _)
    have hq : w.heap.size ≤ w1.heap.size := HB.out.size
    have hql : w.heap.size < w1.heap.size := by have := HR0.out.lt; omega
    replace HB : Hid (Below w.heap.size w (w1.alloc (.cells #[.int .i64 k, .int .i64 0, .int .i64 0, .int .i64 0, .int .i64 0, .int .i64 0, .int .i64 0, .int .i64 0, .int .i64 0, .int .i64 0, .int .i64 0, .int .i64 0, .int .i64 0, .int .i64 0, .int .i64 0, .int .i64 0] 28))) := behind_alloc HB.out _
    clear HR0
    generalize w1.alloc (.cells #[.int .i64 k, .int .i64 0, .int .i64 0, .int .i64 0, .int .i64 0, .int .i64 0, .int .i64 0, .int .i64 0, .int .i64 0, .int .i64 0, .int .i64 0, .int .i64 0, .int .i64 0, .int .i64 0, .int .i64 0, .int .i64 0] 28) = u7 at HR HB HJ ⊢
    generalize w1.heap.size = q at HJ hq hql ⊢
    refine wpList_load_mid rfl 28 _ rfl q 0 rfl [.int .i64 k, .int .i64 0, .int .i64 0, .int .i64 0, .int .i64 0, .int .i64 0, .int .i64 0, .int .i64 0, .int .i64 0, .int .i64 0, .int .i64 0, .int .i64 0, .int .i64 0, .int .i64 0, .int .i64 0, .int .i64 0] _ HJ.out.all Tryz.underlying28 rfl szCmdC ?_
    go_wp2_with (refine stay_store 28 ?_)
    refine ⟨?_⟩
    refine wpList_store_mid rfl 28 _ _ rfl w.heap.size 0 _ rfl rfl (HR.out.room 0 16 (by simp)) szCmdC (by simp [Value.oneCell']) ?_
    replace HR : Hid (Row (u7.setCells w.heap.size 0 (#[.int .i64 k, .int .i64 0, .int .i64 0, .int .i64 0, .int .i64 0, .int .i64 0, .int .i64 0, .int .i64 0, .int .i64 0, .int .i64 0, .int .i64 0, .int .i64 0, .int .i64 0, .int .i64 0, .int .i64 0, .int .i64 0] : Array Value).toList) w.heap.size [.int .i64 k, .int .i64 0, .int .i64 0, .int .i64 0, .int .i64 0, .int .i64 0, .int .i64 0, .int .i64 0, .int .i64 0, .int .i64 0, .int .i64 0, .int .i64 0, .int .i64 0, .int .i64 0, .int .i64 0, .int .i64 0]) := Row.setCs _ 0 HR.out (by simp)
    replace HB : Hid (Below w.heap.size w (u7.setCells w.heap.size 0 (#[.int .i64 k, .int .i64 0, .int .i64 0, .int .i64 0, .int .i64 0, .int .i64 0, .int .i64 0, .int .i64 0, .int .i64 0, .int .i64 0, .int .i64 0, .int .i64 0, .int .i64 0, .int .i64 0, .int .i64 0, .int .i64 0] : Array Value).toList)) := below_setCs (Nat.le_refl _) _ _ HB.out
    generalize u7.setCells w.heap.size 0 _ = u8 at HR HB ⊢
    clear HJ
    go_wp2_with fail
    have r0 := HR.out.cell 0 _ rfl
    have r1 := HR.out.cell 1 _ rfl
    have r2 := HR.out.cell 2 _ rfl
    have r3 := HR.out.cell 3 _ rfl
    have r4 := HR.out.cell 4 _ rfl
    have r5 := HR.out.cell 5 _ rfl
    have r6 := HR.out.cell 6 _ rfl
    have r7 := HR.out.cell 7 _ rfl
    have r8 := HR.out.cell 8 _ rfl
    have r9 := HR.out.cell 9 _ rfl
    have r10 := HR.out.cell 10 _ rfl
    have r11 := HR.out.cell 11 _ rfl
    have r12 := HR.out.cell 12 _ rfl
    have r13 := HR.out.cell 13 _ rfl
    have r14 := HR.out.cell 14 _ rfl
    have r15 := HR.out.cell 15 _ rfl
    exact bodyPost_ret (v := .agg #[.int .i64 k, .int .i64 0, .int .i64 0, .int .i64 0, .int .i64 0, .int .i64 0, .int .i64 0, .int .i64 0, .int .i64 0, .int .i64 0, .int .i64 0, .int .i64 0, .int .i64 0, .int .i64 0, .int .i64 0, .int .i64 0]) (by simp [results, Tryz.results60, go_sem, *]) rfl ⟨rfl, HB.out⟩

set_option maxHeartbeats 4000000 in
set_option maxRecDepth 100000 in
theorem readCmd_n (g cap : Nat) (x0 x1 : List UInt8) (h6 : kdN x0 ≠ 6) (hl : x1.length ≤ 1048576) (w : World) (h : Row w g (strs [x0, x1])) (hk : KwT w) (env : Env w) :
    Calls Tryz.prog 60 #[.slice (some ⟨g, 0, none⟩) 2 cap] w fun e w' => e = .returned (.agg #[.int .i64 (kdN x0), .int .i64 0, .int .i64 0, .int .i64 0, .int .i64 0, .int .i64 0, .int .i64 0, .int .i64 0, .int .i64 0, .int .i64 0, .int .i64 0, .int .i64 0, .int .i64 (tnR x1).1, .int .i64 0, .int .i64 0, .int .i64 0]) ∧ Below w.heap.size w w' := by
  have HK : Hid (KwT w) := hk
  have HE : Hid (Env w) := env
  have H : Hid (Row w g (strs [x0, x1])) := h
  have s0 := h.cell 0 _ rfl
  have hgl := h.lt
  have hgn : g ≠ w.heap.size := by omega
  clear h hk env
  obtain ⟨k, hkd, C0⟩ : ∃ k : Nat, Hid (kdN x0 = k) ∧ ∀ W, KwT W → Calls Tryz.prog 72 #[.string ⟨x0.toArray⟩] W fun e w' => e = .returned (.int .i64 k) ∧ Below W.heap.size W w' := ⟨_, hid_rfl, fun W hW => kindOf_c x0 W hW⟩
  have z1 : (⟨x1.toArray⟩ : ByteArray).size ≤ 1048576 := by rw [ba_size]; exact hl
  obtain ⟨v1, b1, hv1, C1⟩ : ∃ v b, Hid ((tnR x1).1 = v) ∧ ∀ W, Env W → Calls Tryz.prog 39 #[.string ⟨x1.toArray⟩] W fun e w' => e = .returned (.tuple #[.int .i64 v, .bool b]) ∧ Below W.heap.size W w' := ⟨_, _, hid_rfl, fun W hW => implTextNum_p x1 W (by omega) hW.1 hW.2.1⟩
  rw [hkd.out] at h6 ⊢
  rw [hv1.out]
  have hk6 : ((k : Int) == 6) = false := by rw [beq_eq_false_iff_ne]; omega
  clear hkd hv1 z1 hl h6
  go_enter Tryz.func60, Tryz.ntmps60
  go_wp2_with fail
  have HR : Hid (Row (w.alloc (.cells #[.int .i64 0, .int .i64 0, .int .i64 0, .int .i64 0, .int .i64 0, .int .i64 0, .int .i64 0, .int .i64 0, .int .i64 0, .int .i64 0, .int .i64 0, .int .i64 0, .int .i64 0, .int .i64 0, .int .i64 0, .int .i64 0] 28)) w.heap.size [.int .i64 0, .int .i64 0, .int .i64 0, .int .i64 0, .int .i64 0, .int .i64 0, .int .i64 0, .int .i64 0, .int .i64 0, .int .i64 0, .int .i64 0, .int .i64 0, .int .i64 0, .int .i64 0, .int .i64 0, .int .i64 0]) := row_fresh w [.int .i64 0, .int .i64 0, .int .i64 0, .int .i64 0, .int .i64 0, .int .i64 0, .int .i64 0, .int .i64 0, .int .i64 0, .int .i64 0, .int .i64 0, .int .i64 0, .int .i64 0, .int .i64 0, .int .i64 0, .int .i64 0] 28
  have HB : Hid (Below w.heap.size w (w.alloc (.cells #[.int .i64 0, .int .i64 0, .int .i64 0, .int .i64 0, .int .i64 0, .int .i64 0, .int .i64 0, .int .i64 0, .int .i64 0, .int .i64 0, .int .i64 0, .int .i64 0, .int .i64 0, .int .i64 0, .int .i64 0, .int .i64 0] 28))) := low_alloc _ _
  generalize w.alloc (.cells #[.int .i64 0, .int .i64 0, .int .i64 0, .int .i64 0, .int .i64 0, .int .i64 0, .int .i64 0, .int .i64 0, .int .i64 0, .int .i64 0, .int .i64 0, .int .i64 0, .int .i64 0, .int .i64 0, .int .i64 0, .int .i64 0] 28) = u0 at HR HB ⊢
  refine (C0 _ (HK.out.on HB.out)).mono ?_
  rintro e w1 ⟨rfl, hb⟩
  replace HR : Hid (Row w1 w.heap.size [.int .i64 0, .int .i64 0, .int .i64 0, .int .i64 0, .int .i64 0, .int .i64 0, .int .i64 0, .int .i64 0, .int .i64 0, .int .i64 0, .int .i64 0, .int .i64 0, .int .i64 0, .int .i64 0, .int .i64 0, .int .i64 0]) := HR.out.below hb
  replace HB : Hid (Below w.heap.size w w1) := below_then HB.out hb
  clear hb C0 s0
  have HR0 := HR
  have hx1 := (H.out.below HB.out).cell 1 _ rfl
  have hgq : g ≠ w1.heap.size := by have := HB.out.size; omega
  have hgq2 : g < w1.heap.size := by have := HB.out.size; omega
  go_wp2_with fail
  clear hx1
  have HJ : Hid (Row (w1.alloc (.cells #[.int .i64 k, .int .i64 0, .int .i64 0, .int .i64 0, .int .i64 0, .int .i64 0, .int .i64 0, .int .i64 0, .int .i64 0, .int .i64 0, .int .i64 0, .int .i64 0, .int .i64 0, .int .i64 0, .int .i64 0, .int .i64 0] 28)) w1.heap.size [.int .i64 k, .int .i64 0, .int .i64 0, .int .i64 0, .int .i64 0, .int .i64 0, .int .i64 0, .int .i64 0, .int .i64 0, .int .i64 0, .int .i64 0, .int .i64 0, .int .i64 0, .int .i64 0, .int .i64 0, .int .i64 0]) := row_fresh w1 [.int .i64 k, .int .i64 0, .int .i64 0, .int .i64 0, .int .i64 0, .int .i64 0, .int .i64 0, .int .i64 0, .int .i64 0, .int .i64 0, .int .i64 0, .int .i64 0, .int .i64 0, .int .i64 0, .int .i64 0, .int .i64 0] 28
  replace HR : Hid (Row (w1.alloc (.cells #[.int .i64 k, .int .i64 0, .int .i64 0, .int .i64 0, .int .i64 0, .int .i64 0, .int .i64 0, .int .i64 0, .int .i64 0, .int .i64 0, .int .i64 0, .int .i64 0, .int .i64 0, .int .i64 0, .int .i64 0, .int .i64 0] 28)) w.heap.size [.int .i64 0, .int .i64 0, .int .i64 0, .int .i64 0, .int .i64 0, .int .i64 0, .int .i64 0, .int .i64 0, .int .i64 0, .int .i64 0, .int .i64 0, .int .i64 0, .int .i64 0, .int .i64 0, .int .i64 0, .int .i64 0]) := HR.out.below (low_alloc _ _)
  have hq : w.heap.size ≤ w1.heap.size := HB.out.size
  have hql : w.heap.size < w1.heap.size := by have := HR0.out.lt; omega
  replace HB : Hid (Below w.heap.size w (w1.alloc (.cells #[.int .i64 k, .int .i64 0, .int .i64 0, .int .i64 0, .int .i64 0, .int .i64 0, .int .i64 0, .int .i64 0, .int .i64 0, .int .i64 0, .int .i64 0, .int .i64 0, .int .i64 0, .int .i64 0, .int .i64 0, .int .i64 0] 28))) := behind_alloc HB.out _
  clear HR0
  generalize w1.alloc (.cells #[.int .i64 k, .int .i64 0, .int .i64 0, .int .i64 0, .int .i64 0, .int .i64 0, .int .i64 0, .int .i64 0, .int .i64 0, .int .i64 0, .int .i64 0, .int .i64 0, .int .i64 0, .int .i64 0, .int .i64 0, .int .i64 0] 28) = u7 at HR HB HJ ⊢
  generalize w1.heap.size = q at HJ hq hql ⊢
  refine (C1 _ (HE.out.on HB.out)).mono ?_
  rintro e w2 ⟨rfl, hb⟩
  replace HR : Hid (Row w2 w.heap.size [.int .i64 0, .int .i64 0, .int .i64 0, .int .i64 0, .int .i64 0, .int .i64 0, .int .i64 0, .int .i64 0, .int .i64 0, .int .i64 0, .int .i64 0, .int .i64 0, .int .i64 0, .int .i64 0, .int .i64 0, .int .i64 0]) := HR.out.below hb
  replace HJ : Hid (Row w2 q [.int .i64 k, .int .i64 0, .int .i64 0, .int .i64 0, .int .i64 0, .int .i64 0, .int .i64 0, .int .i64 0, .int .i64 0, .int .i64 0, .int .i64 0, .int .i64 0, .int .i64 0, .int .i64 0, .int .i64 0, .int .i64 0]) := HJ.out.below hb
  replace HB : Hid (Below w.heap.size w w2) := below_then HB.out hb
  clear hb C1
  have dd := HJ.out.cell 12 _ rfl
  have ff := HJ.out.free 12
  go_wp2_with (refine stay_load 28 ?_)
  refine ⟨?_⟩
  clear dd ff
  have hne : ¬ w.heap.size = q := by omega
  replace HJ : Hid (Row (w2.setCell ⟨q, 12, none⟩ (.int .i64 v1)) q [.int .i64 k, .int .i64 0, .int .i64 0, .int .i64 0, .int .i64 0, .int .i64 0, .int .i64 0, .int .i64 0, .int .i64 0, .int .i64 0, .int .i64 0, .int .i64 0, .int .i64 v1, .int .i64 0, .int .i64 0, .int .i64 0]) := HJ.out.set 12 (by simp) _
  replace HR : Hid (Row (w2.setCell ⟨q, 12, none⟩ (.int .i64 v1)) w.heap.size [.int .i64 0, .int .i64 0, .int .i64 0, .int .i64 0, .int .i64 0, .int .i64 0, .int .i64 0, .int .i64 0, .int .i64 0, .int .i64 0, .int .i64 0, .int .i64 0, .int .i64 0, .int .i64 0, .int .i64 0, .int .i64 0]) := HR.out.apart q 12 _ hne
  replace HB : Hid (Below w.heap.size w (w2.setCell ⟨q, 12, none⟩ (.int .i64 v1))) := HB.out.setCell (by show w.heap.size ≤ q; omega) _
  generalize w2.setCell ⟨q, 12, none⟩ (.int .i64 v1) = u6 at HJ HR HB ⊢
  refine wpList_load_mid rfl 28 _ rfl q 0 rfl [.int .i64 k, .int .i64 0, .int .i64 0, .int .i64 0, .int .i64 0, .int .i64 0, .int .i64 0, .int .i64 0, .int .i64 0, .int .i64 0, .int .i64 0, .int .i64 0, .int .i64 v1, .int .i64 0, .int .i64 0, .int .i64 0] _ HJ.out.all Tryz.underlying28 rfl szCmdC ?_
  go_wp2_with (refine stay_store 28 ?_)
  refine ⟨?_⟩
  refine wpList_store_mid rfl 28 _ _ rfl w.heap.size 0 _ rfl rfl (HR.out.room 0 16 (by simp)) szCmdC (by simp [Value.oneCell']) ?_
  replace HR : Hid (Row (u6.setCells w.heap.size 0 (#[.int .i64 k, .int .i64 0, .int .i64 0, .int .i64 0, .int .i64 0, .int .i64 0, .int .i64 0, .int .i64 0, .int .i64 0, .int .i64 0, .int .i64 0, .int .i64 0, .int .i64 v1, .int .i64 0, .int .i64 0, .int .i64 0] : Array Value).toList) w.heap.size [.int .i64 k, .int .i64 0, .int .i64 0, .int .i64 0, .int .i64 0, .int .i64 0, .int .i64 0, .int .i64 0, .int .i64 0, .int .i64 0, .int .i64 0, .int .i64 0, .int .i64 v1, .int .i64 0, .int .i64 0, .int .i64 0]) := Row.setCs _ 0 HR.out (by simp)
  replace HB : Hid (Below w.heap.size w (u6.setCells w.heap.size 0 (#[.int .i64 k, .int .i64 0, .int .i64 0, .int .i64 0, .int .i64 0, .int .i64 0, .int .i64 0, .int .i64 0, .int .i64 0, .int .i64 0, .int .i64 0, .int .i64 0, .int .i64 v1, .int .i64 0, .int .i64 0, .int .i64 0] : Array Value).toList)) := below_setCs (Nat.le_refl _) _ _ HB.out
  generalize u6.setCells w.heap.size 0 _ = u8 at HR HB ⊢
  clear HJ
  go_wp2_with fail
  have r0 := HR.out.cell 0 _ rfl
  have r1 := HR.out.cell 1 _ rfl
  have r2 := HR.out.cell 2 _ rfl
  have r3 := HR.out.cell 3 _ rfl
  have r4 := HR.out.cell 4 _ rfl
  have r5 := HR.out.cell 5 _ rfl
  have r6 := HR.out.cell 6 _ rfl
  have r7 := HR.out.cell 7 _ rfl
  have r8 := HR.out.cell 8 _ rfl
  have r9 := HR.out.cell 9 _ rfl
  have r10 := HR.out.cell 10 _ rfl
  have r11 := HR.out.cell 11 _ rfl
  have r12 := HR.out.cell 12 _ rfl
  have r13 := HR.out.cell 13 _ rfl
  have r14 := HR.out.cell 14 _ rfl
  have r15 := HR.out.cell 15 _ rfl
  exact bodyPost_ret (v := .agg #[.int .i64 k, .int .i64 0, .int .i64 0, .int .i64 0, .int .i64 0, .int .i64 0, .int .i64 0, .int .i64 0, .int .i64 0, .int .i64 0, .int .i64 0, .int .i64 0, .int .i64 v1, .int .i64 0, .int .i64 0, .int .i64 0]) (by simp [results, Tryz.results60, go_sem, *]) rfl ⟨rfl, HB.out⟩

set_option maxHeartbeats 4000000 in
set_option maxRecDepth 100000 in
theorem readCmd_l (g cap : Nat) (x0 x1 : List UInt8) (h6 : kdN x0 = 6) (hl : x1.length ≤ 1048576) (w : World) (h : Row w g (strs [x0, x1])) (hk : KwT w) (env : Env w) :
    Calls Tryz.prog 60 #[.slice (some ⟨g, 0, none⟩) 2 cap] w fun e w' => e = .returned (.agg #[.int .i64 6, .int .i64 0, .int .i64 0, .int .i64 0, .int .i64 0, .int .i64 0, .int .i64 0, .int .i64 0, .int .i64 0, .int .i64 0, .int .i64 0, .int .i64 0, .int .i64 0, .int .i64 (tvR x1).1.1, .int .i64 (tvR x1).1.2.1, .int .i64 (tvR x1).1.2.2]) ∧ Below w.heap.size w w' := by
  have HK : Hid (KwT w) := hk
  have HE : Hid (Env w) := env
  have H : Hid (Row w g (strs [x0, x1])) := h
  have s0 := h.cell 0 _ rfl
  have hgl := h.lt
  have hgn : g ≠ w.heap.size := by omega
  clear h hk env
  have C0 : ∀ W, KwT W → Calls Tryz.prog 72 #[.string ⟨x0.toArray⟩] W fun e w' => e = .returned (.int .i64 6) ∧ Below W.heap.size W w' := fun W hW => by have := kindOf_c x0 W hW; rw [h6] at this; exact this
  have z1 : (⟨x1.toArray⟩ : ByteArray).size ≤ 1048576 := by rw [ba_size]; exact hl
  obtain ⟨a1, c1, d1, b1, ha1, hc1, hd1, C1⟩ : ∃ a c d b, Hid ((tvR x1).1.1 = a) ∧ Hid ((tvR x1).1.2.1 = c) ∧ Hid ((tvR x1).1.2.2 = d) ∧ ∀ W, Env W → Calls Tryz.prog 74 #[.string ⟨x1.toArray⟩] W fun e w' => e = .returned (.tuple #[.agg #[.int .i64 a, .int .i64 c, .int .i64 d], .bool b]) ∧ Below W.heap.size W w' := ⟨_, _, _, _, hid_rfl, hid_rfl, hid_rfl, fun W hW => implTextVec_c ⟨x1.toArray⟩ z1 W hW⟩
  rw [ha1.out, hc1.out, hd1.out]
  clear ha1 hc1 hd1 z1 hl h6
  go_enter Tryz.func60, Tryz.ntmps60
  go_wp2_with fail
  have HR : Hid (Row (w.alloc (.cells #[.int .i64 0, .int .i64 0, .int .i64 0, .int .i64 0, .int .i64 0, .int .i64 0, .int .i64 0, .int .i64 0, .int .i64 0, .int .i64 0, .int .i64 0, .int .i64 0, .int .i64 0, .int .i64 0, .int .i64 0, .int .i64 0] 28)) w.heap.size [.int .i64 0, .int .i64 0, .int .i64 0, .int .i64 0, .int .i64 0, .int .i64 0, .int .i64 0, .int .i64 0, .int .i64 0, .int .i64 0, .int .i64 0, .int .i64 0, .int .i64 0, .int .i64 0, .int .i64 0, .int .i64 0]) := row_fresh w [.int .i64 0, .int .i64 0, .int .i64 0, .int .i64 0, .int .i64 0, .int .i64 0, .int .i64 0, .int .i64 0, .int .i64 0, .int .i64 0, .int .i64 0, .int .i64 0, .int .i64 0, .int .i64 0, .int .i64 0, .int .i64 0] 28
  have HB : Hid (Below w.heap.size w (w.alloc (.cells #[.int .i64 0, .int .i64 0, .int .i64 0, .int .i64 0, .int .i64 0, .int .i64 0, .int .i64 0, .int .i64 0, .int .i64 0, .int .i64 0, .int .i64 0, .int .i64 0, .int .i64 0, .int .i64 0, .int .i64 0, .int .i64 0] 28))) := low_alloc _ _
  generalize w.alloc (.cells #[.int .i64 0, .int .i64 0, .int .i64 0, .int .i64 0, .int .i64 0, .int .i64 0, .int .i64 0, .int .i64 0, .int .i64 0, .int .i64 0, .int .i64 0, .int .i64 0, .int .i64 0, .int .i64 0, .int .i64 0, .int .i64 0] 28) = u0 at HR HB ⊢
  refine (C0 _ (HK.out.on HB.out)).mono ?_
  rintro e w1 ⟨rfl, hb⟩
  replace HR : Hid (Row w1 w.heap.size [.int .i64 0, .int .i64 0, .int .i64 0, .int .i64 0, .int .i64 0, .int .i64 0, .int .i64 0, .int .i64 0, .int .i64 0, .int .i64 0, .int .i64 0, .int .i64 0, .int .i64 0, .int .i64 0, .int .i64 0, .int .i64 0]) := HR.out.below hb
  replace HB : Hid (Below w.heap.size w w1) := below_then HB.out hb
  clear hb C0 s0
  have HR0 := HR
  have hx1 := (H.out.below HB.out).cell 1 _ rfl
  have hgq : g ≠ w1.heap.size := by have := HB.out.size; omega
  have hgq2 : g < w1.heap.size := by have := HB.out.size; omega
  go_wp2_with fail
  clear hx1
  have HJ : Hid (Row (w1.alloc (.cells #[.int .i64 6, .int .i64 0, .int .i64 0, .int .i64 0, .int .i64 0, .int .i64 0, .int .i64 0, .int .i64 0, .int .i64 0, .int .i64 0, .int .i64 0, .int .i64 0, .int .i64 0, .int .i64 0, .int .i64 0, .int .i64 0] 28)) w1.heap.size [.int .i64 6, .int .i64 0, .int .i64 0, .int .i64 0, .int .i64 0, .int .i64 0, .int .i64 0, .int .i64 0, .int .i64 0, .int .i64 0, .int .i64 0, .int .i64 0, .int .i64 0, .int .i64 0, .int .i64 0, .int .i64 0]) := row_fresh w1 [.int .i64 6, .int .i64 0, .int .i64 0, .int .i64 0, .int .i64 0, .int .i64 0, .int .i64 0, .int .i64 0, .int .i64 0, .int .i64 0, .int .i64 0, .int .i64 0, .int .i64 0, .int .i64 0, .int .i64 0, .int .i64 0] 28
  replace HR : Hid (Row (w1.alloc (.cells #[.int .i64 6, .int .i64 0, .int .i64 0, .int .i64 0, .int .i64 0, .int .i64 0, .int .i64 0, .int .i64 0, .int .i64 0, .int .i64 0, .int .i64 0, .int .i64 0, .int .i64 0, .int .i64 0, .int .i64 0, .int .i64 0] 28)) w.heap.size [.int .i64 0, .int .i64 0, .int .i64 0, .int .i64 0, .int .i64 0, .int .i64 0, .int .i64 0, .int .i64 0, .int .i64 0, .int .i64 0, .int .i64 0, .int .i64 0, .int .i64 0, .int .i64 0, .int .i64 0, .int .i64 0]) := HR.out.below (low_alloc _ _)
  have hq : w.heap.size ≤ w1.heap.size := HB.out.size
  have hql : w.heap.size < w1.heap.size := by have := HR0.out.lt; omega
  replace HB : Hid (Below w.heap.size w (w1.alloc (.cells #[.int .i64 6, .int .i64 0, .int .i64 0, .int .i64 0, .int .i64 0, .int .i64 0, .int .i64 0, .int .i64 0, .int .i64 0, .int .i64 0, .int .i64 0, .int .i64 0, .int .i64 0, .int .i64 0, .int .i64 0, .int .i64 0] 28))) := behind_alloc HB.out _
  clear HR0
  generalize w1.alloc (.cells #[.int .i64 6, .int .i64 0, .int .i64 0, .int .i64 0, .int .i64 0, .int .i64 0, .int .i64 0, .int .i64 0, .int .i64 0, .int .i64 0, .int .i64 0, .int .i64 0, .int .i64 0, .int .i64 0, .int .i64 0, .int .i64 0] 28) = u7 at HR HB HJ ⊢
  generalize w1.heap.size = q at HJ hq hql ⊢
  refine (C1 _ (HE.out.on HB.out)).mono ?_
  rintro e w2 ⟨rfl, hb⟩
  replace HR : Hid (Row w2 w.heap.size [.int .i64 0, .int .i64 0, .int .i64 0, .int .i64 0, .int .i64 0, .int .i64 0, .int .i64 0, .int .i64 0, .int .i64 0, .int .i64 0, .int .i64 0, .int .i64 0, .int .i64 0, .int .i64 0, .int .i64 0, .int .i64 0]) := HR.out.below hb
  replace HJ : Hid (Row w2 q [.int .i64 6, .int .i64 0, .int .i64 0, .int .i64 0, .int .i64 0, .int .i64 0, .int .i64 0, .int .i64 0, .int .i64 0, .int .i64 0, .int .i64 0, .int .i64 0, .int .i64 0, .int .i64 0, .int .i64 0, .int .i64 0]) := HJ.out.below hb
  replace HB : Hid (Below w.heap.size w w2) := below_then HB.out hb
  clear hb C1
  have hne : ¬ w.heap.size = q := by omega
  go_wp2_with (refine stay_store 24 ?_)
  refine ⟨?_⟩
  refine wpList_store_mid rfl 24 _ _ rfl q 13 _ rfl rfl (HJ.out.room 13 3 (by simp)) szVecC (by simp [Value.oneCell']) ?_
  replace HJ : Hid (Row (w2.setCells q 13 (#[.int .i64 a1, .int .i64 c1, .int .i64 d1] : Array Value).toList) q [.int .i64 6, .int .i64 0, .int .i64 0, .int .i64 0, .int .i64 0, .int .i64 0, .int .i64 0, .int .i64 0, .int .i64 0, .int .i64 0, .int .i64 0, .int .i64 0, .int .i64 0, .int .i64 a1, .int .i64 c1, .int .i64 d1]) := Row.setCs _ 13 HJ.out (by simp)
  replace HR : Hid (Row (w2.setCells q 13 (#[.int .i64 a1, .int .i64 c1, .int .i64 d1] : Array Value).toList) w.heap.size [.int .i64 0, .int .i64 0, .int .i64 0, .int .i64 0, .int .i64 0, .int .i64 0, .int .i64 0, .int .i64 0, .int .i64 0, .int .i64 0, .int .i64 0, .int .i64 0, .int .i64 0, .int .i64 0, .int .i64 0, .int .i64 0]) := HR.out.apartCs hne _ 13
  replace HB : Hid (Below w.heap.size w (w2.setCells q 13 (#[.int .i64 a1, .int .i64 c1, .int .i64 d1] : Array Value).toList)) := below_setCs (by omega) _ _ HB.out
  generalize w2.setCells q 13 _ = u6 at HJ HR HB ⊢
  go_wp2_with (refine stay_load 28 ?_)
  refine ⟨?_⟩
  refine wpList_load_mid rfl 28 _ rfl q 0 rfl [.int .i64 6, .int .i64 0, .int .i64 0, .int .i64 0, .int .i64 0, .int .i64 0, .int .i64 0, .int .i64 0, .int .i64 0, .int .i64 0, .int .i64 0, .int .i64 0, .int .i64 0, .int .i64 a1, .int .i64 c1, .int .i64 d1] _ HJ.out.all Tryz.underlying28 rfl szCmdC ?_
  go_wp2_with (refine stay_store 28 ?_)
  refine ⟨?_⟩
  refine wpList_store_mid rfl 28 _ _ rfl w.heap.size 0 _ rfl rfl (HR.out.room 0 16 (by simp)) szCmdC (by simp [Value.oneCell']) ?_
  replace HR : Hid (Row (u6.setCells w.heap.size 0 (#[.int .i64 6, .int .i64 0, .int .i64 0, .int .i64 0, .int .i64 0, .int .i64 0, .int .i64 0, .int .i64 0, .int .i64 0, .int .i64 0, .int .i64 0, .int .i64 0, .int .i64 0, .int .i64 a1, .int .i64 c1, .int .i64 d1] : Array Value).toList) w.heap.size [.int .i64 6, .int .i64 0, .int .i64 0, .int .i64 0, .int .i64 0, .int .i64 0, .int .i64 0, .int .i64 0, .int .i64 0, .int .i64 0, .int .i64 0, .int .i64 0, .int .i64 0, .int .i64 a1, .int .i64 c1, .int .i64 d1]) := Row.setCs _ 0 HR.out (by simp)
  replace HB : Hid (Below w.heap.size w (u6.setCells w.heap.size 0 (#[.int .i64 6, .int .i64 0, .int .i64 0, .int .i64 0, .int .i64 0, .int .i64 0, .int .i64 0, .int .i64 0, .int .i64 0, .int .i64 0, .int .i64 0, .int .i64 0, .int .i64 0, .int .i64 a1, .int .i64 c1, .int .i64 d1] : Array Value).toList)) := below_setCs (Nat.le_refl _) _ _ HB.out
  generalize u6.setCells w.heap.size 0 _ = u8 at HR HB ⊢
  clear HJ
  go_wp2_with fail
  have r0 := HR.out.cell 0 _ rfl
  have r1 := HR.out.cell 1 _ rfl
  have r2 := HR.out.cell 2 _ rfl
  have r3 := HR.out.cell 3 _ rfl
  have r4 := HR.out.cell 4 _ rfl
  have r5 := HR.out.cell 5 _ rfl
  have r6 := HR.out.cell 6 _ rfl
  have r7 := HR.out.cell 7 _ rfl
  have r8 := HR.out.cell 8 _ rfl
  have r9 := HR.out.cell 9 _ rfl
  have r10 := HR.out.cell 10 _ rfl
  have r11 := HR.out.cell 11 _ rfl
  have r12 := HR.out.cell 12 _ rfl
  have r13 := HR.out.cell 13 _ rfl
  have r14 := HR.out.cell 14 _ rfl
  have r15 := HR.out.cell 15 _ rfl
  exact bodyPost_ret (v := .agg #[.int .i64 6, .int .i64 0, .int .i64 0, .int .i64 0, .int .i64 0, .int .i64 0, .int .i64 0, .int .i64 0, .int .i64 0, .int .i64 0, .int .i64 0, .int .i64 0, .int .i64 0, .int .i64 a1, .int .i64 c1, .int .i64 d1]) (by simp [results, Tryz.results60, go_sem, *]) rfl ⟨rfl, HB.out⟩

set_option maxHeartbeats 4000000 in
set_option maxRecDepth 100000 in
theorem readCmd_j (g cap : Nat) (x0 x1 x2 x3 x4 x5 x6 x7 : List UInt8) (h1 : kdN x0 = 1) (hl : ∀ x ∈ [x0, x1, x2, x3, x4, x5, x6, x7], x.length ≤ 1048576) (hc : 8 ≤ cap) (w : World) (h : Row w g (strs [x0, x1, x2, x3, x4, x5, x6, x7])) (hk : KwT w) (env : Env w) :
    Calls Tryz.prog 60 #[.slice (some ⟨g, 0, none⟩) 8 cap] w fun e w' => e = .returned (.agg #[.int .i64 1, .int .i64 (jrd x1 x2 x3 x4 x5 x6 x7).id, .int .i64 (jrd x1 x2 x3 x4 x5 x6 x7).pr, .int .i64 (jrd x1 x2 x3 x4 x5 x6 x7).nd, .int .i64 (jrd x1 x2 x3 x4 x5 x6 x7).na, .int .i64 (jrd x1 x2 x3 x4 x5 x6 x7).nb, .int .i64 (jrd x1 x2 x3 x4 x5 x6 x7).nc, .int .i64 (jrd x1 x2 x3 x4 x5 x6 x7).la, .int .i64 (jrd x1 x2 x3 x4 x5 x6 x7).lb, .int .i64 (jrd x1 x2 x3 x4 x5 x6 x7).lc, .int .i64 (jrd x1 x2 x3 x4 x5 x6 x7).wl, .int .i64 (jrd x1 x2 x3 x4 x5 x6 x7).lv, .int .i64 0, .int .i64 0, .int .i64 0, .int .i64 0]) ∧ Below w.heap.size w w' := by
  have HK : Hid (KwT w) := hk
  have HE : Hid (Env w) := env
  have H : Hid (Row w g (strs [x0, x1, x2, x3, x4, x5, x6, x7])) := h
  have s0 := h.cell 0 _ rfl
  have hgl := h.lt
  have hgn : g ≠ w.heap.size := by omega
  clear h hk env
  have C0 : ∀ W, KwT W → Calls Tryz.prog 72 #[.string ⟨x0.toArray⟩] W fun e w' => e = .returned (.int .i64 1) ∧ Below W.heap.size W w' := fun W hW => by have := kindOf_c x0 W hW; rw [h1] at this; exact this
  have C1 : ∀ (cc : Nat) W, Row W g (strs [x0, x1, x2, x3, x4, x5, x6, x7]) → Env W → Calls Tryz.prog 73 #[.slice (some ⟨g, 1, none⟩) 7 cc] W fun e w' => e = .returned (.agg (jrd x1 x2 x3 x4 x5 x6 x7).cells.toArray) ∧ Below W.heap.size W w' := fun cc W h e => readJob_c g cc x0 x1 x2 x3 x4 x5 x6 x7 hl W h e
  generalize jrd x1 x2 x3 x4 x5 x6 x7 = j at C1 ⊢
  have hc1 : ¬ cap ≤ 1 := by omega
  have hc2 : ¬ cap = 1 := by omega
  have hc3 : ¬ cap = 0 := by omega
  have hc4 : (8 : Int) ≤ (cap : Int) := by omega
  clear hl h1
  go_enter Tryz.func60, Tryz.ntmps60
  go_wp2_with fail
  have HR : Hid (Row (w.alloc (.cells #[.int .i64 0, .int .i64 0, .int .i64 0, .int .i64 0, .int .i64 0, .int .i64 0, .int .i64 0, .int .i64 0, .int .i64 0, .int .i64 0, .int .i64 0, .int .i64 0, .int .i64 0, .int .i64 0, .int .i64 0, .int .i64 0] 28)) w.heap.size [.int .i64 0, .int .i64 0, .int .i64 0, .int .i64 0, .int .i64 0, .int .i64 0, .int .i64 0, .int .i64 0, .int .i64 0, .int .i64 0, .int .i64 0, .int .i64 0, .int .i64 0, .int .i64 0, .int .i64 0, .int .i64 0]) := row_fresh w [.int .i64 0, .int .i64 0, .int .i64 0, .int .i64 0, .int .i64 0, .int .i64 0, .int .i64 0, .int .i64 0, .int .i64 0, .int .i64 0, .int .i64 0, .int .i64 0, .int .i64 0, .int .i64 0, .int .i64 0, .int .i64 0] 28
  have HB : Hid (Below w.heap.size w (w.alloc (.cells #[.int .i64 0, .int .i64 0, .int .i64 0, .int .i64 0, .int .i64 0, .int .i64 0, .int .i64 0, .int .i64 0, .int .i64 0, .int .i64 0, .int .i64 0, .int .i64 0, .int .i64 0, .int .i64 0, .int .i64 0, .int .i64 0] 28))) := low_alloc _ _
  generalize w.alloc (.cells #[.int .i64 0, .int .i64 0, .int .i64 0, .int .i64 0, .int .i64 0, .int .i64 0, .int .i64 0, .int .i64 0, .int .i64 0, .int .i64 0, .int .i64 0, .int .i64 0, .int .i64 0, .int .i64 0, .int .i64 0, .int .i64 0] 28) = u0 at HR HB ⊢
  refine (C0 _ (HK.out.on HB.out)).mono ?_
  rintro e w1 ⟨rfl, hb⟩
  replace HR : Hid (Row w1 w.heap.size [.int .i64 0, .int .i64 0, .int .i64 0, .int .i64 0, .int .i64 0, .int .i64 0, .int .i64 0, .int .i64 0, .int .i64 0, .int .i64 0, .int .i64 0, .int .i64 0, .int .i64 0, .int .i64 0, .int .i64 0, .int .i64 0]) := HR.out.below hb
  replace HB : Hid (Below w.heap.size w w1) := below_then HB.out hb
  clear hb C0 s0
  have HR0 := HR
  go_wp2_with fail
  have HJ : Hid (Row (w1.alloc (.cells #[.int .i64 1, .int .i64 0, .int .i64 0, .int .i64 0, .int .i64 0, .int .i64 0, .int .i64 0, .int .i64 0, .int .i64 0, .int .i64 0, .int .i64 0, .int .i64 0, .int .i64 0, .int .i64 0, .int .i64 0, .int .i64 0] 28)) w1.heap.size [.int .i64 1, .int .i64 0, .int .i64 0, .int .i64 0, .int .i64 0, .int .i64 0, .int .i64 0, .int .i64 0, .int .i64 0, .int .i64 0, .int .i64 0, .int .i64 0, .int .i64 0, .int .i64 0, .int .i64 0, .int .i64 0]) := row_fresh w1 [.int .i64 1, .int .i64 0, .int .i64 0, .int .i64 0, .int .i64 0, .int .i64 0, .int .i64 0, .int .i64 0, .int .i64 0, .int .i64 0, .int .i64 0, .int .i64 0, .int .i64 0, .int .i64 0, .int .i64 0, .int .i64 0] 28
  replace HR : Hid (Row (w1.alloc (.cells #[.int .i64 1, .int .i64 0, .int .i64 0, .int .i64 0, .int .i64 0, .int .i64 0, .int .i64 0, .int .i64 0, .int .i64 0, .int .i64 0, .int .i64 0, .int .i64 0, .int .i64 0, .int .i64 0, .int .i64 0, .int .i64 0] 28)) w.heap.size [.int .i64 0, .int .i64 0, .int .i64 0, .int .i64 0, .int .i64 0, .int .i64 0, .int .i64 0, .int .i64 0, .int .i64 0, .int .i64 0, .int .i64 0, .int .i64 0, .int .i64 0, .int .i64 0, .int .i64 0, .int .i64 0]) := HR.out.below (low_alloc _ _)
  have hq : w.heap.size ≤ w1.heap.size := HB.out.size
  have hql : w.heap.size < w1.heap.size := by have := HR0.out.lt; omega
  replace HB : Hid (Below w.heap.size w (w1.alloc (.cells #[.int .i64 1, .int .i64 0, .int .i64 0, .int .i64 0, .int .i64 0, .int .i64 0, .int .i64 0, .int .i64 0, .int .i64 0, .int .i64 0, .int .i64 0, .int .i64 0, .int .i64 0, .int .i64 0, .int .i64 0, .int .i64 0] 28))) := behind_alloc HB.out _
  clear HR0
  generalize w1.alloc (.cells #[.int .i64 1, .int .i64 0, .int .i64 0, .int .i64 0, .int .i64 0, .int .i64 0, .int .i64 0, .int .i64 0, .int .i64 0, .int .i64 0, .int .i64 0, .int .i64 0, .int .i64 0, .int .i64 0, .int .i64 0, .int .i64 0] 28) = u7 at HR HB HJ ⊢
  generalize w1.heap.size = q at HJ hq hql ⊢
  refine (C1 _ _ (H.out.below HB.out) (HE.out.on HB.out)).mono ?_
  rintro e w2 ⟨rfl, hb⟩
  replace HR : Hid (Row w2 w.heap.size [.int .i64 0, .int .i64 0, .int .i64 0, .int .i64 0, .int .i64 0, .int .i64 0, .int .i64 0, .int .i64 0, .int .i64 0, .int .i64 0, .int .i64 0, .int .i64 0, .int .i64 0, .int .i64 0, .int .i64 0, .int .i64 0]) := HR.out.below hb
  replace HJ : Hid (Row w2 q [.int .i64 1, .int .i64 0, .int .i64 0, .int .i64 0, .int .i64 0, .int .i64 0, .int .i64 0, .int .i64 0, .int .i64 0, .int .i64 0, .int .i64 0, .int .i64 0, .int .i64 0, .int .i64 0, .int .i64 0, .int .i64 0]) := HJ.out.below hb
  replace HB : Hid (Below w.heap.size w w2) := below_then HB.out hb
  clear hb C1
  have hne : ¬ w.heap.size = q := by omega
  go_wp2_with (refine stay_store 26 ?_)
  refine ⟨?_⟩
  refine wpList_store_mid rfl 26 _ _ rfl q 1 (#[.int .i64 j.id, .int .i64 j.pr, .int .i64 j.nd, .int .i64 j.na, .int .i64 j.nb, .int .i64 j.nc, .int .i64 j.la, .int .i64 j.lb, .int .i64 j.lc, .int .i64 j.wl, .int .i64 j.lv]) rfl rfl (HJ.out.room 1 11 (by simp)) szJobC (by simp [Value.oneCell']) ?_
  replace HJ : Hid (Row (w2.setCells q 1 (#[.int .i64 j.id, .int .i64 j.pr, .int .i64 j.nd, .int .i64 j.na, .int .i64 j.nb, .int .i64 j.nc, .int .i64 j.la, .int .i64 j.lb, .int .i64 j.lc, .int .i64 j.wl, .int .i64 j.lv] : Array Value).toList) q [.int .i64 1, .int .i64 j.id, .int .i64 j.pr, .int .i64 j.nd, .int .i64 j.na, .int .i64 j.nb, .int .i64 j.nc, .int .i64 j.la, .int .i64 j.lb, .int .i64 j.lc, .int .i64 j.wl, .int .i64 j.lv, .int .i64 0, .int .i64 0, .int .i64 0, .int .i64 0]) := Row.setCs _ 1 HJ.out (by simp)
  replace HR : Hid (Row (w2.setCells q 1 (#[.int .i64 j.id, .int .i64 j.pr, .int .i64 j.nd, .int .i64 j.na, .int .i64 j.nb, .int .i64 j.nc, .int .i64 j.la, .int .i64 j.lb, .int .i64 j.lc, .int .i64 j.wl, .int .i64 j.lv] : Array Value).toList) w.heap.size [.int .i64 0, .int .i64 0, .int .i64 0, .int .i64 0, .int .i64 0, .int .i64 0, .int .i64 0, .int .i64 0, .int .i64 0, .int .i64 0, .int .i64 0, .int .i64 0, .int .i64 0, .int .i64 0, .int .i64 0, .int .i64 0]) := HR.out.apartCs hne _ 1
  replace HB : Hid (Below w.heap.size w (w2.setCells q 1 (#[.int .i64 j.id, .int .i64 j.pr, .int .i64 j.nd, .int .i64 j.na, .int .i64 j.nb, .int .i64 j.nc, .int .i64 j.la, .int .i64 j.lb, .int .i64 j.lc, .int .i64 j.wl, .int .i64 j.lv] : Array Value).toList)) := below_setCs (by omega) _ _ HB.out
  generalize w2.setCells q 1 _ = u6 at HJ HR HB ⊢
  go_wp2_with (refine stay_load 28 ?_)
  refine ⟨?_⟩
  refine wpList_load_mid rfl 28 _ rfl q 0 rfl [.int .i64 1, .int .i64 j.id, .int .i64 j.pr, .int .i64 j.nd, .int .i64 j.na, .int .i64 j.nb, .int .i64 j.nc, .int .i64 j.la, .int .i64 j.lb, .int .i64 j.lc, .int .i64 j.wl, .int .i64 j.lv, .int .i64 0, .int .i64 0, .int .i64 0, .int .i64 0] _ HJ.out.all Tryz.underlying28 rfl szCmdC ?_
  go_wp2_with (refine stay_store 28 ?_)
  refine ⟨?_⟩
  refine wpList_store_mid rfl 28 _ _ rfl w.heap.size 0 _ rfl rfl (HR.out.room 0 16 (by simp)) szCmdC (by simp [Value.oneCell']) ?_
  replace HR : Hid (Row (u6.setCells w.heap.size 0 (#[.int .i64 1, .int .i64 j.id, .int .i64 j.pr, .int .i64 j.nd, .int .i64 j.na, .int .i64 j.nb, .int .i64 j.nc, .int .i64 j.la, .int .i64 j.lb, .int .i64 j.lc, .int .i64 j.wl, .int .i64 j.lv, .int .i64 0, .int .i64 0, .int .i64 0, .int .i64 0] : Array Value).toList) w.heap.size [.int .i64 1, .int .i64 j.id, .int .i64 j.pr, .int .i64 j.nd, .int .i64 j.na, .int .i64 j.nb, .int .i64 j.nc, .int .i64 j.la, .int .i64 j.lb, .int .i64 j.lc, .int .i64 j.wl, .int .i64 j.lv, .int .i64 0, .int .i64 0, .int .i64 0, .int .i64 0]) := Row.setCs _ 0 HR.out (by simp)
  replace HB : Hid (Below w.heap.size w (u6.setCells w.heap.size 0 (#[.int .i64 1, .int .i64 j.id, .int .i64 j.pr, .int .i64 j.nd, .int .i64 j.na, .int .i64 j.nb, .int .i64 j.nc, .int .i64 j.la, .int .i64 j.lb, .int .i64 j.lc, .int .i64 j.wl, .int .i64 j.lv, .int .i64 0, .int .i64 0, .int .i64 0, .int .i64 0] : Array Value).toList)) := below_setCs (Nat.le_refl _) _ _ HB.out
  generalize u6.setCells w.heap.size 0 _ = u8 at HR HB ⊢
  clear HJ
  go_wp2_with fail
  have r0 := HR.out.cell 0 _ rfl
  have r1 := HR.out.cell 1 _ rfl
  have r2 := HR.out.cell 2 _ rfl
  have r3 := HR.out.cell 3 _ rfl
  have r4 := HR.out.cell 4 _ rfl
  have r5 := HR.out.cell 5 _ rfl
  have r6 := HR.out.cell 6 _ rfl
  have r7 := HR.out.cell 7 _ rfl
  have r8 := HR.out.cell 8 _ rfl
  have r9 := HR.out.cell 9 _ rfl
  have r10 := HR.out.cell 10 _ rfl
  have r11 := HR.out.cell 11 _ rfl
  have r12 := HR.out.cell 12 _ rfl
  have r13 := HR.out.cell 13 _ rfl
  have r14 := HR.out.cell 14 _ rfl
  have r15 := HR.out.cell 15 _ rfl
  exact bodyPost_ret (v := .agg #[.int .i64 1, .int .i64 j.id, .int .i64 j.pr, .int .i64 j.nd, .int .i64 j.na, .int .i64 j.nb, .int .i64 j.nc, .int .i64 j.la, .int .i64 j.lb, .int .i64 j.lc, .int .i64 j.wl, .int .i64 j.lv, .int .i64 0, .int .i64 0, .int .i64 0, .int .i64 0]) (by simp [results, Tryz.results60, go_sem, *]) rfl ⟨rfl, HB.out⟩
end Go.Proofs.YtejleghdgdbbnaaGreatDoor
