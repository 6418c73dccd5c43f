/- A drawn command of any kind. -/
import Derived.Test.YtejleghdgdbbnaaGreatDoorMgXa
import Derived.Test.YtejleghdgdbbnaaGreatDoorCmS
import Derived.Test.YtejleghdgdbbnaaGreatDoorTcC
import Derived.Test.YtejleghdgdbbnaaGreatDoorMgUi
namespace Go.Proofs.YtejleghdgdbbnaaGreatDoor
open Go.ChangeShapes Go.WideShapes Go.ChangeAt Go.RowKit

theorem szJobD : (Tryz.prog.info? 26).map (·.size) = some 11 := by kernel_rfl
theorem szVecD : (Tryz.prog.info? 24).map (·.size) = some 3 := by kernel_rfl
theorem Tip.setCs {w : World} {g : Nat} {a : Option Addr} {n cap : Nat} (h : Cur w g a n cap) (q : Nat) (hq : w.heap.size ≤ q) (vs : List Value) : ∀ {W : World} (m : Nat), Tip w W g a n cap → Tip w (W.setCells q m vs) g a n cap := by
  induction vs with
  | nil => intro W m t; exact t
  | cons v r ih => intro W m t; exact ih (m + 1) (Tip.set h t q m hq v)
set_option maxHeartbeats 4000000 in
set_option maxRecDepth 100000 in
theorem l04Job_c (g : Nat) (a : Option Addr) (n cap : Nat) (w : World) (h : Cur w g a n cap) :
    Calls Tryz.prog 44 #[.pointer (some ⟨g, 0, none⟩)] w fun e w' => ∃ j : Jb, e = .returned (.agg j.cells.toArray) ∧ w.grownBy w' (some g) ∧ Cur w' g a n cap := by
  have H : Hid (Cur w g a n cap) := h
  have hlt := h.lt
  have hne : g ≠ w.heap.size := by omega
  clear h
  go_enter Tryz.func44, Tryz.ntmps44
  go_wp2_with fail
  have HR : Hid (Row (w.alloc (.cells #[.int .i64 0, .int .i64 0, .int .i64 0, .int .i64 0, .int .i64 0, .int .i64 0, .int .i64 0, .int .i64 0, .int .i64 0, .int .i64 0, .int .i64 0] 26)) w.heap.size [.int .i64 0, .int .i64 0, .int .i64 0, .int .i64 0, .int .i64 0, .int .i64 0, .int .i64 0, .int .i64 0, .int .i64 0, .int .i64 0, .int .i64 0]) := row_new w [.int .i64 0, .int .i64 0, .int .i64 0, .int .i64 0, .int .i64 0, .int .i64 0, .int .i64 0, .int .i64 0, .int .i64 0, .int .i64 0, .int .i64 0] 26
  have HG : Hid (w.grownBy (w.alloc (.cells #[.int .i64 0, .int .i64 0, .int .i64 0, .int .i64 0, .int .i64 0, .int .i64 0, .int .i64 0, .int .i64 0, .int .i64 0, .int .i64 0, .int .i64 0] 26)) (some g)) := World.grownBy_alloc w _ _
  have HC : Hid (Cur (w.alloc (.cells #[.int .i64 0, .int .i64 0, .int .i64 0, .int .i64 0, .int .i64 0, .int .i64 0, .int .i64 0, .int .i64 0, .int .i64 0, .int .i64 0, .int .i64 0] 26)) g a n cap) := H.out.below (by go_grown)
  generalize w.alloc (.cells #[.int .i64 0, .int .i64 0, .int .i64 0, .int .i64 0, .int .i64 0, .int .i64 0, .int .i64 0, .int .i64 0, .int .i64 0, .int .i64 0, .int .i64 0] 26) = w0 at HR HG HC ⊢
  refine (l01Below_c g a n cap 30 (by decide) (by decide) _ HC.out).mono ?_
  rintro e w1 ⟨x1, rfl, lo1, hi1, hg, hc⟩
  replace HG : Hid (w.grownBy w1 (some g)) := Lib.grownBy_trans HG.out hg
  replace HR : Hid (Row w1 w.heap.size [.int .i64 0, .int .i64 0, .int .i64 0, .int .i64 0, .int .i64 0, .int .i64 0, .int .i64 0, .int .i64 0, .int .i64 0, .int .i64 0, .int .i64 0]) := HR.out.far hg (by intro e; exact hne (Option.some.inj e).symm)
  replace HC : Hid (Cur w1 g a n cap) := hc
  clear hg hc
  go_wp2_with fail
  refine (l01Below_c g a n cap 5 (by decide) (by decide) _ HC.out).mono ?_
  rintro e w2 ⟨x2, rfl, lo2, hi2, hg, hc⟩
  replace HG : Hid (w.grownBy w2 (some g)) := Lib.grownBy_trans HG.out hg
  replace HR : Hid (Row w2 w.heap.size [.int .i64 0, .int .i64 0, .int .i64 0, .int .i64 0, .int .i64 0, .int .i64 0, .int .i64 0, .int .i64 0, .int .i64 0, .int .i64 0, .int .i64 0]) := HR.out.far hg (by intro e; exact hne (Option.some.inj e).symm)
  replace HC : Hid (Cur w2 g a n cap) := hc
  clear hg hc
  go_wp2_with fail
  refine (l01Below_c g a n cap 3 (by decide) (by decide) _ HC.out).mono ?_
  rintro e w3 ⟨x3, rfl, lo3, hi3, hg, hc⟩
  replace HG : Hid (w.grownBy w3 (some g)) := Lib.grownBy_trans HG.out hg
  replace HR : Hid (Row w3 w.heap.size [.int .i64 0, .int .i64 0, .int .i64 0, .int .i64 0, .int .i64 0, .int .i64 0, .int .i64 0, .int .i64 0, .int .i64 0, .int .i64 0, .int .i64 0]) := HR.out.far hg (by intro e; exact hne (Option.some.inj e).symm)
  replace HC : Hid (Cur w3 g a n cap) := hc
  clear hg hc
  go_wp2_with fail
  refine (l01Below_c g a n cap 5 (by decide) (by decide) _ HC.out).mono ?_
  rintro e w4 ⟨x4, rfl, lo4, hi4, hg, hc⟩
  replace HG : Hid (w.grownBy w4 (some g)) := Lib.grownBy_trans HG.out hg
  replace HR : Hid (Row w4 w.heap.size [.int .i64 0, .int .i64 0, .int .i64 0, .int .i64 0, .int .i64 0, .int .i64 0, .int .i64 0, .int .i64 0, .int .i64 0, .int .i64 0, .int .i64 0]) := HR.out.far hg (by intro e; exact hne (Option.some.inj e).symm)
  replace HC : Hid (Cur w4 g a n cap) := hc
  clear hg hc
  go_wp2_with fail
  refine (l01Below_c g a n cap 9 (by decide) (by decide) _ HC.out).mono ?_
  rintro e w5 ⟨x5, rfl, lo5, hi5, hg, hc⟩
  replace HG : Hid (w.grownBy w5 (some g)) := Lib.grownBy_trans HG.out hg
  replace HR : Hid (Row w5 w.heap.size [.int .i64 0, .int .i64 0, .int .i64 0, .int .i64 0, .int .i64 0, .int .i64 0, .int .i64 0, .int .i64 0, .int .i64 0, .int .i64 0, .int .i64 0]) := HR.out.far hg (by intro e; exact hne (Option.some.inj e).symm)
  replace HC : Hid (Cur w5 g a n cap) := hc
  clear hg hc
  go_wp2_with fail
  refine (l01Below_c g a n cap 4 (by decide) (by decide) _ HC.out).mono ?_
  rintro e w6 ⟨x6, rfl, lo6, hi6, hg, hc⟩
  replace HG : Hid (w.grownBy w6 (some g)) := Lib.grownBy_trans HG.out hg
  replace HR : Hid (Row w6 w.heap.size [.int .i64 0, .int .i64 0, .int .i64 0, .int .i64 0, .int .i64 0, .int .i64 0, .int .i64 0, .int .i64 0, .int .i64 0, .int .i64 0, .int .i64 0]) := HR.out.far hg (by intro e; exact hne (Option.some.inj e).symm)
  replace HC : Hid (Cur w6 g a n cap) := hc
  clear hg hc
  go_wp2_with fail
  refine (l01Below_c g a n cap 20 (by decide) (by decide) _ HC.out).mono ?_
  rintro e w7 ⟨x7, rfl, lo7, hi7, hg, hc⟩
  replace HG : Hid (w.grownBy w7 (some g)) := Lib.grownBy_trans HG.out hg
  replace HR : Hid (Row w7 w.heap.size [.int .i64 0, .int .i64 0, .int .i64 0, .int .i64 0, .int .i64 0, .int .i64 0, .int .i64 0, .int .i64 0, .int .i64 0, .int .i64 0, .int .i64 0]) := HR.out.far hg (by intro e; exact hne (Option.some.inj e).symm)
  replace HC : Hid (Cur w7 g a n cap) := hc
  clear hg hc
  go_wp2_with fail
  refine (l01Below_c g a n cap 3 (by decide) (by decide) _ HC.out).mono ?_
  rintro e w8 ⟨x8, rfl, lo8, hi8, hg, hc⟩
  replace HG : Hid (w.grownBy w8 (some g)) := Lib.grownBy_trans HG.out hg
  replace HR : Hid (Row w8 w.heap.size [.int .i64 0, .int .i64 0, .int .i64 0, .int .i64 0, .int .i64 0, .int .i64 0, .int .i64 0, .int .i64 0, .int .i64 0, .int .i64 0, .int .i64 0]) := HR.out.far hg (by intro e; exact hne (Option.some.inj e).symm)
  replace HC : Hid (Cur w8 g a n cap) := hc
  clear hg hc
  go_wp2_with fail
  have HJ : Hid (Row (w8.alloc (.cells #[.int .i64 (1 + x1), .int .i64 x2, .int .i64 (1 + x3), .int .i64 (1 + x4), .int .i64 x5, .int .i64 (x6 / 3), .int .i64 0, .int .i64 0, .int .i64 0, .int .i64 (1 + x7), .int .i64 x8] 26)) w8.heap.size [.int .i64 (1 + x1), .int .i64 x2, .int .i64 (1 + x3), .int .i64 (1 + x4), .int .i64 x5, .int .i64 (x6 / 3), .int .i64 0, .int .i64 0, .int .i64 0, .int .i64 (1 + x7), .int .i64 x8]) := row_new w8 [.int .i64 (1 + x1), .int .i64 x2, .int .i64 (1 + x3), .int .i64 (1 + x4), .int .i64 x5, .int .i64 (x6 / 3), .int .i64 0, .int .i64 0, .int .i64 0, .int .i64 (1 + x7), .int .i64 x8] 26
  have hq : w.heap.size < w8.heap.size := HR.out.lt
  replace HR : Hid (Row (w8.alloc (.cells #[.int .i64 (1 + x1), .int .i64 x2, .int .i64 (1 + x3), .int .i64 (1 + x4), .int .i64 x5, .int .i64 (x6 / 3), .int .i64 0, .int .i64 0, .int .i64 0, .int .i64 (1 + x7), .int .i64 x8] 26)) w.heap.size [.int .i64 0, .int .i64 0, .int .i64 0, .int .i64 0, .int .i64 0, .int .i64 0, .int .i64 0, .int .i64 0, .int .i64 0, .int .i64 0, .int .i64 0]) := HR.out.below (low_alloc _ _)
  replace HG : Hid (w.grownBy (w8.alloc (.cells #[.int .i64 (1 + x1), .int .i64 x2, .int .i64 (1 + x3), .int .i64 (1 + x4), .int .i64 x5, .int .i64 (x6 / 3), .int .i64 0, .int .i64 0, .int .i64 0, .int .i64 (1 + x7), .int .i64 x8] 26)) (some g)) := Lib.grownBy_below HG.out (low_alloc _ _)
  replace HC : Hid (Cur (w8.alloc (.cells #[.int .i64 (1 + x1), .int .i64 x2, .int .i64 (1 + x3), .int .i64 (1 + x4), .int .i64 x5, .int .i64 (x6 / 3), .int .i64 0, .int .i64 0, .int .i64 0, .int .i64 (1 + x7), .int .i64 x8] 26)) g a n cap) := HC.out.below (low_alloc _ _)
  have hgq : g ≠ w8.heap.size := by omega
  generalize w8.alloc (.cells #[.int .i64 (1 + x1), .int .i64 x2, .int .i64 (1 + x3), .int .i64 (1 + x4), .int .i64 x5, .int .i64 (x6 / 3), .int .i64 0, .int .i64 0, .int .i64 0, .int .i64 (1 + x7), .int .i64 x8] 26) = u0 at HR HG HC HJ ⊢
  generalize w8.heap.size = q at HJ hq hgq ⊢
  refine (l01Below_c g a n cap 3 (by decide) (by decide) _ HC.out).mono ?_
  rintro e w9 ⟨x9, rfl, lo9, hi9, hg, hc⟩
  replace HG : Hid (w.grownBy w9 (some g)) := Lib.grownBy_trans HG.out hg
  replace HR : Hid (Row w9 w.heap.size [.int .i64 0, .int .i64 0, .int .i64 0, .int .i64 0, .int .i64 0, .int .i64 0, .int .i64 0, .int .i64 0, .int .i64 0, .int .i64 0, .int .i64 0]) := HR.out.far hg (by intro e; exact hne (Option.some.inj e).symm)
  replace HJ : Hid (Row w9 q [.int .i64 (1 + x1), .int .i64 x2, .int .i64 (1 + x3), .int .i64 (1 + x4), .int .i64 x5, .int .i64 (x6 / 3), .int .i64 0, .int .i64 0, .int .i64 0, .int .i64 (1 + x7), .int .i64 x8]) := HJ.out.far hg (by intro e; exact hgq (Option.some.inj e).symm)
  replace HC : Hid (Cur w9 g a n cap) := hc
  clear hg hc
  have hqr : ¬ w.heap.size = q := by omega
  rcases (by omega : x9 = 0 ∨ 0 < x9) with rfl | h9
  · go_wp2_with fail
    refine (l01Below_c g a n cap 3 (by decide) (by decide) _ HC.out).mono ?_
    rintro e w10 ⟨x10, rfl, lo10, hi10, hg, hc⟩
    replace HG : Hid (w.grownBy w10 (some g)) := Lib.grownBy_trans HG.out hg
    replace HR : Hid (Row w10 w.heap.size [.int .i64 0, .int .i64 0, .int .i64 0, .int .i64 0, .int .i64 0, .int .i64 0, .int .i64 0, .int .i64 0, .int .i64 0, .int .i64 0, .int .i64 0]) := HR.out.far hg (by intro e; exact hne (Option.some.inj e).symm)
    replace HJ : Hid (Row w10 q [.int .i64 (1 + x1), .int .i64 x2, .int .i64 (1 + x3), .int .i64 (1 + x4), .int .i64 x5, .int .i64 (x6 / 3), .int .i64 0, .int .i64 0, .int .i64 0, .int .i64 (1 + x7), .int .i64 x8]) := HJ.out.far hg (by intro e; exact hgq (Option.some.inj e).symm)
    replace HC : Hid (Cur w10 g a n cap) := hc
    clear hg hc
    go_wp2_with fail
    refine (l01Below_c g a n cap 2 (by decide) (by decide) _ HC.out).mono ?_
    rintro e w11 ⟨x11, rfl, lo11, hi11, hg, hc⟩
    replace HG : Hid (w.grownBy w11 (some g)) := Lib.grownBy_trans HG.out hg
    replace HR : Hid (Row w11 w.heap.size [.int .i64 0, .int .i64 0, .int .i64 0, .int .i64 0, .int .i64 0, .int .i64 0, .int .i64 0, .int .i64 0, .int .i64 0, .int .i64 0, .int .i64 0]) := HR.out.far hg (by intro e; exact hne (Option.some.inj e).symm)
    replace HJ : Hid (Row w11 q [.int .i64 (1 + x1), .int .i64 x2, .int .i64 (1 + x3), .int .i64 (1 + x4), .int .i64 x5, .int .i64 (x6 / 3), .int .i64 0, .int .i64 0, .int .i64 0, .int .i64 (1 + x7), .int .i64 x8]) := HJ.out.far hg (by intro e; exact hgq (Option.some.inj e).symm)
    replace HC : Hid (Cur w11 g a n cap) := hc
    clear hg hc
    go_wp2_with (refine stay_store 24 ?_)
    refine ⟨?_⟩
    refine wpList_store_mid rfl 24 _ _ rfl q 6 _ rfl rfl (HJ.out.room 6 3 (by simp)) szVecD (by simp [Value.oneCell']) ?_
    replace HJ : Hid (Row (w11.setCells q 6 (#[.int .i64 x10, .int .i64 x11, .int .i64 0] : Array Value).toList) q [.int .i64 (1 + x1), .int .i64 x2, .int .i64 (1 + x3), .int .i64 (1 + x4), .int .i64 x5, .int .i64 (x6 / 3), .int .i64 x10, .int .i64 x11, .int .i64 0, .int .i64 (1 + x7), .int .i64 x8]) := Row.setCs _ 6 HJ.out (by simp)
    replace HR : Hid (Row (w11.setCells q 6 (#[.int .i64 x10, .int .i64 x11, .int .i64 0] : Array Value).toList) w.heap.size [.int .i64 0, .int .i64 0, .int .i64 0, .int .i64 0, .int .i64 0, .int .i64 0, .int .i64 0, .int .i64 0, .int .i64 0, .int .i64 0, .int .i64 0]) := HR.out.apartCs hqr _ 6
    have HT0 : Hid (Tip w (w11.setCells q 6 (#[.int .i64 x10, .int .i64 x11, .int .i64 0] : Array Value).toList) g a n cap) := Tip.setCs H.out q (by omega) _ 6 ⟨HG.out, HC.out⟩
    replace HG := HT0.out.1
    replace HC := HT0.out.2
    generalize w11.setCells q 6 _ = u1 at HR HG HC HJ ⊢
    clear HT0
    replace HG : Hid (w.grownBy u1 (some g)) := HG
    replace HC : Hid (Cur u1 g a n cap) := HC
    go_wp2_with (refine stay_load 26 ?_)
    refine ⟨?_⟩
    refine wpList_load_mid rfl 26 _ rfl q 0 rfl [.int .i64 (1 + x1), .int .i64 x2, .int .i64 (1 + x3), .int .i64 (1 + x4), .int .i64 x5, .int .i64 (x6 / 3), .int .i64 x10, .int .i64 x11, .int .i64 0, .int .i64 (1 + x7), .int .i64 x8] _ HJ.out.all Tryz.underlying26 rfl szJobD ?_
    go_wp2_with (refine stay_store 26 ?_)
    refine ⟨?_⟩
    refine wpList_store_mid rfl 26 _ _ rfl w.heap.size 0 _ rfl rfl (HR.out.room 0 11 (by simp)) szJobD (by simp [Value.oneCell']) ?_
    replace HR : Hid (Row (u1.setCells w.heap.size 0 (#[.int .i64 (1 + x1), .int .i64 x2, .int .i64 (1 + x3), .int .i64 (1 + x4), .int .i64 x5, .int .i64 (x6 / 3), .int .i64 x10, .int .i64 x11, .int .i64 0, .int .i64 (1 + x7), .int .i64 x8] : Array Value).toList) w.heap.size [.int .i64 (1 + x1), .int .i64 x2, .int .i64 (1 + x3), .int .i64 (1 + x4), .int .i64 x5, .int .i64 (x6 / 3), .int .i64 x10, .int .i64 x11, .int .i64 0, .int .i64 (1 + x7), .int .i64 x8]) := Row.setCs _ 0 HR.out (by simp)
    have HT : Hid (Tip w (u1.setCells w.heap.size 0 (#[.int .i64 (1 + x1), .int .i64 x2, .int .i64 (1 + x3), .int .i64 (1 + x4), .int .i64 x5, .int .i64 (x6 / 3), .int .i64 x10, .int .i64 x11, .int .i64 0, .int .i64 (1 + x7), .int .i64 x8] : Array Value).toList) g a n cap) := Tip.setCs H.out w.heap.size (Nat.le_refl _) _ 0 ⟨HG.out, HC.out⟩
    generalize u1.setCells w.heap.size 0 _ = u8 at HR HT ⊢
    clear HJ HG HC
    go_wp2_with fail
    have r0 := HR.out.cell 0 _ rfl
    have r1 := HR.out.cell 1 _ rfl
    have r2 := HR.out.cell 2 _ rfl
    have r3 := HR.out.cell 3 _ rfl
    have r4 := HR.out.cell 4 _ rfl
    have r5 := HR.out.cell 5 _ rfl
    have r6 := HR.out.cell 6 _ rfl
    have r7 := HR.out.cell 7 _ rfl
    have r8 := HR.out.cell 8 _ rfl
    have r9 := HR.out.cell 9 _ rfl
    have r10 := HR.out.cell 10 _ rfl
    exact bodyPost_ret (v := .agg #[.int .i64 (1 + x1), .int .i64 x2, .int .i64 (1 + x3), .int .i64 (1 + x4), .int .i64 x5, .int .i64 (x6 / 3), .int .i64 x10, .int .i64 x11, .int .i64 0, .int .i64 (1 + x7), .int .i64 x8]) (by simp [results, Tryz.results44, go_sem, *]) rfl ⟨⟨1 + x1, x2, 1 + x3, 1 + x4, x5, x6 / 3, x10, x11, 0, 1 + x7, x8⟩, rfl, HT.out.1, HT.out.2⟩
  · have e9 : (x9 == 0) = false := by simp; omega
    go_wp2_with (refine stay_load 26 ?_)
    refine ⟨?_⟩
    refine wpList_load_mid rfl 26 _ rfl q 0 rfl [.int .i64 (1 + x1), .int .i64 x2, .int .i64 (1 + x3), .int .i64 (1 + x4), .int .i64 x5, .int .i64 (x6 / 3), .int .i64 0, .int .i64 0, .int .i64 0, .int .i64 (1 + x7), .int .i64 x8] _ HJ.out.all Tryz.underlying26 rfl szJobD ?_
    go_wp2_with (refine stay_store 26 ?_)
    refine ⟨?_⟩
    refine wpList_store_mid rfl 26 _ _ rfl w.heap.size 0 _ rfl rfl (HR.out.room 0 11 (by simp)) szJobD (by simp [Value.oneCell']) ?_
    replace HR : Hid (Row (w9.setCells w.heap.size 0 (#[.int .i64 (1 + x1), .int .i64 x2, .int .i64 (1 + x3), .int .i64 (1 + x4), .int .i64 x5, .int .i64 (x6 / 3), .int .i64 0, .int .i64 0, .int .i64 0, .int .i64 (1 + x7), .int .i64 x8] : Array Value).toList) w.heap.size [.int .i64 (1 + x1), .int .i64 x2, .int .i64 (1 + x3), .int .i64 (1 + x4), .int .i64 x5, .int .i64 (x6 / 3), .int .i64 0, .int .i64 0, .int .i64 0, .int .i64 (1 + x7), .int .i64 x8]) := Row.setCs _ 0 HR.out (by simp)
    have HT : Hid (Tip w (w9.setCells w.heap.size 0 (#[.int .i64 (1 + x1), .int .i64 x2, .int .i64 (1 + x3), .int .i64 (1 + x4), .int .i64 x5, .int .i64 (x6 / 3), .int .i64 0, .int .i64 0, .int .i64 0, .int .i64 (1 + x7), .int .i64 x8] : Array Value).toList) g a n cap) := Tip.setCs H.out w.heap.size (Nat.le_refl _) _ 0 ⟨HG.out, HC.out⟩
    generalize w9.setCells w.heap.size 0 _ = u8 at HR HT ⊢
    clear HJ HG HC
    go_wp2_with fail
    have r0 := HR.out.cell 0 _ rfl
    have r1 := HR.out.cell 1 _ rfl
    have r2 := HR.out.cell 2 _ rfl
    have r3 := HR.out.cell 3 _ rfl
    have r4 := HR.out.cell 4 _ rfl
    have r5 := HR.out.cell 5 _ rfl
    have r6 := HR.out.cell 6 _ rfl
    have r7 := HR.out.cell 7 _ rfl
    have r8 := HR.out.cell 8 _ rfl
    have r9 := HR.out.cell 9 _ rfl
    have r10 := HR.out.cell 10 _ rfl
    exact bodyPost_ret (v := .agg #[.int .i64 (1 + x1), .int .i64 x2, .int .i64 (1 + x3), .int .i64 (1 + x4), .int .i64 x5, .int .i64 (x6 / 3), .int .i64 0, .int .i64 0, .int .i64 0, .int .i64 (1 + x7), .int .i64 x8]) (by simp [results, Tryz.results44, go_sem, *]) rfl ⟨⟨1 + x1, x2, 1 + x3, 1 + x4, x5, x6 / 3, 0, 0, 0, 1 + x7, x8⟩, rfl, HT.out.1, HT.out.2⟩
end Go.Proofs.YtejleghdgdbbnaaGreatDoor

namespace Go.Proofs.YtejleghdgdbbnaaGreatDoor
open Go.ChangeShapes Go.WideShapes Go.ChangeAt Go.RowKit

set_option maxHeartbeats 4000000 in
set_option maxRecDepth 100000 in
theorem l04AnyJob_c (g : Nat) (a : Option Addr) (n cap : Nat) (w : World) (h : Cur w g a n cap) :
    Calls Tryz.prog 45 #[.pointer (some ⟨g, 0, none⟩)] w fun e w' => ∃ j : Jb, e = .returned (.agg j.cells.toArray) ∧ w.grownBy w' (some g) ∧ Cur w' g a n cap := by
  have H : Hid (Cur w g a n cap) := h
  have hlt := h.lt
  have hne : g ≠ w.heap.size := by omega
  clear h
  go_enter Tryz.func45, Tryz.ntmps45
  go_wp2_with fail
  have HR : Hid (Row (w.alloc (.cells #[.int .i64 0, .int .i64 0, .int .i64 0, .int .i64 0, .int .i64 0, .int .i64 0, .int .i64 0, .int .i64 0, .int .i64 0, .int .i64 0, .int .i64 0] 26)) w.heap.size [.int .i64 0, .int .i64 0, .int .i64 0, .int .i64 0, .int .i64 0, .int .i64 0, .int .i64 0, .int .i64 0, .int .i64 0, .int .i64 0, .int .i64 0]) := row_new w [.int .i64 0, .int .i64 0, .int .i64 0, .int .i64 0, .int .i64 0, .int .i64 0, .int .i64 0, .int .i64 0, .int .i64 0, .int .i64 0, .int .i64 0] 26
  have HG : Hid (w.grownBy (w.alloc (.cells #[.int .i64 0, .int .i64 0, .int .i64 0, .int .i64 0, .int .i64 0, .int .i64 0, .int .i64 0, .int .i64 0, .int .i64 0, .int .i64 0, .int .i64 0] 26)) (some g)) := World.grownBy_alloc w _ _
  have HC : Hid (Cur (w.alloc (.cells #[.int .i64 0, .int .i64 0, .int .i64 0, .int .i64 0, .int .i64 0, .int .i64 0, .int .i64 0, .int .i64 0, .int .i64 0, .int .i64 0, .int .i64 0] 26)) g a n cap) := H.out.below (by go_grown)
  generalize w.alloc (.cells #[.int .i64 0, .int .i64 0, .int .i64 0, .int .i64 0, .int .i64 0, .int .i64 0, .int .i64 0, .int .i64 0, .int .i64 0, .int .i64 0, .int .i64 0] 26) = w0 at HR HG HC ⊢
  have HL : Calls Tryz.prog 44 #[.pointer (some ⟨g, 0, none⟩)] w0 fun e w' => ∃ j : Jb, e = .returned (.agg #[.int .i64 j.id, .int .i64 j.pr, .int .i64 j.nd, .int .i64 j.na, .int .i64 j.nb, .int .i64 j.nc, .int .i64 j.la, .int .i64 j.lb, .int .i64 j.lc, .int .i64 j.wl, .int .i64 j.lv]) ∧ w0.grownBy w' (some g) ∧ Cur w' g a n cap := l04Job_c g a n cap _ HC.out
  refine HL.mono ?_
  clear HL
  rintro e w1 ⟨j, rfl, hg, hc⟩
  replace HG : Hid (w.grownBy w1 (some g)) := Lib.grownBy_trans HG.out hg
  replace HR : Hid (Row w1 w.heap.size [.int .i64 0, .int .i64 0, .int .i64 0, .int .i64 0, .int .i64 0, .int .i64 0, .int .i64 0, .int .i64 0, .int .i64 0, .int .i64 0, .int .i64 0]) := HR.out.far hg (by intro e; exact hne (Option.some.inj e).symm)
  replace HC : Hid (Cur w1 g a n cap) := hc
  clear hg hc
  go_wp2_with fail
  have HJ : Hid (Row (w1.alloc (.cells #[.int .i64 j.id, .int .i64 j.pr, .int .i64 j.nd, .int .i64 j.na, .int .i64 j.nb, .int .i64 j.nc, .int .i64 j.la, .int .i64 j.lb, .int .i64 j.lc, .int .i64 j.wl, .int .i64 j.lv] 26)) w1.heap.size [.int .i64 j.id, .int .i64 j.pr, .int .i64 j.nd, .int .i64 j.na, .int .i64 j.nb, .int .i64 j.nc, .int .i64 j.la, .int .i64 j.lb, .int .i64 j.lc, .int .i64 j.wl, .int .i64 j.lv]) := row_new w1 [.int .i64 j.id, .int .i64 j.pr, .int .i64 j.nd, .int .i64 j.na, .int .i64 j.nb, .int .i64 j.nc, .int .i64 j.la, .int .i64 j.lb, .int .i64 j.lc, .int .i64 j.wl, .int .i64 j.lv] 26
  have hq : w.heap.size < w1.heap.size := HR.out.lt
  replace HR : Hid (Row (w1.alloc (.cells #[.int .i64 j.id, .int .i64 j.pr, .int .i64 j.nd, .int .i64 j.na, .int .i64 j.nb, .int .i64 j.nc, .int .i64 j.la, .int .i64 j.lb, .int .i64 j.lc, .int .i64 j.wl, .int .i64 j.lv] 26)) w.heap.size [.int .i64 0, .int .i64 0, .int .i64 0, .int .i64 0, .int .i64 0, .int .i64 0, .int .i64 0, .int .i64 0, .int .i64 0, .int .i64 0, .int .i64 0]) := HR.out.below (low_alloc _ _)
  replace HG : Hid (w.grownBy (w1.alloc (.cells #[.int .i64 j.id, .int .i64 j.pr, .int .i64 j.nd, .int .i64 j.na, .int .i64 j.nb, .int .i64 j.nc, .int .i64 j.la, .int .i64 j.lb, .int .i64 j.lc, .int .i64 j.wl, .int .i64 j.lv] 26)) (some g)) := Lib.grownBy_below HG.out (low_alloc _ _)
  replace HC : Hid (Cur (w1.alloc (.cells #[.int .i64 j.id, .int .i64 j.pr, .int .i64 j.nd, .int .i64 j.na, .int .i64 j.nb, .int .i64 j.nc, .int .i64 j.la, .int .i64 j.lb, .int .i64 j.lc, .int .i64 j.wl, .int .i64 j.lv] 26)) g a n cap) := HC.out.below (low_alloc _ _)
  have hgq : g ≠ w1.heap.size := by omega
  generalize w1.alloc (.cells #[.int .i64 j.id, .int .i64 j.pr, .int .i64 j.nd, .int .i64 j.na, .int .i64 j.nb, .int .i64 j.nc, .int .i64 j.la, .int .i64 j.lb, .int .i64 j.lc, .int .i64 j.wl, .int .i64 j.lv] 26) = u0 at HR HG HC HJ ⊢
  generalize w1.heap.size = q at HJ hq hgq ⊢
  refine (l01Below_c g a n cap 16 (by decide) (by decide) _ HC.out).mono ?_
  rintro e w2 ⟨k, rfl, lo, hi, hg, hc⟩
  replace HG : Hid (w.grownBy w2 (some g)) := Lib.grownBy_trans HG.out hg
  replace HR : Hid (Row w2 w.heap.size [.int .i64 0, .int .i64 0, .int .i64 0, .int .i64 0, .int .i64 0, .int .i64 0, .int .i64 0, .int .i64 0, .int .i64 0, .int .i64 0, .int .i64 0]) := HR.out.far hg (by intro e; exact hne (Option.some.inj e).symm)
  replace HJ : Hid (Row w2 q [.int .i64 j.id, .int .i64 j.pr, .int .i64 j.nd, .int .i64 j.na, .int .i64 j.nb, .int .i64 j.nc, .int .i64 j.la, .int .i64 j.lb, .int .i64 j.lc, .int .i64 j.wl, .int .i64 j.lv]) := HJ.out.far hg (by intro e; exact hgq (Option.some.inj e).symm)
  replace HC : Hid (Cur w2 g a n cap) := hc
  clear hg hc
  have hqr : ¬ w.heap.size = q := by omega
  rcases (by omega : k = 0 ∨ k = 1 ∨ k = 2 ∨ k = 3 ∨ k = 4 ∨ k = 5 ∨ 5 < k) with rfl | rfl | rfl | rfl | rfl | rfl | h5
  · clear lo hi
    go_wp2_with fail
    refine (l01Raw_c g a n cap _ HC.out).mono ?_
    rintro e w3 ⟨y, rfl, hg, hc⟩
    replace HG : Hid (w.grownBy w3 (some g)) := Lib.grownBy_trans HG.out hg
    replace HR : Hid (Row w3 w.heap.size [.int .i64 0, .int .i64 0, .int .i64 0, .int .i64 0, .int .i64 0, .int .i64 0, .int .i64 0, .int .i64 0, .int .i64 0, .int .i64 0, .int .i64 0]) := HR.out.far hg (by intro e; exact hne (Option.some.inj e).symm)
    replace HJ : Hid (Row w3 q [.int .i64 j.id, .int .i64 j.pr, .int .i64 j.nd, .int .i64 j.na, .int .i64 j.nb, .int .i64 j.nc, .int .i64 j.la, .int .i64 j.lb, .int .i64 j.lc, .int .i64 j.wl, .int .i64 j.lv]) := HJ.out.far hg (by intro e; exact hgq (Option.some.inj e).symm)
    replace HC : Hid (Cur w3 g a n cap) := hc
    clear hg hc
    have dd := HJ.out.cell 0 _ rfl
    have ff := HJ.out.free 0
    go_wp2_with (refine stay_load 26 ?_)
    refine ⟨?_⟩
    clear dd ff
    replace HJ : Hid (Row (w3.setCell ⟨q, 0, none⟩ (.int .i64 y)) q [.int .i64 y, .int .i64 j.pr, .int .i64 j.nd, .int .i64 j.na, .int .i64 j.nb, .int .i64 j.nc, .int .i64 j.la, .int .i64 j.lb, .int .i64 j.lc, .int .i64 j.wl, .int .i64 j.lv]) := HJ.out.set 0 (by simp) _
    replace HR : Hid (Row (w3.setCell ⟨q, 0, none⟩ (.int .i64 y)) w.heap.size [.int .i64 0, .int .i64 0, .int .i64 0, .int .i64 0, .int .i64 0, .int .i64 0, .int .i64 0, .int .i64 0, .int .i64 0, .int .i64 0, .int .i64 0]) := HR.out.apart q 0 _ hqr
    have HT0 : Hid (Tip w (w3.setCell ⟨q, 0, none⟩ (.int .i64 y)) g a n cap) := Tip.set H.out ⟨HG.out, HC.out⟩ q 0 (by omega) _
    generalize w3.setCell ⟨q, 0, none⟩ (.int .i64 y) = u1 at HR HJ HT0 ⊢
    clear HG HC
    have HG : Hid (w.grownBy u1 (some g)) := HT0.out.1
    have HC : Hid (Cur u1 g a n cap) := HT0.out.2
    refine wpList_load_mid rfl 26 _ rfl q 0 rfl [.int .i64 y, .int .i64 j.pr, .int .i64 j.nd, .int .i64 j.na, .int .i64 j.nb, .int .i64 j.nc, .int .i64 j.la, .int .i64 j.lb, .int .i64 j.lc, .int .i64 j.wl, .int .i64 j.lv] _ HJ.out.all Tryz.underlying26 rfl szJobD ?_
    go_wp2_with (refine stay_store 26 ?_)
    refine ⟨?_⟩
    refine wpList_store_mid rfl 26 _ _ rfl w.heap.size 0 _ rfl rfl (HR.out.room 0 11 (by simp)) szJobD (by simp [Value.oneCell']) ?_
    replace HR : Hid (Row (u1.setCells w.heap.size 0 (#[.int .i64 y, .int .i64 j.pr, .int .i64 j.nd, .int .i64 j.na, .int .i64 j.nb, .int .i64 j.nc, .int .i64 j.la, .int .i64 j.lb, .int .i64 j.lc, .int .i64 j.wl, .int .i64 j.lv] : Array Value).toList) w.heap.size [.int .i64 y, .int .i64 j.pr, .int .i64 j.nd, .int .i64 j.na, .int .i64 j.nb, .int .i64 j.nc, .int .i64 j.la, .int .i64 j.lb, .int .i64 j.lc, .int .i64 j.wl, .int .i64 j.lv]) := Row.setCs _ 0 HR.out (by simp)
    have HT : Hid (Tip w (u1.setCells w.heap.size 0 (#[.int .i64 y, .int .i64 j.pr, .int .i64 j.nd, .int .i64 j.na, .int .i64 j.nb, .int .i64 j.nc, .int .i64 j.la, .int .i64 j.lb, .int .i64 j.lc, .int .i64 j.wl, .int .i64 j.lv] : Array Value).toList) g a n cap) := Tip.setCs H.out w.heap.size (Nat.le_refl _) _ 0 ⟨HG.out, HC.out⟩
    generalize u1.setCells w.heap.size 0 _ = u8 at HR HT ⊢
    clear HJ HG HC
    go_wp2_with fail
    have r0 := HR.out.cell 0 _ rfl
    have r1 := HR.out.cell 1 _ rfl
    have r2 := HR.out.cell 2 _ rfl
    have r3 := HR.out.cell 3 _ rfl
    have r4 := HR.out.cell 4 _ rfl
    have r5 := HR.out.cell 5 _ rfl
    have r6 := HR.out.cell 6 _ rfl
    have r7 := HR.out.cell 7 _ rfl
    have r8 := HR.out.cell 8 _ rfl
    have r9 := HR.out.cell 9 _ rfl
    have r10 := HR.out.cell 10 _ rfl
    exact bodyPost_ret (v := .agg #[.int .i64 y, .int .i64 j.pr, .int .i64 j.nd, .int .i64 j.na, .int .i64 j.nb, .int .i64 j.nc, .int .i64 j.la, .int .i64 j.lb, .int .i64 j.lc, .int .i64 j.wl, .int .i64 j.lv]) (by simp [results, Tryz.results45, go_sem, *]) rfl ⟨⟨y, j.pr, j.nd, j.na, j.nb, j.nc, j.la, j.lb, j.lc, j.wl, j.lv⟩, rfl, HT.out.1, HT.out.2⟩
  · clear lo hi
    go_wp2_with fail
    refine (l01Raw_c g a n cap _ HC.out).mono ?_
    rintro e w3 ⟨y, rfl, hg, hc⟩
    replace HG : Hid (w.grownBy w3 (some g)) := Lib.grownBy_trans HG.out hg
    replace HR : Hid (Row w3 w.heap.size [.int .i64 0, .int .i64 0, .int .i64 0, .int .i64 0, .int .i64 0, .int .i64 0, .int .i64 0, .int .i64 0, .int .i64 0, .int .i64 0, .int .i64 0]) := HR.out.far hg (by intro e; exact hne (Option.some.inj e).symm)
    replace HJ : Hid (Row w3 q [.int .i64 j.id, .int .i64 j.pr, .int .i64 j.nd, .int .i64 j.na, .int .i64 j.nb, .int .i64 j.nc, .int .i64 j.la, .int .i64 j.lb, .int .i64 j.lc, .int .i64 j.wl, .int .i64 j.lv]) := HJ.out.far hg (by intro e; exact hgq (Option.some.inj e).symm)
    replace HC : Hid (Cur w3 g a n cap) := hc
    clear hg hc
    have dd := HJ.out.cell 2 _ rfl
    have ff := HJ.out.free 2
    go_wp2_with (refine stay_load 26 ?_)
    refine ⟨?_⟩
    clear dd ff
    replace HJ : Hid (Row (w3.setCell ⟨q, 2, none⟩ (.int .i64 y)) q [.int .i64 j.id, .int .i64 j.pr, .int .i64 y, .int .i64 j.na, .int .i64 j.nb, .int .i64 j.nc, .int .i64 j.la, .int .i64 j.lb, .int .i64 j.lc, .int .i64 j.wl, .int .i64 j.lv]) := HJ.out.set 2 (by simp) _
    replace HR : Hid (Row (w3.setCell ⟨q, 2, none⟩ (.int .i64 y)) w.heap.size [.int .i64 0, .int .i64 0, .int .i64 0, .int .i64 0, .int .i64 0, .int .i64 0, .int .i64 0, .int .i64 0, .int .i64 0, .int .i64 0, .int .i64 0]) := HR.out.apart q 2 _ hqr
    have HT0 : Hid (Tip w (w3.setCell ⟨q, 2, none⟩ (.int .i64 y)) g a n cap) := Tip.set H.out ⟨HG.out, HC.out⟩ q 2 (by omega) _
    generalize w3.setCell ⟨q, 2, none⟩ (.int .i64 y) = u1 at HR HJ HT0 ⊢
    clear HG HC
    have HG : Hid (w.grownBy u1 (some g)) := HT0.out.1
    have HC : Hid (Cur u1 g a n cap) := HT0.out.2
    refine wpList_load_mid rfl 26 _ rfl q 0 rfl [.int .i64 j.id, .int .i64 j.pr, .int .i64 y, .int .i64 j.na, .int .i64 j.nb, .int .i64 j.nc, .int .i64 j.la, .int .i64 j.lb, .int .i64 j.lc, .int .i64 j.wl, .int .i64 j.lv] _ HJ.out.all Tryz.underlying26 rfl szJobD ?_
    go_wp2_with (refine stay_store 26 ?_)
    refine ⟨?_⟩
    refine wpList_store_mid rfl 26 _ _ rfl w.heap.size 0 _ rfl rfl (HR.out.room 0 11 (by simp)) szJobD (by simp [Value.oneCell']) ?_
    replace HR : Hid (Row (u1.setCells w.heap.size 0 (#[.int .i64 j.id, .int .i64 j.pr, .int .i64 y, .int .i64 j.na, .int .i64 j.nb, .int .i64 j.nc, .int .i64 j.la, .int .i64 j.lb, .int .i64 j.lc, .int .i64 j.wl, .int .i64 j.lv] : Array Value).toList) w.heap.size [.int .i64 j.id, .int .i64 j.pr, .int .i64 y, .int .i64 j.na, .int .i64 j.nb, .int .i64 j.nc, .int .i64 j.la, .int .i64 j.lb, .int .i64 j.lc, .int .i64 j.wl, .int .i64 j.lv]) := Row.setCs _ 0 HR.out (by simp)
    have HT : Hid (Tip w (u1.setCells w.heap.size 0 (#[.int .i64 j.id, .int .i64 j.pr, .int .i64 y, .int .i64 j.na, .int .i64 j.nb, .int .i64 j.nc, .int .i64 j.la, .int .i64 j.lb, .int .i64 j.lc, .int .i64 j.wl, .int .i64 j.lv] : Array Value).toList) g a n cap) := Tip.setCs H.out w.heap.size (Nat.le_refl _) _ 0 ⟨HG.out, HC.out⟩
    generalize u1.setCells w.heap.size 0 _ = u8 at HR HT ⊢
    clear HJ HG HC
    go_wp2_with fail
    have r0 := HR.out.cell 0 _ rfl
    have r1 := HR.out.cell 1 _ rfl
    have r2 := HR.out.cell 2 _ rfl
    have r3 := HR.out.cell 3 _ rfl
    have r4 := HR.out.cell 4 _ rfl
    have r5 := HR.out.cell 5 _ rfl
    have r6 := HR.out.cell 6 _ rfl
    have r7 := HR.out.cell 7 _ rfl
    have r8 := HR.out.cell 8 _ rfl
    have r9 := HR.out.cell 9 _ rfl
    have r10 := HR.out.cell 10 _ rfl
    exact bodyPost_ret (v := .agg #[.int .i64 j.id, .int .i64 j.pr, .int .i64 y, .int .i64 j.na, .int .i64 j.nb, .int .i64 j.nc, .int .i64 j.la, .int .i64 j.lb, .int .i64 j.lc, .int .i64 j.wl, .int .i64 j.lv]) (by simp [results, Tryz.results45, go_sem, *]) rfl ⟨⟨j.id, j.pr, y, j.na, j.nb, j.nc, j.la, j.lb, j.lc, j.wl, j.lv⟩, rfl, HT.out.1, HT.out.2⟩
  · clear lo hi
    go_wp2_with fail
    refine (l01Any_c g a n cap _ HC.out).mono ?_
    rintro e w3 ⟨y1, y2, y3, rfl, hg, hc⟩
    replace HG : Hid (w.grownBy w3 (some g)) := Lib.grownBy_trans HG.out hg
    replace HR : Hid (Row w3 w.heap.size [.int .i64 0, .int .i64 0, .int .i64 0, .int .i64 0, .int .i64 0, .int .i64 0, .int .i64 0, .int .i64 0, .int .i64 0, .int .i64 0, .int .i64 0]) := HR.out.far hg (by intro e; exact hne (Option.some.inj e).symm)
    replace HJ : Hid (Row w3 q [.int .i64 j.id, .int .i64 j.pr, .int .i64 j.nd, .int .i64 j.na, .int .i64 j.nb, .int .i64 j.nc, .int .i64 j.la, .int .i64 j.lb, .int .i64 j.lc, .int .i64 j.wl, .int .i64 j.lv]) := HJ.out.far hg (by intro e; exact hgq (Option.some.inj e).symm)
    replace HC : Hid (Cur w3 g a n cap) := hc
    clear hg hc
    go_wp2_with (refine stay_store 24 ?_)
    refine ⟨?_⟩
    refine wpList_store_mid rfl 24 _ _ rfl q 3 _ rfl rfl (HJ.out.room 3 3 (by simp)) szVecD (by simp [Value.oneCell']) ?_
    replace HJ : Hid (Row (w3.setCells q 3 (#[.int .i64 y1, .int .i64 y2, .int .i64 y3] : Array Value).toList) q [.int .i64 j.id, .int .i64 j.pr, .int .i64 j.nd, .int .i64 y1, .int .i64 y2, .int .i64 y3, .int .i64 j.la, .int .i64 j.lb, .int .i64 j.lc, .int .i64 j.wl, .int .i64 j.lv]) := Row.setCs _ 3 HJ.out (by simp)
    replace HR : Hid (Row (w3.setCells q 3 (#[.int .i64 y1, .int .i64 y2, .int .i64 y3] : Array Value).toList) w.heap.size [.int .i64 0, .int .i64 0, .int .i64 0, .int .i64 0, .int .i64 0, .int .i64 0, .int .i64 0, .int .i64 0, .int .i64 0, .int .i64 0, .int .i64 0]) := HR.out.apartCs hqr _ 3
    have HT0 : Hid (Tip w (w3.setCells q 3 (#[.int .i64 y1, .int .i64 y2, .int .i64 y3] : Array Value).toList) g a n cap) := Tip.setCs H.out q (by omega) _ 3 ⟨HG.out, HC.out⟩
    generalize w3.setCells q 3 _ = u1 at HR HJ HT0 ⊢
    clear HG HC
    have HG : Hid (w.grownBy u1 (some g)) := HT0.out.1
    have HC : Hid (Cur u1 g a n cap) := HT0.out.2
    go_wp2_with (refine stay_load 26 ?_)
    refine ⟨?_⟩
    refine wpList_load_mid rfl 26 _ rfl q 0 rfl [.int .i64 j.id, .int .i64 j.pr, .int .i64 j.nd, .int .i64 y1, .int .i64 y2, .int .i64 y3, .int .i64 j.la, .int .i64 j.lb, .int .i64 j.lc, .int .i64 j.wl, .int .i64 j.lv] _ HJ.out.all Tryz.underlying26 rfl szJobD ?_
    go_wp2_with (refine stay_store 26 ?_)
    refine ⟨?_⟩
    refine wpList_store_mid rfl 26 _ _ rfl w.heap.size 0 _ rfl rfl (HR.out.room 0 11 (by simp)) szJobD (by simp [Value.oneCell']) ?_
    replace HR : Hid (Row (u1.setCells w.heap.size 0 (#[.int .i64 j.id, .int .i64 j.pr, .int .i64 j.nd, .int .i64 y1, .int .i64 y2, .int .i64 y3, .int .i64 j.la, .int .i64 j.lb, .int .i64 j.lc, .int .i64 j.wl, .int .i64 j.lv] : Array Value).toList) w.heap.size [.int .i64 j.id, .int .i64 j.pr, .int .i64 j.nd, .int .i64 y1, .int .i64 y2, .int .i64 y3, .int .i64 j.la, .int .i64 j.lb, .int .i64 j.lc, .int .i64 j.wl, .int .i64 j.lv]) := Row.setCs _ 0 HR.out (by simp)
    have HT : Hid (Tip w (u1.setCells w.heap.size 0 (#[.int .i64 j.id, .int .i64 j.pr, .int .i64 j.nd, .int .i64 y1, .int .i64 y2, .int .i64 y3, .int .i64 j.la, .int .i64 j.lb, .int .i64 j.lc, .int .i64 j.wl, .int .i64 j.lv] : Array Value).toList) g a n cap) := Tip.setCs H.out w.heap.size (Nat.le_refl _) _ 0 ⟨HG.out, HC.out⟩
    generalize u1.setCells w.heap.size 0 _ = u8 at HR HT ⊢
    clear HJ HG HC
    go_wp2_with fail
    have r0 := HR.out.cell 0 _ rfl
    have r1 := HR.out.cell 1 _ rfl
    have r2 := HR.out.cell 2 _ rfl
    have r3 := HR.out.cell 3 _ rfl
    have r4 := HR.out.cell 4 _ rfl
    have r5 := HR.out.cell 5 _ rfl
    have r6 := HR.out.cell 6 _ rfl
    have r7 := HR.out.cell 7 _ rfl
    have r8 := HR.out.cell 8 _ rfl
    have r9 := HR.out.cell 9 _ rfl
    have r10 := HR.out.cell 10 _ rfl
    exact bodyPost_ret (v := .agg #[.int .i64 j.id, .int .i64 j.pr, .int .i64 j.nd, .int .i64 y1, .int .i64 y2, .int .i64 y3, .int .i64 j.la, .int .i64 j.lb, .int .i64 j.lc, .int .i64 j.wl, .int .i64 j.lv]) (by simp [results, Tryz.results45, go_sem, *]) rfl ⟨⟨j.id, j.pr, j.nd, y1, y2, y3, j.la, j.lb, j.lc, j.wl, j.lv⟩, rfl, HT.out.1, HT.out.2⟩
  · clear lo hi
    go_wp2_with fail
    refine (l01Raw_c g a n cap _ HC.out).mono ?_
    rintro e w3 ⟨y, rfl, hg, hc⟩
    replace HG : Hid (w.grownBy w3 (some g)) := Lib.grownBy_trans HG.out hg
    replace HR : Hid (Row w3 w.heap.size [.int .i64 0, .int .i64 0, .int .i64 0, .int .i64 0, .int .i64 0, .int .i64 0, .int .i64 0, .int .i64 0, .int .i64 0, .int .i64 0, .int .i64 0]) := HR.out.far hg (by intro e; exact hne (Option.some.inj e).symm)
    replace HJ : Hid (Row w3 q [.int .i64 j.id, .int .i64 j.pr, .int .i64 j.nd, .int .i64 j.na, .int .i64 j.nb, .int .i64 j.nc, .int .i64 j.la, .int .i64 j.lb, .int .i64 j.lc, .int .i64 j.wl, .int .i64 j.lv]) := HJ.out.far hg (by intro e; exact hgq (Option.some.inj e).symm)
    replace HC : Hid (Cur w3 g a n cap) := hc
    clear hg hc
    have dd := HJ.out.cell 9 _ rfl
    have ff := HJ.out.free 9
    go_wp2_with (refine stay_load 26 ?_)
    refine ⟨?_⟩
    clear dd ff
    replace HJ : Hid (Row (w3.setCell ⟨q, 9, none⟩ (.int .i64 y)) q [.int .i64 j.id, .int .i64 j.pr, .int .i64 j.nd, .int .i64 j.na, .int .i64 j.nb, .int .i64 j.nc, .int .i64 j.la, .int .i64 j.lb, .int .i64 j.lc, .int .i64 y, .int .i64 j.lv]) := HJ.out.set 9 (by simp) _
    replace HR : Hid (Row (w3.setCell ⟨q, 9, none⟩ (.int .i64 y)) w.heap.size [.int .i64 0, .int .i64 0, .int .i64 0, .int .i64 0, .int .i64 0, .int .i64 0, .int .i64 0, .int .i64 0, .int .i64 0, .int .i64 0, .int .i64 0]) := HR.out.apart q 9 _ hqr
    have HT0 : Hid (Tip w (w3.setCell ⟨q, 9, none⟩ (.int .i64 y)) g a n cap) := Tip.set H.out ⟨HG.out, HC.out⟩ q 9 (by omega) _
    generalize w3.setCell ⟨q, 9, none⟩ (.int .i64 y) = u1 at HR HJ HT0 ⊢
    clear HG HC
    have HG : Hid (w.grownBy u1 (some g)) := HT0.out.1
    have HC : Hid (Cur u1 g a n cap) := HT0.out.2
    refine wpList_load_mid rfl 26 _ rfl q 0 rfl [.int .i64 j.id, .int .i64 j.pr, .int .i64 j.nd, .int .i64 j.na, .int .i64 j.nb, .int .i64 j.nc, .int .i64 j.la, .int .i64 j.lb, .int .i64 j.lc, .int .i64 y, .int .i64 j.lv] _ HJ.out.all Tryz.underlying26 rfl szJobD ?_
    go_wp2_with (refine stay_store 26 ?_)
    refine ⟨?_⟩
    refine wpList_store_mid rfl 26 _ _ rfl w.heap.size 0 _ rfl rfl (HR.out.room 0 11 (by simp)) szJobD (by simp [Value.oneCell']) ?_
    replace HR : Hid (Row (u1.setCells w.heap.size 0 (#[.int .i64 j.id, .int .i64 j.pr, .int .i64 j.nd, .int .i64 j.na, .int .i64 j.nb, .int .i64 j.nc, .int .i64 j.la, .int .i64 j.lb, .int .i64 j.lc, .int .i64 y, .int .i64 j.lv] : Array Value).toList) w.heap.size [.int .i64 j.id, .int .i64 j.pr, .int .i64 j.nd, .int .i64 j.na, .int .i64 j.nb, .int .i64 j.nc, .int .i64 j.la, .int .i64 j.lb, .int .i64 j.lc, .int .i64 y, .int .i64 j.lv]) := Row.setCs _ 0 HR.out (by simp)
    have HT : Hid (Tip w (u1.setCells w.heap.size 0 (#[.int .i64 j.id, .int .i64 j.pr, .int .i64 j.nd, .int .i64 j.na, .int .i64 j.nb, .int .i64 j.nc, .int .i64 j.la, .int .i64 j.lb, .int .i64 j.lc, .int .i64 y, .int .i64 j.lv] : Array Value).toList) g a n cap) := Tip.setCs H.out w.heap.size (Nat.le_refl _) _ 0 ⟨HG.out, HC.out⟩
    generalize u1.setCells w.heap.size 0 _ = u8 at HR HT ⊢
    clear HJ HG HC
    go_wp2_with fail
    have r0 := HR.out.cell 0 _ rfl
    have r1 := HR.out.cell 1 _ rfl
    have r2 := HR.out.cell 2 _ rfl
    have r3 := HR.out.cell 3 _ rfl
    have r4 := HR.out.cell 4 _ rfl
    have r5 := HR.out.cell 5 _ rfl
    have r6 := HR.out.cell 6 _ rfl
    have r7 := HR.out.cell 7 _ rfl
    have r8 := HR.out.cell 8 _ rfl
    have r9 := HR.out.cell 9 _ rfl
    have r10 := HR.out.cell 10 _ rfl
    exact bodyPost_ret (v := .agg #[.int .i64 j.id, .int .i64 j.pr, .int .i64 j.nd, .int .i64 j.na, .int .i64 j.nb, .int .i64 j.nc, .int .i64 j.la, .int .i64 j.lb, .int .i64 j.lc, .int .i64 y, .int .i64 j.lv]) (by simp [results, Tryz.results45, go_sem, *]) rfl ⟨⟨j.id, j.pr, j.nd, j.na, j.nb, j.nc, j.la, j.lb, j.lc, y, j.lv⟩, rfl, HT.out.1, HT.out.2⟩
  · clear lo hi
    go_wp2_with fail
    refine (l01Raw_c g a n cap _ HC.out).mono ?_
    rintro e w3 ⟨y, rfl, hg, hc⟩
    replace HG : Hid (w.grownBy w3 (some g)) := Lib.grownBy_trans HG.out hg
    replace HR : Hid (Row w3 w.heap.size [.int .i64 0, .int .i64 0, .int .i64 0, .int .i64 0, .int .i64 0, .int .i64 0, .int .i64 0, .int .i64 0, .int .i64 0, .int .i64 0, .int .i64 0]) := HR.out.far hg (by intro e; exact hne (Option.some.inj e).symm)
    replace HJ : Hid (Row w3 q [.int .i64 j.id, .int .i64 j.pr, .int .i64 j.nd, .int .i64 j.na, .int .i64 j.nb, .int .i64 j.nc, .int .i64 j.la, .int .i64 j.lb, .int .i64 j.lc, .int .i64 j.wl, .int .i64 j.lv]) := HJ.out.far hg (by intro e; exact hgq (Option.some.inj e).symm)
    replace HC : Hid (Cur w3 g a n cap) := hc
    clear hg hc
    have dd := HJ.out.cell 10 _ rfl
    have ff := HJ.out.free 10
    go_wp2_with (refine stay_load 26 ?_)
    refine ⟨?_⟩
    clear dd ff
    replace HJ : Hid (Row (w3.setCell ⟨q, 10, none⟩ (.int .i64 y)) q [.int .i64 j.id, .int .i64 j.pr, .int .i64 j.nd, .int .i64 j.na, .int .i64 j.nb, .int .i64 j.nc, .int .i64 j.la, .int .i64 j.lb, .int .i64 j.lc, .int .i64 j.wl, .int .i64 y]) := HJ.out.set 10 (by simp) _
    replace HR : Hid (Row (w3.setCell ⟨q, 10, none⟩ (.int .i64 y)) w.heap.size [.int .i64 0, .int .i64 0, .int .i64 0, .int .i64 0, .int .i64 0, .int .i64 0, .int .i64 0, .int .i64 0, .int .i64 0, .int .i64 0, .int .i64 0]) := HR.out.apart q 10 _ hqr
    have HT0 : Hid (Tip w (w3.setCell ⟨q, 10, none⟩ (.int .i64 y)) g a n cap) := Tip.set H.out ⟨HG.out, HC.out⟩ q 10 (by omega) _
    generalize w3.setCell ⟨q, 10, none⟩ (.int .i64 y) = u1 at HR HJ HT0 ⊢
    clear HG HC
    have HG : Hid (w.grownBy u1 (some g)) := HT0.out.1
    have HC : Hid (Cur u1 g a n cap) := HT0.out.2
    refine wpList_load_mid rfl 26 _ rfl q 0 rfl [.int .i64 j.id, .int .i64 j.pr, .int .i64 j.nd, .int .i64 j.na, .int .i64 j.nb, .int .i64 j.nc, .int .i64 j.la, .int .i64 j.lb, .int .i64 j.lc, .int .i64 j.wl, .int .i64 y] _ HJ.out.all Tryz.underlying26 rfl szJobD ?_
    go_wp2_with (refine stay_store 26 ?_)
    refine ⟨?_⟩
    refine wpList_store_mid rfl 26 _ _ rfl w.heap.size 0 _ rfl rfl (HR.out.room 0 11 (by simp)) szJobD (by simp [Value.oneCell']) ?_
    replace HR : Hid (Row (u1.setCells w.heap.size 0 (#[.int .i64 j.id, .int .i64 j.pr, .int .i64 j.nd, .int .i64 j.na, .int .i64 j.nb, .int .i64 j.nc, .int .i64 j.la, .int .i64 j.lb, .int .i64 j.lc, .int .i64 j.wl, .int .i64 y] : Array Value).toList) w.heap.size [.int .i64 j.id, .int .i64 j.pr, .int .i64 j.nd, .int .i64 j.na, .int .i64 j.nb, .int .i64 j.nc, .int .i64 j.la, .int .i64 j.lb, .int .i64 j.lc, .int .i64 j.wl, .int .i64 y]) := Row.setCs _ 0 HR.out (by simp)
    have HT : Hid (Tip w (u1.setCells w.heap.size 0 (#[.int .i64 j.id, .int .i64 j.pr, .int .i64 j.nd, .int .i64 j.na, .int .i64 j.nb, .int .i64 j.nc, .int .i64 j.la, .int .i64 j.lb, .int .i64 j.lc, .int .i64 j.wl, .int .i64 y] : Array Value).toList) g a n cap) := Tip.setCs H.out w.heap.size (Nat.le_refl _) _ 0 ⟨HG.out, HC.out⟩
    generalize u1.setCells w.heap.size 0 _ = u8 at HR HT ⊢
    clear HJ HG HC
    go_wp2_with fail
    have r0 := HR.out.cell 0 _ rfl
    have r1 := HR.out.cell 1 _ rfl
    have r2 := HR.out.cell 2 _ rfl
    have r3 := HR.out.cell 3 _ rfl
    have r4 := HR.out.cell 4 _ rfl
    have r5 := HR.out.cell 5 _ rfl
    have r6 := HR.out.cell 6 _ rfl
    have r7 := HR.out.cell 7 _ rfl
    have r8 := HR.out.cell 8 _ rfl
    have r9 := HR.out.cell 9 _ rfl
    have r10 := HR.out.cell 10 _ rfl
    exact bodyPost_ret (v := .agg #[.int .i64 j.id, .int .i64 j.pr, .int .i64 j.nd, .int .i64 j.na, .int .i64 j.nb, .int .i64 j.nc, .int .i64 j.la, .int .i64 j.lb, .int .i64 j.lc, .int .i64 j.wl, .int .i64 y]) (by simp [results, Tryz.results45, go_sem, *]) rfl ⟨⟨j.id, j.pr, j.nd, j.na, j.nb, j.nc, j.la, j.lb, j.lc, j.wl, y⟩, rfl, HT.out.1, HT.out.2⟩
  · clear lo hi
    go_wp2_with fail
    refine (l01Raw_c g a n cap _ HC.out).mono ?_
    rintro e w3 ⟨y, rfl, hg, hc⟩
    replace HG : Hid (w.grownBy w3 (some g)) := Lib.grownBy_trans HG.out hg
    replace HR : Hid (Row w3 w.heap.size [.int .i64 0, .int .i64 0, .int .i64 0, .int .i64 0, .int .i64 0, .int .i64 0, .int .i64 0, .int .i64 0, .int .i64 0, .int .i64 0, .int .i64 0]) := HR.out.far hg (by intro e; exact hne (Option.some.inj e).symm)
    replace HJ : Hid (Row w3 q [.int .i64 j.id, .int .i64 j.pr, .int .i64 j.nd, .int .i64 j.na, .int .i64 j.nb, .int .i64 j.nc, .int .i64 j.la, .int .i64 j.lb, .int .i64 j.lc, .int .i64 j.wl, .int .i64 j.lv]) := HJ.out.far hg (by intro e; exact hgq (Option.some.inj e).symm)
    replace HC : Hid (Cur w3 g a n cap) := hc
    clear hg hc
    have dd := HJ.out.cell 1 _ rfl
    have ff := HJ.out.free 1
    go_wp2_with (refine stay_load 26 ?_)
    refine ⟨?_⟩
    clear dd ff
    replace HJ : Hid (Row (w3.setCell ⟨q, 1, none⟩ (.int .i64 y)) q [.int .i64 j.id, .int .i64 y, .int .i64 j.nd, .int .i64 j.na, .int .i64 j.nb, .int .i64 j.nc, .int .i64 j.la, .int .i64 j.lb, .int .i64 j.lc, .int .i64 j.wl, .int .i64 j.lv]) := HJ.out.set 1 (by simp) _
    replace HR : Hid (Row (w3.setCell ⟨q, 1, none⟩ (.int .i64 y)) w.heap.size [.int .i64 0, .int .i64 0, .int .i64 0, .int .i64 0, .int .i64 0, .int .i64 0, .int .i64 0, .int .i64 0, .int .i64 0, .int .i64 0, .int .i64 0]) := HR.out.apart q 1 _ hqr
    have HT0 : Hid (Tip w (w3.setCell ⟨q, 1, none⟩ (.int .i64 y)) g a n cap) := Tip.set H.out ⟨HG.out, HC.out⟩ q 1 (by omega) _
    generalize w3.setCell ⟨q, 1, none⟩ (.int .i64 y) = u1 at HR HJ HT0 ⊢
    clear HG HC
    have HG : Hid (w.grownBy u1 (some g)) := HT0.out.1
    have HC : Hid (Cur u1 g a n cap) := HT0.out.2
    refine wpList_load_mid rfl 26 _ rfl q 0 rfl [.int .i64 j.id, .int .i64 y, .int .i64 j.nd, .int .i64 j.na, .int .i64 j.nb, .int .i64 j.nc, .int .i64 j.la, .int .i64 j.lb, .int .i64 j.lc, .int .i64 j.wl, .int .i64 j.lv] _ HJ.out.all Tryz.underlying26 rfl szJobD ?_
    go_wp2_with (refine stay_store 26 ?_)
    refine ⟨?_⟩
    refine wpList_store_mid rfl 26 _ _ rfl w.heap.size 0 _ rfl rfl (HR.out.room 0 11 (by simp)) szJobD (by simp [Value.oneCell']) ?_
    replace HR : Hid (Row (u1.setCells w.heap.size 0 (#[.int .i64 j.id, .int .i64 y, .int .i64 j.nd, .int .i64 j.na, .int .i64 j.nb, .int .i64 j.nc, .int .i64 j.la, .int .i64 j.lb, .int .i64 j.lc, .int .i64 j.wl, .int .i64 j.lv] : Array Value).toList) w.heap.size [.int .i64 j.id, .int .i64 y, .int .i64 j.nd, .int .i64 j.na, .int .i64 j.nb, .int .i64 j.nc, .int .i64 j.la, .int .i64 j.lb, .int .i64 j.lc, .int .i64 j.wl, .int .i64 j.lv]) := Row.setCs _ 0 HR.out (by simp)
    have HT : Hid (Tip w (u1.setCells w.heap.size 0 (#[.int .i64 j.id, .int .i64 y, .int .i64 j.nd, .int .i64 j.na, .int .i64 j.nb, .int .i64 j.nc, .int .i64 j.la, .int .i64 j.lb, .int .i64 j.lc, .int .i64 j.wl, .int .i64 j.lv] : Array Value).toList) g a n cap) := Tip.setCs H.out w.heap.size (Nat.le_refl _) _ 0 ⟨HG.out, HC.out⟩
    generalize u1.setCells w.heap.size 0 _ = u8 at HR HT ⊢
    clear HJ HG HC
    go_wp2_with fail
    have r0 := HR.out.cell 0 _ rfl
    have r1 := HR.out.cell 1 _ rfl
    have r2 := HR.out.cell 2 _ rfl
    have r3 := HR.out.cell 3 _ rfl
    have r4 := HR.out.cell 4 _ rfl
    have r5 := HR.out.cell 5 _ rfl
    have r6 := HR.out.cell 6 _ rfl
    have r7 := HR.out.cell 7 _ rfl
    have r8 := HR.out.cell 8 _ rfl
    have r9 := HR.out.cell 9 _ rfl
    have r10 := HR.out.cell 10 _ rfl
    exact bodyPost_ret (v := .agg #[.int .i64 j.id, .int .i64 y, .int .i64 j.nd, .int .i64 j.na, .int .i64 j.nb, .int .i64 j.nc, .int .i64 j.la, .int .i64 j.lb, .int .i64 j.lc, .int .i64 j.wl, .int .i64 j.lv]) (by simp [results, Tryz.results45, go_sem, *]) rfl ⟨⟨j.id, y, j.nd, j.na, j.nb, j.nc, j.la, j.lb, j.lc, j.wl, j.lv⟩, rfl, HT.out.1, HT.out.2⟩
  · have e0 : (k == 0) = false := by simp; omega
    have e1 : (k == 1) = false := by simp; omega
    have e2 : (k == 2) = false := by simp; omega
    have e3 : (k == 3) = false := by simp; omega
    have e4 : (k == 4) = false := by simp; omega
    have e5 : (k == 5) = false := by simp; omega
    go_wp2_with (refine stay_load 26 ?_)
    refine ⟨?_⟩
    refine wpList_load_mid rfl 26 _ rfl q 0 rfl [.int .i64 j.id, .int .i64 j.pr, .int .i64 j.nd, .int .i64 j.na, .int .i64 j.nb, .int .i64 j.nc, .int .i64 j.la, .int .i64 j.lb, .int .i64 j.lc, .int .i64 j.wl, .int .i64 j.lv] _ HJ.out.all Tryz.underlying26 rfl szJobD ?_
    go_wp2_with (refine stay_store 26 ?_)
    refine ⟨?_⟩
    refine wpList_store_mid rfl 26 _ _ rfl w.heap.size 0 _ rfl rfl (HR.out.room 0 11 (by simp)) szJobD (by simp [Value.oneCell']) ?_
    replace HR : Hid (Row (w2.setCells w.heap.size 0 (#[.int .i64 j.id, .int .i64 j.pr, .int .i64 j.nd, .int .i64 j.na, .int .i64 j.nb, .int .i64 j.nc, .int .i64 j.la, .int .i64 j.lb, .int .i64 j.lc, .int .i64 j.wl, .int .i64 j.lv] : Array Value).toList) w.heap.size [.int .i64 j.id, .int .i64 j.pr, .int .i64 j.nd, .int .i64 j.na, .int .i64 j.nb, .int .i64 j.nc, .int .i64 j.la, .int .i64 j.lb, .int .i64 j.lc, .int .i64 j.wl, .int .i64 j.lv]) := Row.setCs _ 0 HR.out (by simp)
    have HT : Hid (Tip w (w2.setCells w.heap.size 0 (#[.int .i64 j.id, .int .i64 j.pr, .int .i64 j.nd, .int .i64 j.na, .int .i64 j.nb, .int .i64 j.nc, .int .i64 j.la, .int .i64 j.lb, .int .i64 j.lc, .int .i64 j.wl, .int .i64 j.lv] : Array Value).toList) g a n cap) := Tip.setCs H.out w.heap.size (Nat.le_refl _) _ 0 ⟨HG.out, HC.out⟩
    generalize w2.setCells w.heap.size 0 _ = u8 at HR HT ⊢
    clear HJ HG HC
    go_wp2_with fail
    have r0 := HR.out.cell 0 _ rfl
    have r1 := HR.out.cell 1 _ rfl
    have r2 := HR.out.cell 2 _ rfl
    have r3 := HR.out.cell 3 _ rfl
    have r4 := HR.out.cell 4 _ rfl
    have r5 := HR.out.cell 5 _ rfl
    have r6 := HR.out.cell 6 _ rfl
    have r7 := HR.out.cell 7 _ rfl
    have r8 := HR.out.cell 8 _ rfl
    have r9 := HR.out.cell 9 _ rfl
    have r10 := HR.out.cell 10 _ rfl
    exact bodyPost_ret (v := .agg #[.int .i64 j.id, .int .i64 j.pr, .int .i64 j.nd, .int .i64 j.na, .int .i64 j.nb, .int .i64 j.nc, .int .i64 j.la, .int .i64 j.lb, .int .i64 j.lc, .int .i64 j.wl, .int .i64 j.lv]) (by simp [results, Tryz.results45, go_sem, *]) rfl ⟨j, rfl, HT.out.1, HT.out.2⟩
end Go.Proofs.YtejleghdgdbbnaaGreatDoor

namespace Go.Proofs.YtejleghdgdbbnaaGreatDoor
open Go.ChangeShapes Go.WideShapes Go.ChangeAt Go.RowKit

set_option maxHeartbeats 4000000 in
set_option maxRecDepth 100000 in
theorem l08Cmd_c (g : Nat) (a : Option Addr) (n cap : Nat) (w : World) (h : Cur w g a n cap) :
    Calls Tryz.prog 25 #[.pointer (some ⟨g, 0, none⟩)] w fun e w' => ∃ x : Cm, e = .returned (.agg x.cells.toArray) ∧ w.grownBy w' (some g) ∧ Cur w' g a n cap := by
  have H : Hid (Cur w g a n cap) := h
  have hlt := h.lt
  have hne : g ≠ w.heap.size := by omega
  clear h
  go_enter Tryz.func25, Tryz.ntmps25
  go_wp2_with fail
  have HR : Hid (Row (w.alloc (.cells #[.int .i64 0, .int .i64 0, .int .i64 0, .int .i64 0, .int .i64 0, .int .i64 0, .int .i64 0, .int .i64 0, .int .i64 0, .int .i64 0, .int .i64 0, .int .i64 0, .int .i64 0, .int .i64 0, .int .i64 0, .int .i64 0] 28)) w.heap.size [.int .i64 0, .int .i64 0, .int .i64 0, .int .i64 0, .int .i64 0, .int .i64 0, .int .i64 0, .int .i64 0, .int .i64 0, .int .i64 0, .int .i64 0, .int .i64 0, .int .i64 0, .int .i64 0, .int .i64 0, .int .i64 0]) := row_new w [.int .i64 0, .int .i64 0, .int .i64 0, .int .i64 0, .int .i64 0, .int .i64 0, .int .i64 0, .int .i64 0, .int .i64 0, .int .i64 0, .int .i64 0, .int .i64 0, .int .i64 0, .int .i64 0, .int .i64 0, .int .i64 0] 28
  have HG : Hid (w.grownBy (w.alloc (.cells #[.int .i64 0, .int .i64 0, .int .i64 0, .int .i64 0, .int .i64 0, .int .i64 0, .int .i64 0, .int .i64 0, .int .i64 0, .int .i64 0, .int .i64 0, .int .i64 0, .int .i64 0, .int .i64 0, .int .i64 0, .int .i64 0] 28)) (some g)) := World.grownBy_alloc w _ _
  have HC : Hid (Cur (w.alloc (.cells #[.int .i64 0, .int .i64 0, .int .i64 0, .int .i64 0, .int .i64 0, .int .i64 0, .int .i64 0, .int .i64 0, .int .i64 0, .int .i64 0, .int .i64 0, .int .i64 0, .int .i64 0, .int .i64 0, .int .i64 0, .int .i64 0] 28)) g a n cap) := H.out.below (by go_grown)
  generalize w.alloc (.cells #[.int .i64 0, .int .i64 0, .int .i64 0, .int .i64 0, .int .i64 0, .int .i64 0, .int .i64 0, .int .i64 0, .int .i64 0, .int .i64 0, .int .i64 0, .int .i64 0, .int .i64 0, .int .i64 0, .int .i64 0, .int .i64 0] 28) = w0 at HR HG HC ⊢
  refine (l01Below_c g a n cap 14 (by decide) (by decide) _ HC.out).mono ?_
  rintro e w1 ⟨x1, rfl, lo1, hi1, hg, hc⟩
  replace HG : Hid (w.grownBy w1 (some g)) := Lib.grownBy_trans HG.out hg
  replace HR : Hid (Row w1 w.heap.size [.int .i64 0, .int .i64 0, .int .i64 0, .int .i64 0, .int .i64 0, .int .i64 0, .int .i64 0, .int .i64 0, .int .i64 0, .int .i64 0, .int .i64 0, .int .i64 0, .int .i64 0, .int .i64 0, .int .i64 0, .int .i64 0]) := HR.out.far hg (by intro e; exact hne (Option.some.inj e).symm)
  replace HC : Hid (Cur w1 g a n cap) := hc
  clear hg hc
  rcases (by omega : x1 < 6 ∨ (6 ≤ x1 ∧ x1 < 9) ∨ x1 = 9 ∨ (10 ≤ x1 ∧ x1 < 12) ∨ 12 ≤ x1) with h6 | ⟨h6, h9⟩ | rfl | ⟨h10, h12⟩ | h12
  · go_wp2_with fail
    have HL : Calls Tryz.prog 44 #[.pointer (some ⟨g, 0, none⟩)] w1 fun e w' => ∃ j : Jb, e = .returned (.agg #[.int .i64 j.id, .int .i64 j.pr, .int .i64 j.nd, .int .i64 j.na, .int .i64 j.nb, .int .i64 j.nc, .int .i64 j.la, .int .i64 j.lb, .int .i64 j.lc, .int .i64 j.wl, .int .i64 j.lv]) ∧ w1.grownBy w' (some g) ∧ Cur w' g a n cap := l04Job_c g a n cap _ HC.out
    refine (HL).mono ?_
    rintro e w2 ⟨j, rfl, hg, hc⟩
    replace HG : Hid (w.grownBy w2 (some g)) := Lib.grownBy_trans HG.out hg
    replace HR : Hid (Row w2 w.heap.size [.int .i64 0, .int .i64 0, .int .i64 0, .int .i64 0, .int .i64 0, .int .i64 0, .int .i64 0, .int .i64 0, .int .i64 0, .int .i64 0, .int .i64 0, .int .i64 0, .int .i64 0, .int .i64 0, .int .i64 0, .int .i64 0]) := HR.out.far hg (by intro e; exact hne (Option.some.inj e).symm)
    replace HC : Hid (Cur w2 g a n cap) := hc
    clear hg hc
    clear HL
    go_wp2_with (refine stay_store 28 ?_)
    refine ⟨?_⟩
    refine wpList_store_mid rfl 28 _ _ rfl w.heap.size 0 (#[.int .i64 1, .int .i64 j.id, .int .i64 j.pr, .int .i64 j.nd, .int .i64 j.na, .int .i64 j.nb, .int .i64 j.nc, .int .i64 j.la, .int .i64 j.lb, .int .i64 j.lc, .int .i64 j.wl, .int .i64 j.lv, .int .i64 0, .int .i64 0, .int .i64 0, .int .i64 0]) rfl rfl (HR.out.room 0 16 (by simp)) szCmdC (by simp [Value.oneCell']) ?_
    replace HR : Hid (Row (w2.setCells w.heap.size 0 (#[.int .i64 1, .int .i64 j.id, .int .i64 j.pr, .int .i64 j.nd, .int .i64 j.na, .int .i64 j.nb, .int .i64 j.nc, .int .i64 j.la, .int .i64 j.lb, .int .i64 j.lc, .int .i64 j.wl, .int .i64 j.lv, .int .i64 0, .int .i64 0, .int .i64 0, .int .i64 0] : Array Value).toList) w.heap.size [.int .i64 1, .int .i64 j.id, .int .i64 j.pr, .int .i64 j.nd, .int .i64 j.na, .int .i64 j.nb, .int .i64 j.nc, .int .i64 j.la, .int .i64 j.lb, .int .i64 j.lc, .int .i64 j.wl, .int .i64 j.lv, .int .i64 0, .int .i64 0, .int .i64 0, .int .i64 0]) := Row.setCs _ 0 HR.out (by simp)
    have HT : Hid (Tip w (w2.setCells w.heap.size 0 (#[.int .i64 1, .int .i64 j.id, .int .i64 j.pr, .int .i64 j.nd, .int .i64 j.na, .int .i64 j.nb, .int .i64 j.nc, .int .i64 j.la, .int .i64 j.lb, .int .i64 j.lc, .int .i64 j.wl, .int .i64 j.lv, .int .i64 0, .int .i64 0, .int .i64 0, .int .i64 0] : Array Value).toList) g a n cap) := Tip.setCs H.out w.heap.size (Nat.le_refl _) _ 0 ⟨HG.out, HC.out⟩
    generalize w2.setCells w.heap.size 0 _ = u8 at HR HT ⊢
    clear HG HC
    go_wp2_with fail
    have hv := run_loadVar_mid (P := Tryz.prog) u8 w.heap.size 0 28 [.int .i64 1, .int .i64 j.id, .int .i64 j.pr, .int .i64 j.nd, .int .i64 j.na, .int .i64 j.nb, .int .i64 j.nc, .int .i64 j.la, .int .i64 j.lb, .int .i64 j.lc, .int .i64 j.wl, .int .i64 j.lv, .int .i64 0, .int .i64 0, .int .i64 0, .int .i64 0] _ HR.out.all Tryz.underlying28 rfl szCmdC
    exact bodyPost_ret (v := .agg #[.int .i64 1, .int .i64 j.id, .int .i64 j.pr, .int .i64 j.nd, .int .i64 j.na, .int .i64 j.nb, .int .i64 j.nc, .int .i64 j.la, .int .i64 j.lb, .int .i64 j.lc, .int .i64 j.wl, .int .i64 j.lv, .int .i64 0, .int .i64 0, .int .i64 0, .int .i64 0]) (results_one Tryz.results25 rfl hv) rfl ⟨⟨1, j, 0, 0, 0, 0⟩, rfl, HT.out.1, HT.out.2⟩
  · have n6 : ¬ x1 < 6 := by omega
    go_wp2_with fail
    refine (l01Below_c g a n cap 120 (by decide) (by decide) _ HC.out).mono ?_
    rintro e w2 ⟨x2, rfl, lo2, hi2, hg, hc⟩
    replace HG : Hid (w.grownBy w2 (some g)) := Lib.grownBy_trans HG.out hg
    replace HR : Hid (Row w2 w.heap.size [.int .i64 0, .int .i64 0, .int .i64 0, .int .i64 0, .int .i64 0, .int .i64 0, .int .i64 0, .int .i64 0, .int .i64 0, .int .i64 0, .int .i64 0, .int .i64 0, .int .i64 0, .int .i64 0, .int .i64 0, .int .i64 0]) := HR.out.far hg (by intro e; exact hne (Option.some.inj e).symm)
    replace HC : Hid (Cur w2 g a n cap) := hc
    clear hg hc
    go_wp2_with (refine stay_store 28 ?_)
    refine ⟨?_⟩
    refine wpList_store_mid rfl 28 _ _ rfl w.heap.size 0 (#[.int .i64 7, .int .i64 0, .int .i64 0, .int .i64 0, .int .i64 0, .int .i64 0, .int .i64 0, .int .i64 0, .int .i64 0, .int .i64 0, .int .i64 0, .int .i64 0, .int .i64 x2, .int .i64 0, .int .i64 0, .int .i64 0]) rfl rfl (HR.out.room 0 16 (by simp)) szCmdC (by simp [Value.oneCell']) ?_
    replace HR : Hid (Row (w2.setCells w.heap.size 0 (#[.int .i64 7, .int .i64 0, .int .i64 0, .int .i64 0, .int .i64 0, .int .i64 0, .int .i64 0, .int .i64 0, .int .i64 0, .int .i64 0, .int .i64 0, .int .i64 0, .int .i64 x2, .int .i64 0, .int .i64 0, .int .i64 0] : Array Value).toList) w.heap.size [.int .i64 7, .int .i64 0, .int .i64 0, .int .i64 0, .int .i64 0, .int .i64 0, .int .i64 0, .int .i64 0, .int .i64 0, .int .i64 0, .int .i64 0, .int .i64 0, .int .i64 x2, .int .i64 0, .int .i64 0, .int .i64 0]) := Row.setCs _ 0 HR.out (by simp)
    have HT : Hid (Tip w (w2.setCells w.heap.size 0 (#[.int .i64 7, .int .i64 0, .int .i64 0, .int .i64 0, .int .i64 0, .int .i64 0, .int .i64 0, .int .i64 0, .int .i64 0, .int .i64 0, .int .i64 0, .int .i64 0, .int .i64 x2, .int .i64 0, .int .i64 0, .int .i64 0] : Array Value).toList) g a n cap) := Tip.setCs H.out w.heap.size (Nat.le_refl _) _ 0 ⟨HG.out, HC.out⟩
    generalize w2.setCells w.heap.size 0 _ = u8 at HR HT ⊢
    clear HG HC
    go_wp2_with fail
    have hv := run_loadVar_mid (P := Tryz.prog) u8 w.heap.size 0 28 [.int .i64 7, .int .i64 0, .int .i64 0, .int .i64 0, .int .i64 0, .int .i64 0, .int .i64 0, .int .i64 0, .int .i64 0, .int .i64 0, .int .i64 0, .int .i64 0, .int .i64 x2, .int .i64 0, .int .i64 0, .int .i64 0] _ HR.out.all Tryz.underlying28 rfl szCmdC
    exact bodyPost_ret (v := .agg #[.int .i64 7, .int .i64 0, .int .i64 0, .int .i64 0, .int .i64 0, .int .i64 0, .int .i64 0, .int .i64 0, .int .i64 0, .int .i64 0, .int .i64 0, .int .i64 0, .int .i64 x2, .int .i64 0, .int .i64 0, .int .i64 0]) (results_one Tryz.results25 rfl hv) rfl ⟨⟨7, jb0, x2, 0, 0, 0⟩, rfl, HT.out.1, HT.out.2⟩
  · go_wp2_with fail
    refine (l01Below_c g a n cap 6 (by decide) (by decide) _ HC.out).mono ?_
    rintro e w2 ⟨x2, rfl, lo2, hi2, hg, hc⟩
    replace HG : Hid (w.grownBy w2 (some g)) := Lib.grownBy_trans HG.out hg
    replace HR : Hid (Row w2 w.heap.size [.int .i64 0, .int .i64 0, .int .i64 0, .int .i64 0, .int .i64 0, .int .i64 0, .int .i64 0, .int .i64 0, .int .i64 0, .int .i64 0, .int .i64 0, .int .i64 0, .int .i64 0, .int .i64 0, .int .i64 0, .int .i64 0]) := HR.out.far hg (by intro e; exact hne (Option.some.inj e).symm)
    replace HC : Hid (Cur w2 g a n cap) := hc
    clear hg hc
    go_wp2_with fail
    refine (l01Below_c g a n cap 4 (by decide) (by decide) _ HC.out).mono ?_
    rintro e w3 ⟨x3, rfl, lo3, hi3, hg, hc⟩
    replace HG : Hid (w.grownBy w3 (some g)) := Lib.grownBy_trans HG.out hg
    replace HR : Hid (Row w3 w.heap.size [.int .i64 0, .int .i64 0, .int .i64 0, .int .i64 0, .int .i64 0, .int .i64 0, .int .i64 0, .int .i64 0, .int .i64 0, .int .i64 0, .int .i64 0, .int .i64 0, .int .i64 0, .int .i64 0, .int .i64 0, .int .i64 0]) := HR.out.far hg (by intro e; exact hne (Option.some.inj e).symm)
    replace HC : Hid (Cur w3 g a n cap) := hc
    clear hg hc
    go_wp2_with (refine stay_store 28 ?_)
    refine ⟨?_⟩
    refine wpList_store_mid rfl 28 _ _ rfl w.heap.size 0 (#[.int .i64 6, .int .i64 0, .int .i64 0, .int .i64 0, .int .i64 0, .int .i64 0, .int .i64 0, .int .i64 0, .int .i64 0, .int .i64 0, .int .i64 0, .int .i64 0, .int .i64 0, .int .i64 x2, .int .i64 x3, .int .i64 0]) rfl rfl (HR.out.room 0 16 (by simp)) szCmdC (by simp [Value.oneCell']) ?_
    replace HR : Hid (Row (w3.setCells w.heap.size 0 (#[.int .i64 6, .int .i64 0, .int .i64 0, .int .i64 0, .int .i64 0, .int .i64 0, .int .i64 0, .int .i64 0, .int .i64 0, .int .i64 0, .int .i64 0, .int .i64 0, .int .i64 0, .int .i64 x2, .int .i64 x3, .int .i64 0] : Array Value).toList) w.heap.size [.int .i64 6, .int .i64 0, .int .i64 0, .int .i64 0, .int .i64 0, .int .i64 0, .int .i64 0, .int .i64 0, .int .i64 0, .int .i64 0, .int .i64 0, .int .i64 0, .int .i64 0, .int .i64 x2, .int .i64 x3, .int .i64 0]) := Row.setCs _ 0 HR.out (by simp)
    have HT : Hid (Tip w (w3.setCells w.heap.size 0 (#[.int .i64 6, .int .i64 0, .int .i64 0, .int .i64 0, .int .i64 0, .int .i64 0, .int .i64 0, .int .i64 0, .int .i64 0, .int .i64 0, .int .i64 0, .int .i64 0, .int .i64 0, .int .i64 x2, .int .i64 x3, .int .i64 0] : Array Value).toList) g a n cap) := Tip.setCs H.out w.heap.size (Nat.le_refl _) _ 0 ⟨HG.out, HC.out⟩
    generalize w3.setCells w.heap.size 0 _ = u8 at HR HT ⊢
    clear HG HC
    go_wp2_with fail
    have hv := run_loadVar_mid (P := Tryz.prog) u8 w.heap.size 0 28 [.int .i64 6, .int .i64 0, .int .i64 0, .int .i64 0, .int .i64 0, .int .i64 0, .int .i64 0, .int .i64 0, .int .i64 0, .int .i64 0, .int .i64 0, .int .i64 0, .int .i64 0, .int .i64 x2, .int .i64 x3, .int .i64 0] _ HR.out.all Tryz.underlying28 rfl szCmdC
    exact bodyPost_ret (v := .agg #[.int .i64 6, .int .i64 0, .int .i64 0, .int .i64 0, .int .i64 0, .int .i64 0, .int .i64 0, .int .i64 0, .int .i64 0, .int .i64 0, .int .i64 0, .int .i64 0, .int .i64 0, .int .i64 x2, .int .i64 x3, .int .i64 0]) (results_one Tryz.results25 rfl hv) rfl ⟨⟨6, jb0, 0, x2, x3, 0⟩, rfl, HT.out.1, HT.out.2⟩
  · have n6 : ¬ x1 < 6 := by omega
    have n9 : ¬ x1 < 9 := by omega
    have e9 : (x1 == 9) = false := by simp; omega
    go_wp2_with fail
    refine (l01Below_c g a n cap 2 (by decide) (by decide) _ HC.out).mono ?_
    rintro e w2 ⟨x2, rfl, lo2, hi2, hg, hc⟩
    replace HG : Hid (w.grownBy w2 (some g)) := Lib.grownBy_trans HG.out hg
    replace HR : Hid (Row w2 w.heap.size [.int .i64 0, .int .i64 0, .int .i64 0, .int .i64 0, .int .i64 0, .int .i64 0, .int .i64 0, .int .i64 0, .int .i64 0, .int .i64 0, .int .i64 0, .int .i64 0, .int .i64 0, .int .i64 0, .int .i64 0, .int .i64 0]) := HR.out.far hg (by intro e; exact hne (Option.some.inj e).symm)
    replace HC : Hid (Cur w2 g a n cap) := hc
    clear hg hc
    go_wp2_with fail
    refine (l01Below_c g a n cap 30 (by decide) (by decide) _ HC.out).mono ?_
    rintro e w3 ⟨x3, rfl, lo3, hi3, hg, hc⟩
    replace HG : Hid (w.grownBy w3 (some g)) := Lib.grownBy_trans HG.out hg
    replace HR : Hid (Row w3 w.heap.size [.int .i64 0, .int .i64 0, .int .i64 0, .int .i64 0, .int .i64 0, .int .i64 0, .int .i64 0, .int .i64 0, .int .i64 0, .int .i64 0, .int .i64 0, .int .i64 0, .int .i64 0, .int .i64 0, .int .i64 0, .int .i64 0]) := HR.out.far hg (by intro e; exact hne (Option.some.inj e).symm)
    replace HC : Hid (Cur w3 g a n cap) := hc
    clear hg hc
    go_wp2_with (refine stay_store 28 ?_)
    refine ⟨?_⟩
    refine wpList_store_mid rfl 28 _ _ rfl w.heap.size 0 (#[.int .i64 (2 + x2), .int .i64 0, .int .i64 0, .int .i64 0, .int .i64 0, .int .i64 0, .int .i64 0, .int .i64 0, .int .i64 0, .int .i64 0, .int .i64 0, .int .i64 0, .int .i64 (1 + x3), .int .i64 0, .int .i64 0, .int .i64 0]) rfl rfl (HR.out.room 0 16 (by simp)) szCmdC (by simp [Value.oneCell']) ?_
    replace HR : Hid (Row (w3.setCells w.heap.size 0 (#[.int .i64 (2 + x2), .int .i64 0, .int .i64 0, .int .i64 0, .int .i64 0, .int .i64 0, .int .i64 0, .int .i64 0, .int .i64 0, .int .i64 0, .int .i64 0, .int .i64 0, .int .i64 (1 + x3), .int .i64 0, .int .i64 0, .int .i64 0] : Array Value).toList) w.heap.size [.int .i64 (2 + x2), .int .i64 0, .int .i64 0, .int .i64 0, .int .i64 0, .int .i64 0, .int .i64 0, .int .i64 0, .int .i64 0, .int .i64 0, .int .i64 0, .int .i64 0, .int .i64 (1 + x3), .int .i64 0, .int .i64 0, .int .i64 0]) := Row.setCs _ 0 HR.out (by simp)
    have HT : Hid (Tip w (w3.setCells w.heap.size 0 (#[.int .i64 (2 + x2), .int .i64 0, .int .i64 0, .int .i64 0, .int .i64 0, .int .i64 0, .int .i64 0, .int .i64 0, .int .i64 0, .int .i64 0, .int .i64 0, .int .i64 0, .int .i64 (1 + x3), .int .i64 0, .int .i64 0, .int .i64 0] : Array Value).toList) g a n cap) := Tip.setCs H.out w.heap.size (Nat.le_refl _) _ 0 ⟨HG.out, HC.out⟩
    generalize w3.setCells w.heap.size 0 _ = u8 at HR HT ⊢
    clear HG HC
    go_wp2_with fail
    have hv := run_loadVar_mid (P := Tryz.prog) u8 w.heap.size 0 28 [.int .i64 (2 + x2), .int .i64 0, .int .i64 0, .int .i64 0, .int .i64 0, .int .i64 0, .int .i64 0, .int .i64 0, .int .i64 0, .int .i64 0, .int .i64 0, .int .i64 0, .int .i64 (1 + x3), .int .i64 0, .int .i64 0, .int .i64 0] _ HR.out.all Tryz.underlying28 rfl szCmdC
    exact bodyPost_ret (v := .agg #[.int .i64 (2 + x2), .int .i64 0, .int .i64 0, .int .i64 0, .int .i64 0, .int .i64 0, .int .i64 0, .int .i64 0, .int .i64 0, .int .i64 0, .int .i64 0, .int .i64 0, .int .i64 (1 + x3), .int .i64 0, .int .i64 0, .int .i64 0]) (results_one Tryz.results25 rfl hv) rfl ⟨⟨2 + x2, jb0, 1 + x3, 0, 0, 0⟩, rfl, HT.out.1, HT.out.2⟩
  · have n6 : ¬ x1 < 6 := by omega
    have n9 : ¬ x1 < 9 := by omega
    have n12 : ¬ x1 < 12 := by omega
    have e9 : (x1 == 9) = false := by simp; omega
    go_wp2_with fail
    refine (l01Below_c g a n cap 2 (by decide) (by decide) _ HC.out).mono ?_
    rintro e w2 ⟨x2, rfl, lo2, hi2, hg, hc⟩
    replace HG : Hid (w.grownBy w2 (some g)) := Lib.grownBy_trans HG.out hg
    replace HR : Hid (Row w2 w.heap.size [.int .i64 0, .int .i64 0, .int .i64 0, .int .i64 0, .int .i64 0, .int .i64 0, .int .i64 0, .int .i64 0, .int .i64 0, .int .i64 0, .int .i64 0, .int .i64 0, .int .i64 0, .int .i64 0, .int .i64 0, .int .i64 0]) := HR.out.far hg (by intro e; exact hne (Option.some.inj e).symm)
    replace HC : Hid (Cur w2 g a n cap) := hc
    clear hg hc
    go_wp2_with fail
    refine (l01Below_c g a n cap 8 (by decide) (by decide) _ HC.out).mono ?_
    rintro e w3 ⟨x3, rfl, lo3, hi3, hg, hc⟩
    replace HG : Hid (w.grownBy w3 (some g)) := Lib.grownBy_trans HG.out hg
    replace HR : Hid (Row w3 w.heap.size [.int .i64 0, .int .i64 0, .int .i64 0, .int .i64 0, .int .i64 0, .int .i64 0, .int .i64 0, .int .i64 0, .int .i64 0, .int .i64 0, .int .i64 0, .int .i64 0, .int .i64 0, .int .i64 0, .int .i64 0, .int .i64 0]) := HR.out.far hg (by intro e; exact hne (Option.some.inj e).symm)
    replace HC : Hid (Cur w3 g a n cap) := hc
    clear hg hc
    go_wp2_with (refine stay_store 28 ?_)
    refine ⟨?_⟩
    refine wpList_store_mid rfl 28 _ _ rfl w.heap.size 0 (#[.int .i64 (4 + x2), .int .i64 0, .int .i64 0, .int .i64 0, .int .i64 0, .int .i64 0, .int .i64 0, .int .i64 0, .int .i64 0, .int .i64 0, .int .i64 0, .int .i64 0, .int .i64 x3, .int .i64 0, .int .i64 0, .int .i64 0]) rfl rfl (HR.out.room 0 16 (by simp)) szCmdC (by simp [Value.oneCell']) ?_
    replace HR : Hid (Row (w3.setCells w.heap.size 0 (#[.int .i64 (4 + x2), .int .i64 0, .int .i64 0, .int .i64 0, .int .i64 0, .int .i64 0, .int .i64 0, .int .i64 0, .int .i64 0, .int .i64 0, .int .i64 0, .int .i64 0, .int .i64 x3, .int .i64 0, .int .i64 0, .int .i64 0] : Array Value).toList) w.heap.size [.int .i64 (4 + x2), .int .i64 0, .int .i64 0, .int .i64 0, .int .i64 0, .int .i64 0, .int .i64 0, .int .i64 0, .int .i64 0, .int .i64 0, .int .i64 0, .int .i64 0, .int .i64 x3, .int .i64 0, .int .i64 0, .int .i64 0]) := Row.setCs _ 0 HR.out (by simp)
    have HT : Hid (Tip w (w3.setCells w.heap.size 0 (#[.int .i64 (4 + x2), .int .i64 0, .int .i64 0, .int .i64 0, .int .i64 0, .int .i64 0, .int .i64 0, .int .i64 0, .int .i64 0, .int .i64 0, .int .i64 0, .int .i64 0, .int .i64 x3, .int .i64 0, .int .i64 0, .int .i64 0] : Array Value).toList) g a n cap) := Tip.setCs H.out w.heap.size (Nat.le_refl _) _ 0 ⟨HG.out, HC.out⟩
    generalize w3.setCells w.heap.size 0 _ = u8 at HR HT ⊢
    clear HG HC
    go_wp2_with fail
    have hv := run_loadVar_mid (P := Tryz.prog) u8 w.heap.size 0 28 [.int .i64 (4 + x2), .int .i64 0, .int .i64 0, .int .i64 0, .int .i64 0, .int .i64 0, .int .i64 0, .int .i64 0, .int .i64 0, .int .i64 0, .int .i64 0, .int .i64 0, .int .i64 x3, .int .i64 0, .int .i64 0, .int .i64 0] _ HR.out.all Tryz.underlying28 rfl szCmdC
    exact bodyPost_ret (v := .agg #[.int .i64 (4 + x2), .int .i64 0, .int .i64 0, .int .i64 0, .int .i64 0, .int .i64 0, .int .i64 0, .int .i64 0, .int .i64 0, .int .i64 0, .int .i64 0, .int .i64 0, .int .i64 x3, .int .i64 0, .int .i64 0, .int .i64 0]) (results_one Tryz.results25 rfl hv) rfl ⟨⟨4 + x2, jb0, x3, 0, 0, 0⟩, rfl, HT.out.1, HT.out.2⟩
end Go.Proofs.YtejleghdgdbbnaaGreatDoor

namespace Go.Proofs.YtejleghdgdbbnaaGreatDoor
open Go.ChangeShapes Go.WideShapes Go.ChangeAt Go.RowKit

theorem Cm.cells_arr (x : Cm) : x.cells.toArray = #[.int .i64 x.s, .int .i64 x.j.id, .int .i64 x.j.pr, .int .i64 x.j.nd, .int .i64 x.j.na, .int .i64 x.j.nb, .int .i64 x.j.nc, .int .i64 x.j.la, .int .i64 x.j.lb, .int .i64 x.j.lc, .int .i64 x.j.wl, .int .i64 x.j.lv, .int .i64 x.n, .int .i64 x.a, .int .i64 x.b, .int .i64 x.c] := rfl
set_option maxHeartbeats 4000000 in
set_option maxRecDepth 100000 in
theorem l08AnyCmd_c (g : Nat) (a : Option Addr) (n cap : Nat) (w : World) (h : Cur w g a n cap) :
    Calls Tryz.prog 27 #[.pointer (some ⟨g, 0, none⟩)] w fun e w' => ∃ x : Cm, e = .returned (.agg x.cells.toArray) ∧ w.grownBy w' (some g) ∧ Cur w' g a n cap := by
  have H : Hid (Cur w g a n cap) := h
  have hlt := h.lt
  have hne : g ≠ w.heap.size := by omega
  clear h
  go_enter Tryz.func27, Tryz.ntmps27
  go_wp2_with fail
  have HR : Hid (Row (w.alloc (.cells #[.int .i64 0, .int .i64 0, .int .i64 0, .int .i64 0, .int .i64 0, .int .i64 0, .int .i64 0, .int .i64 0, .int .i64 0, .int .i64 0, .int .i64 0, .int .i64 0, .int .i64 0, .int .i64 0, .int .i64 0, .int .i64 0] 28)) w.heap.size [.int .i64 0, .int .i64 0, .int .i64 0, .int .i64 0, .int .i64 0, .int .i64 0, .int .i64 0, .int .i64 0, .int .i64 0, .int .i64 0, .int .i64 0, .int .i64 0, .int .i64 0, .int .i64 0, .int .i64 0, .int .i64 0]) := row_new w [.int .i64 0, .int .i64 0, .int .i64 0, .int .i64 0, .int .i64 0, .int .i64 0, .int .i64 0, .int .i64 0, .int .i64 0, .int .i64 0, .int .i64 0, .int .i64 0, .int .i64 0, .int .i64 0, .int .i64 0, .int .i64 0] 28
  have HG : Hid (w.grownBy (w.alloc (.cells #[.int .i64 0, .int .i64 0, .int .i64 0, .int .i64 0, .int .i64 0, .int .i64 0, .int .i64 0, .int .i64 0, .int .i64 0, .int .i64 0, .int .i64 0, .int .i64 0, .int .i64 0, .int .i64 0, .int .i64 0, .int .i64 0] 28)) (some g)) := World.grownBy_alloc w _ _
  have HC : Hid (Cur (w.alloc (.cells #[.int .i64 0, .int .i64 0, .int .i64 0, .int .i64 0, .int .i64 0, .int .i64 0, .int .i64 0, .int .i64 0, .int .i64 0, .int .i64 0, .int .i64 0, .int .i64 0, .int .i64 0, .int .i64 0, .int .i64 0, .int .i64 0] 28)) g a n cap) := H.out.below (by go_grown)
  generalize w.alloc (.cells #[.int .i64 0, .int .i64 0, .int .i64 0, .int .i64 0, .int .i64 0, .int .i64 0, .int .i64 0, .int .i64 0, .int .i64 0, .int .i64 0, .int .i64 0, .int .i64 0, .int .i64 0, .int .i64 0, .int .i64 0, .int .i64 0] 28) = w0 at HR HG HC ⊢
  have HL : Calls Tryz.prog 25 #[.pointer (some ⟨g, 0, none⟩)] w0 fun e w' => ∃ x : Cm, e = .returned (.agg #[.int .i64 x.s, .int .i64 x.j.id, .int .i64 x.j.pr, .int .i64 x.j.nd, .int .i64 x.j.na, .int .i64 x.j.nb, .int .i64 x.j.nc, .int .i64 x.j.la, .int .i64 x.j.lb, .int .i64 x.j.lc, .int .i64 x.j.wl, .int .i64 x.j.lv, .int .i64 x.n, .int .i64 x.a, .int .i64 x.b, .int .i64 x.c]) ∧ w0.grownBy w' (some g) ∧ Cur w' g a n cap := l08Cmd_c g a n cap _ HC.out
  refine HL.mono ?_
  clear HL
  rintro e w1 ⟨x, rfl, hg, hc⟩
  replace HG : Hid (w.grownBy w1 (some g)) := Lib.grownBy_trans HG.out hg
  replace HR : Hid (Row w1 w.heap.size [.int .i64 0, .int .i64 0, .int .i64 0, .int .i64 0, .int .i64 0, .int .i64 0, .int .i64 0, .int .i64 0, .int .i64 0, .int .i64 0, .int .i64 0, .int .i64 0, .int .i64 0, .int .i64 0, .int .i64 0, .int .i64 0]) := HR.out.far hg (by intro e; exact hne (Option.some.inj e).symm)
  replace HC : Hid (Cur w1 g a n cap) := hc
  clear hg hc
  go_wp2_with fail
  have HJ : Hid (Row (w1.alloc (.cells #[.int .i64 x.s, .int .i64 x.j.id, .int .i64 x.j.pr, .int .i64 x.j.nd, .int .i64 x.j.na, .int .i64 x.j.nb, .int .i64 x.j.nc, .int .i64 x.j.la, .int .i64 x.j.lb, .int .i64 x.j.lc, .int .i64 x.j.wl, .int .i64 x.j.lv, .int .i64 x.n, .int .i64 x.a, .int .i64 x.b, .int .i64 x.c] 28)) w1.heap.size [.int .i64 x.s, .int .i64 x.j.id, .int .i64 x.j.pr, .int .i64 x.j.nd, .int .i64 x.j.na, .int .i64 x.j.nb, .int .i64 x.j.nc, .int .i64 x.j.la, .int .i64 x.j.lb, .int .i64 x.j.lc, .int .i64 x.j.wl, .int .i64 x.j.lv, .int .i64 x.n, .int .i64 x.a, .int .i64 x.b, .int .i64 x.c]) := row_new w1 [.int .i64 x.s, .int .i64 x.j.id, .int .i64 x.j.pr, .int .i64 x.j.nd, .int .i64 x.j.na, .int .i64 x.j.nb, .int .i64 x.j.nc, .int .i64 x.j.la, .int .i64 x.j.lb, .int .i64 x.j.lc, .int .i64 x.j.wl, .int .i64 x.j.lv, .int .i64 x.n, .int .i64 x.a, .int .i64 x.b, .int .i64 x.c] 28
  have hq : w.heap.size < w1.heap.size := HR.out.lt
  replace HR : Hid (Row (w1.alloc (.cells #[.int .i64 x.s, .int .i64 x.j.id, .int .i64 x.j.pr, .int .i64 x.j.nd, .int .i64 x.j.na, .int .i64 x.j.nb, .int .i64 x.j.nc, .int .i64 x.j.la, .int .i64 x.j.lb, .int .i64 x.j.lc, .int .i64 x.j.wl, .int .i64 x.j.lv, .int .i64 x.n, .int .i64 x.a, .int .i64 x.b, .int .i64 x.c] 28)) w.heap.size [.int .i64 0, .int .i64 0, .int .i64 0, .int .i64 0, .int .i64 0, .int .i64 0, .int .i64 0, .int .i64 0, .int .i64 0, .int .i64 0, .int .i64 0, .int .i64 0, .int .i64 0, .int .i64 0, .int .i64 0, .int .i64 0]) := HR.out.below (low_alloc _ _)
  replace HG : Hid (w.grownBy (w1.alloc (.cells #[.int .i64 x.s, .int .i64 x.j.id, .int .i64 x.j.pr, .int .i64 x.j.nd, .int .i64 x.j.na, .int .i64 x.j.nb, .int .i64 x.j.nc, .int .i64 x.j.la, .int .i64 x.j.lb, .int .i64 x.j.lc, .int .i64 x.j.wl, .int .i64 x.j.lv, .int .i64 x.n, .int .i64 x.a, .int .i64 x.b, .int .i64 x.c] 28)) (some g)) := Lib.grownBy_below HG.out (low_alloc _ _)
  replace HC : Hid (Cur (w1.alloc (.cells #[.int .i64 x.s, .int .i64 x.j.id, .int .i64 x.j.pr, .int .i64 x.j.nd, .int .i64 x.j.na, .int .i64 x.j.nb, .int .i64 x.j.nc, .int .i64 x.j.la, .int .i64 x.j.lb, .int .i64 x.j.lc, .int .i64 x.j.wl, .int .i64 x.j.lv, .int .i64 x.n, .int .i64 x.a, .int .i64 x.b, .int .i64 x.c] 28)) g a n cap) := HC.out.below (low_alloc _ _)
  have hgq : g ≠ w1.heap.size := by have := HC.out.lt; omega
  generalize w1.alloc (.cells #[.int .i64 x.s, .int .i64 x.j.id, .int .i64 x.j.pr, .int .i64 x.j.nd, .int .i64 x.j.na, .int .i64 x.j.nb, .int .i64 x.j.nc, .int .i64 x.j.la, .int .i64 x.j.lb, .int .i64 x.j.lc, .int .i64 x.j.wl, .int .i64 x.j.lv, .int .i64 x.n, .int .i64 x.a, .int .i64 x.b, .int .i64 x.c] 28) = u0 at HR HG HC HJ ⊢
  generalize w1.heap.size = q at HJ hq hgq ⊢
  refine (l01Below_c g a n cap 14 (by decide) (by decide) _ HC.out).mono ?_
  rintro e w2 ⟨k, rfl, lo, hi, hg, hc⟩
  replace HG : Hid (w.grownBy w2 (some g)) := Lib.grownBy_trans HG.out hg
  replace HR : Hid (Row w2 w.heap.size [.int .i64 0, .int .i64 0, .int .i64 0, .int .i64 0, .int .i64 0, .int .i64 0, .int .i64 0, .int .i64 0, .int .i64 0, .int .i64 0, .int .i64 0, .int .i64 0, .int .i64 0, .int .i64 0, .int .i64 0, .int .i64 0]) := HR.out.far hg (by intro e; exact hne (Option.some.inj e).symm)
  replace HJ : Hid (Row w2 q [.int .i64 x.s, .int .i64 x.j.id, .int .i64 x.j.pr, .int .i64 x.j.nd, .int .i64 x.j.na, .int .i64 x.j.nb, .int .i64 x.j.nc, .int .i64 x.j.la, .int .i64 x.j.lb, .int .i64 x.j.lc, .int .i64 x.j.wl, .int .i64 x.j.lv, .int .i64 x.n, .int .i64 x.a, .int .i64 x.b, .int .i64 x.c]) := HJ.out.far hg (by intro e; exact hgq (Option.some.inj e).symm)
  replace HC : Hid (Cur w2 g a n cap) := hc
  clear hg hc
  have hqr : ¬ w.heap.size = q := by omega
  rcases (by omega : k = 0 ∨ k = 1 ∨ k = 2 ∨ k = 3 ∨ 3 < k) with rfl | rfl | rfl | rfl | h5
  · clear lo hi
    go_wp2_with fail
    refine (l01Raw_c g a n cap _ HC.out).mono ?_
    rintro e w3 ⟨y, rfl, hg, hc⟩
    replace HG : Hid (w.grownBy w3 (some g)) := Lib.grownBy_trans HG.out hg
    replace HR : Hid (Row w3 w.heap.size [.int .i64 0, .int .i64 0, .int .i64 0, .int .i64 0, .int .i64 0, .int .i64 0, .int .i64 0, .int .i64 0, .int .i64 0, .int .i64 0, .int .i64 0, .int .i64 0, .int .i64 0, .int .i64 0, .int .i64 0, .int .i64 0]) := HR.out.far hg (by intro e; exact hne (Option.some.inj e).symm)
    replace HJ : Hid (Row w3 q [.int .i64 x.s, .int .i64 x.j.id, .int .i64 x.j.pr, .int .i64 x.j.nd, .int .i64 x.j.na, .int .i64 x.j.nb, .int .i64 x.j.nc, .int .i64 x.j.la, .int .i64 x.j.lb, .int .i64 x.j.lc, .int .i64 x.j.wl, .int .i64 x.j.lv, .int .i64 x.n, .int .i64 x.a, .int .i64 x.b, .int .i64 x.c]) := HJ.out.far hg (by intro e; exact hgq (Option.some.inj e).symm)
    replace HC : Hid (Cur w3 g a n cap) := hc
    clear hg hc
    have dd := HJ.out.cell 0 _ rfl
    have ff := HJ.out.free 0
    go_wp2_with (refine stay_load 28 ?_)
    refine ⟨?_⟩
    clear dd ff
    replace HJ : Hid (Row (w3.setCell ⟨q, 0, none⟩ (.int .i64 y)) q [.int .i64 y, .int .i64 x.j.id, .int .i64 x.j.pr, .int .i64 x.j.nd, .int .i64 x.j.na, .int .i64 x.j.nb, .int .i64 x.j.nc, .int .i64 x.j.la, .int .i64 x.j.lb, .int .i64 x.j.lc, .int .i64 x.j.wl, .int .i64 x.j.lv, .int .i64 x.n, .int .i64 x.a, .int .i64 x.b, .int .i64 x.c]) := HJ.out.set 0 (by simp) _
    replace HR : Hid (Row (w3.setCell ⟨q, 0, none⟩ (.int .i64 y)) w.heap.size [.int .i64 0, .int .i64 0, .int .i64 0, .int .i64 0, .int .i64 0, .int .i64 0, .int .i64 0, .int .i64 0, .int .i64 0, .int .i64 0, .int .i64 0, .int .i64 0, .int .i64 0, .int .i64 0, .int .i64 0, .int .i64 0]) := HR.out.apart q 0 _ hqr
    have HT0 : Hid (Tip w (w3.setCell ⟨q, 0, none⟩ (.int .i64 y)) g a n cap) := Tip.set H.out ⟨HG.out, HC.out⟩ q 0 (by omega) _
    generalize w3.setCell ⟨q, 0, none⟩ (.int .i64 y) = u1 at HR HJ HT0 ⊢
    clear HG HC
    have HG : Hid (w.grownBy u1 (some g)) := HT0.out.1
    have HC : Hid (Cur u1 g a n cap) := HT0.out.2
    refine wpList_load_mid rfl 28 _ rfl q 0 rfl [.int .i64 y, .int .i64 x.j.id, .int .i64 x.j.pr, .int .i64 x.j.nd, .int .i64 x.j.na, .int .i64 x.j.nb, .int .i64 x.j.nc, .int .i64 x.j.la, .int .i64 x.j.lb, .int .i64 x.j.lc, .int .i64 x.j.wl, .int .i64 x.j.lv, .int .i64 x.n, .int .i64 x.a, .int .i64 x.b, .int .i64 x.c] _ HJ.out.all Tryz.underlying28 rfl szCmdC ?_
    go_wp2_with (refine stay_store 28 ?_)
    refine ⟨?_⟩
    refine wpList_store_mid rfl 28 _ _ rfl w.heap.size 0 _ rfl rfl (HR.out.room 0 16 (by simp)) szCmdC (by simp [Value.oneCell']) ?_
    replace HR : Hid (Row (u1.setCells w.heap.size 0 (#[.int .i64 y, .int .i64 x.j.id, .int .i64 x.j.pr, .int .i64 x.j.nd, .int .i64 x.j.na, .int .i64 x.j.nb, .int .i64 x.j.nc, .int .i64 x.j.la, .int .i64 x.j.lb, .int .i64 x.j.lc, .int .i64 x.j.wl, .int .i64 x.j.lv, .int .i64 x.n, .int .i64 x.a, .int .i64 x.b, .int .i64 x.c] : Array Value).toList) w.heap.size [.int .i64 y, .int .i64 x.j.id, .int .i64 x.j.pr, .int .i64 x.j.nd, .int .i64 x.j.na, .int .i64 x.j.nb, .int .i64 x.j.nc, .int .i64 x.j.la, .int .i64 x.j.lb, .int .i64 x.j.lc, .int .i64 x.j.wl, .int .i64 x.j.lv, .int .i64 x.n, .int .i64 x.a, .int .i64 x.b, .int .i64 x.c]) := Row.setCs _ 0 HR.out (by simp)
    have HT : Hid (Tip w (u1.setCells w.heap.size 0 (#[.int .i64 y, .int .i64 x.j.id, .int .i64 x.j.pr, .int .i64 x.j.nd, .int .i64 x.j.na, .int .i64 x.j.nb, .int .i64 x.j.nc, .int .i64 x.j.la, .int .i64 x.j.lb, .int .i64 x.j.lc, .int .i64 x.j.wl, .int .i64 x.j.lv, .int .i64 x.n, .int .i64 x.a, .int .i64 x.b, .int .i64 x.c] : Array Value).toList) g a n cap) := Tip.setCs H.out w.heap.size (Nat.le_refl _) _ 0 ⟨HG.out, HC.out⟩
    generalize u1.setCells w.heap.size 0 _ = u8 at HR HT ⊢
    clear HJ HG HC
    go_wp2_with fail
    have hv := run_loadVar_mid (P := Tryz.prog) u8 w.heap.size 0 28 [.int .i64 y, .int .i64 x.j.id, .int .i64 x.j.pr, .int .i64 x.j.nd, .int .i64 x.j.na, .int .i64 x.j.nb, .int .i64 x.j.nc, .int .i64 x.j.la, .int .i64 x.j.lb, .int .i64 x.j.lc, .int .i64 x.j.wl, .int .i64 x.j.lv, .int .i64 x.n, .int .i64 x.a, .int .i64 x.b, .int .i64 x.c] _ HR.out.all Tryz.underlying28 rfl szCmdC
    exact bodyPost_ret (v := .agg #[.int .i64 y, .int .i64 x.j.id, .int .i64 x.j.pr, .int .i64 x.j.nd, .int .i64 x.j.na, .int .i64 x.j.nb, .int .i64 x.j.nc, .int .i64 x.j.la, .int .i64 x.j.lb, .int .i64 x.j.lc, .int .i64 x.j.wl, .int .i64 x.j.lv, .int .i64 x.n, .int .i64 x.a, .int .i64 x.b, .int .i64 x.c]) (results_one Tryz.results27 rfl hv) rfl ⟨⟨y, x.j, x.n, x.a, x.b, x.c⟩, rfl, HT.out.1, HT.out.2⟩
  · clear lo hi
    go_wp2_with fail
    refine (l01Raw_c g a n cap _ HC.out).mono ?_
    rintro e w3 ⟨y, rfl, hg, hc⟩
    replace HG : Hid (w.grownBy w3 (some g)) := Lib.grownBy_trans HG.out hg
    replace HR : Hid (Row w3 w.heap.size [.int .i64 0, .int .i64 0, .int .i64 0, .int .i64 0, .int .i64 0, .int .i64 0, .int .i64 0, .int .i64 0, .int .i64 0, .int .i64 0, .int .i64 0, .int .i64 0, .int .i64 0, .int .i64 0, .int .i64 0, .int .i64 0]) := HR.out.far hg (by intro e; exact hne (Option.some.inj e).symm)
    replace HJ : Hid (Row w3 q [.int .i64 x.s, .int .i64 x.j.id, .int .i64 x.j.pr, .int .i64 x.j.nd, .int .i64 x.j.na, .int .i64 x.j.nb, .int .i64 x.j.nc, .int .i64 x.j.la, .int .i64 x.j.lb, .int .i64 x.j.lc, .int .i64 x.j.wl, .int .i64 x.j.lv, .int .i64 x.n, .int .i64 x.a, .int .i64 x.b, .int .i64 x.c]) := HJ.out.far hg (by intro e; exact hgq (Option.some.inj e).symm)
    replace HC : Hid (Cur w3 g a n cap) := hc
    clear hg hc
    have dd := HJ.out.cell 12 _ rfl
    have ff := HJ.out.free 12
    go_wp2_with (refine stay_load 28 ?_)
    refine ⟨?_⟩
    clear dd ff
    replace HJ : Hid (Row (w3.setCell ⟨q, 12, none⟩ (.int .i64 y)) q [.int .i64 x.s, .int .i64 x.j.id, .int .i64 x.j.pr, .int .i64 x.j.nd, .int .i64 x.j.na, .int .i64 x.j.nb, .int .i64 x.j.nc, .int .i64 x.j.la, .int .i64 x.j.lb, .int .i64 x.j.lc, .int .i64 x.j.wl, .int .i64 x.j.lv, .int .i64 y, .int .i64 x.a, .int .i64 x.b, .int .i64 x.c]) := HJ.out.set 12 (by simp) _
    replace HR : Hid (Row (w3.setCell ⟨q, 12, none⟩ (.int .i64 y)) w.heap.size [.int .i64 0, .int .i64 0, .int .i64 0, .int .i64 0, .int .i64 0, .int .i64 0, .int .i64 0, .int .i64 0, .int .i64 0, .int .i64 0, .int .i64 0, .int .i64 0, .int .i64 0, .int .i64 0, .int .i64 0, .int .i64 0]) := HR.out.apart q 12 _ hqr
    have HT0 : Hid (Tip w (w3.setCell ⟨q, 12, none⟩ (.int .i64 y)) g a n cap) := Tip.set H.out ⟨HG.out, HC.out⟩ q 12 (by omega) _
    generalize w3.setCell ⟨q, 12, none⟩ (.int .i64 y) = u1 at HR HJ HT0 ⊢
    clear HG HC
    have HG : Hid (w.grownBy u1 (some g)) := HT0.out.1
    have HC : Hid (Cur u1 g a n cap) := HT0.out.2
    refine wpList_load_mid rfl 28 _ rfl q 0 rfl [.int .i64 x.s, .int .i64 x.j.id, .int .i64 x.j.pr, .int .i64 x.j.nd, .int .i64 x.j.na, .int .i64 x.j.nb, .int .i64 x.j.nc, .int .i64 x.j.la, .int .i64 x.j.lb, .int .i64 x.j.lc, .int .i64 x.j.wl, .int .i64 x.j.lv, .int .i64 y, .int .i64 x.a, .int .i64 x.b, .int .i64 x.c] _ HJ.out.all Tryz.underlying28 rfl szCmdC ?_
    go_wp2_with (refine stay_store 28 ?_)
    refine ⟨?_⟩
    refine wpList_store_mid rfl 28 _ _ rfl w.heap.size 0 _ rfl rfl (HR.out.room 0 16 (by simp)) szCmdC (by simp [Value.oneCell']) ?_
    replace HR : Hid (Row (u1.setCells w.heap.size 0 (#[.int .i64 x.s, .int .i64 x.j.id, .int .i64 x.j.pr, .int .i64 x.j.nd, .int .i64 x.j.na, .int .i64 x.j.nb, .int .i64 x.j.nc, .int .i64 x.j.la, .int .i64 x.j.lb, .int .i64 x.j.lc, .int .i64 x.j.wl, .int .i64 x.j.lv, .int .i64 y, .int .i64 x.a, .int .i64 x.b, .int .i64 x.c] : Array Value).toList) w.heap.size [.int .i64 x.s, .int .i64 x.j.id, .int .i64 x.j.pr, .int .i64 x.j.nd, .int .i64 x.j.na, .int .i64 x.j.nb, .int .i64 x.j.nc, .int .i64 x.j.la, .int .i64 x.j.lb, .int .i64 x.j.lc, .int .i64 x.j.wl, .int .i64 x.j.lv, .int .i64 y, .int .i64 x.a, .int .i64 x.b, .int .i64 x.c]) := Row.setCs _ 0 HR.out (by simp)
    have HT : Hid (Tip w (u1.setCells w.heap.size 0 (#[.int .i64 x.s, .int .i64 x.j.id, .int .i64 x.j.pr, .int .i64 x.j.nd, .int .i64 x.j.na, .int .i64 x.j.nb, .int .i64 x.j.nc, .int .i64 x.j.la, .int .i64 x.j.lb, .int .i64 x.j.lc, .int .i64 x.j.wl, .int .i64 x.j.lv, .int .i64 y, .int .i64 x.a, .int .i64 x.b, .int .i64 x.c] : Array Value).toList) g a n cap) := Tip.setCs H.out w.heap.size (Nat.le_refl _) _ 0 ⟨HG.out, HC.out⟩
    generalize u1.setCells w.heap.size 0 _ = u8 at HR HT ⊢
    clear HJ HG HC
    go_wp2_with fail
    have hv := run_loadVar_mid (P := Tryz.prog) u8 w.heap.size 0 28 [.int .i64 x.s, .int .i64 x.j.id, .int .i64 x.j.pr, .int .i64 x.j.nd, .int .i64 x.j.na, .int .i64 x.j.nb, .int .i64 x.j.nc, .int .i64 x.j.la, .int .i64 x.j.lb, .int .i64 x.j.lc, .int .i64 x.j.wl, .int .i64 x.j.lv, .int .i64 y, .int .i64 x.a, .int .i64 x.b, .int .i64 x.c] _ HR.out.all Tryz.underlying28 rfl szCmdC
    exact bodyPost_ret (v := .agg #[.int .i64 x.s, .int .i64 x.j.id, .int .i64 x.j.pr, .int .i64 x.j.nd, .int .i64 x.j.na, .int .i64 x.j.nb, .int .i64 x.j.nc, .int .i64 x.j.la, .int .i64 x.j.lb, .int .i64 x.j.lc, .int .i64 x.j.wl, .int .i64 x.j.lv, .int .i64 y, .int .i64 x.a, .int .i64 x.b, .int .i64 x.c]) (results_one Tryz.results27 rfl hv) rfl ⟨⟨x.s, x.j, y, x.a, x.b, x.c⟩, rfl, HT.out.1, HT.out.2⟩
  · have HAJ : ∀ W, Cur W g a n cap → Calls Tryz.prog 45 #[.pointer (some ⟨g, 0, none⟩)] W fun e w' => ∃ j : Jb, e = .returned (.agg #[.int .i64 j.id, .int .i64 j.pr, .int .i64 j.nd, .int .i64 j.na, .int .i64 j.nb, .int .i64 j.nc, .int .i64 j.la, .int .i64 j.lb, .int .i64 j.lc, .int .i64 j.wl, .int .i64 j.lv]) ∧ W.grownBy w' (some g) ∧ Cur w' g a n cap := fun W hW => l04AnyJob_c g a n cap _ hW
    clear lo hi
    go_wp2_with fail
    refine (HAJ _ HC.out).mono ?_
    rintro e w3 ⟨j, rfl, hg, hc⟩
    replace HG : Hid (w.grownBy w3 (some g)) := Lib.grownBy_trans HG.out hg
    replace HR : Hid (Row w3 w.heap.size [.int .i64 0, .int .i64 0, .int .i64 0, .int .i64 0, .int .i64 0, .int .i64 0, .int .i64 0, .int .i64 0, .int .i64 0, .int .i64 0, .int .i64 0, .int .i64 0, .int .i64 0, .int .i64 0, .int .i64 0, .int .i64 0]) := HR.out.far hg (by intro e; exact hne (Option.some.inj e).symm)
    replace HJ : Hid (Row w3 q [.int .i64 x.s, .int .i64 x.j.id, .int .i64 x.j.pr, .int .i64 x.j.nd, .int .i64 x.j.na, .int .i64 x.j.nb, .int .i64 x.j.nc, .int .i64 x.j.la, .int .i64 x.j.lb, .int .i64 x.j.lc, .int .i64 x.j.wl, .int .i64 x.j.lv, .int .i64 x.n, .int .i64 x.a, .int .i64 x.b, .int .i64 x.c]) := HJ.out.far hg (by intro e; exact hgq (Option.some.inj e).symm)
    replace HC : Hid (Cur w3 g a n cap) := hc
    clear hg hc
    go_wp2_with (refine stay_store 26 ?_)
    refine ⟨?_⟩
    refine wpList_store_mid rfl 26 _ _ rfl q 1 _ rfl rfl (HJ.out.room 1 11 (by simp)) szJobD (by simp [Value.oneCell']) ?_
    replace HJ : Hid (Row (w3.setCells q 1 (#[.int .i64 j.id, .int .i64 j.pr, .int .i64 j.nd, .int .i64 j.na, .int .i64 j.nb, .int .i64 j.nc, .int .i64 j.la, .int .i64 j.lb, .int .i64 j.lc, .int .i64 j.wl, .int .i64 j.lv] : Array Value).toList) q [.int .i64 x.s, .int .i64 j.id, .int .i64 j.pr, .int .i64 j.nd, .int .i64 j.na, .int .i64 j.nb, .int .i64 j.nc, .int .i64 j.la, .int .i64 j.lb, .int .i64 j.lc, .int .i64 j.wl, .int .i64 j.lv, .int .i64 x.n, .int .i64 x.a, .int .i64 x.b, .int .i64 x.c]) := Row.setCs _ 1 HJ.out (by simp)
    replace HR : Hid (Row (w3.setCells q 1 (#[.int .i64 j.id, .int .i64 j.pr, .int .i64 j.nd, .int .i64 j.na, .int .i64 j.nb, .int .i64 j.nc, .int .i64 j.la, .int .i64 j.lb, .int .i64 j.lc, .int .i64 j.wl, .int .i64 j.lv] : Array Value).toList) w.heap.size [.int .i64 0, .int .i64 0, .int .i64 0, .int .i64 0, .int .i64 0, .int .i64 0, .int .i64 0, .int .i64 0, .int .i64 0, .int .i64 0, .int .i64 0, .int .i64 0, .int .i64 0, .int .i64 0, .int .i64 0, .int .i64 0]) := HR.out.apartCs hqr _ 1
    have HT0 : Hid (Tip w (w3.setCells q 1 (#[.int .i64 j.id, .int .i64 j.pr, .int .i64 j.nd, .int .i64 j.na, .int .i64 j.nb, .int .i64 j.nc, .int .i64 j.la, .int .i64 j.lb, .int .i64 j.lc, .int .i64 j.wl, .int .i64 j.lv] : Array Value).toList) g a n cap) := Tip.setCs H.out q (by omega) _ 1 ⟨HG.out, HC.out⟩
    generalize w3.setCells q 1 _ = u1 at HR HJ HT0 ⊢
    clear HG HC
    have HG : Hid (w.grownBy u1 (some g)) := HT0.out.1
    have HC : Hid (Cur u1 g a n cap) := HT0.out.2
    go_wp2_with (refine stay_load 28 ?_)
    refine ⟨?_⟩
    refine wpList_load_mid rfl 28 _ rfl q 0 rfl [.int .i64 x.s, .int .i64 j.id, .int .i64 j.pr, .int .i64 j.nd, .int .i64 j.na, .int .i64 j.nb, .int .i64 j.nc, .int .i64 j.la, .int .i64 j.lb, .int .i64 j.lc, .int .i64 j.wl, .int .i64 j.lv, .int .i64 x.n, .int .i64 x.a, .int .i64 x.b, .int .i64 x.c] _ HJ.out.all Tryz.underlying28 rfl szCmdC ?_
    go_wp2_with (refine stay_store 28 ?_)
    refine ⟨?_⟩
    refine wpList_store_mid rfl 28 _ _ rfl w.heap.size 0 _ rfl rfl (HR.out.room 0 16 (by simp)) szCmdC (by simp [Value.oneCell']) ?_
    replace HR : Hid (Row (u1.setCells w.heap.size 0 (#[.int .i64 x.s, .int .i64 j.id, .int .i64 j.pr, .int .i64 j.nd, .int .i64 j.na, .int .i64 j.nb, .int .i64 j.nc, .int .i64 j.la, .int .i64 j.lb, .int .i64 j.lc, .int .i64 j.wl, .int .i64 j.lv, .int .i64 x.n, .int .i64 x.a, .int .i64 x.b, .int .i64 x.c] : Array Value).toList) w.heap.size [.int .i64 x.s, .int .i64 j.id, .int .i64 j.pr, .int .i64 j.nd, .int .i64 j.na, .int .i64 j.nb, .int .i64 j.nc, .int .i64 j.la, .int .i64 j.lb, .int .i64 j.lc, .int .i64 j.wl, .int .i64 j.lv, .int .i64 x.n, .int .i64 x.a, .int .i64 x.b, .int .i64 x.c]) := Row.setCs _ 0 HR.out (by simp)
    have HT : Hid (Tip w (u1.setCells w.heap.size 0 (#[.int .i64 x.s, .int .i64 j.id, .int .i64 j.pr, .int .i64 j.nd, .int .i64 j.na, .int .i64 j.nb, .int .i64 j.nc, .int .i64 j.la, .int .i64 j.lb, .int .i64 j.lc, .int .i64 j.wl, .int .i64 j.lv, .int .i64 x.n, .int .i64 x.a, .int .i64 x.b, .int .i64 x.c] : Array Value).toList) g a n cap) := Tip.setCs H.out w.heap.size (Nat.le_refl _) _ 0 ⟨HG.out, HC.out⟩
    generalize u1.setCells w.heap.size 0 _ = u8 at HR HT ⊢
    clear HJ HG HC
    go_wp2_with fail
    have hv := run_loadVar_mid (P := Tryz.prog) u8 w.heap.size 0 28 [.int .i64 x.s, .int .i64 j.id, .int .i64 j.pr, .int .i64 j.nd, .int .i64 j.na, .int .i64 j.nb, .int .i64 j.nc, .int .i64 j.la, .int .i64 j.lb, .int .i64 j.lc, .int .i64 j.wl, .int .i64 j.lv, .int .i64 x.n, .int .i64 x.a, .int .i64 x.b, .int .i64 x.c] _ HR.out.all Tryz.underlying28 rfl szCmdC
    exact bodyPost_ret (v := .agg #[.int .i64 x.s, .int .i64 j.id, .int .i64 j.pr, .int .i64 j.nd, .int .i64 j.na, .int .i64 j.nb, .int .i64 j.nc, .int .i64 j.la, .int .i64 j.lb, .int .i64 j.lc, .int .i64 j.wl, .int .i64 j.lv, .int .i64 x.n, .int .i64 x.a, .int .i64 x.b, .int .i64 x.c]) (results_one Tryz.results27 rfl hv) rfl ⟨⟨x.s, j, x.n, x.a, x.b, x.c⟩, rfl, HT.out.1, HT.out.2⟩
  · clear lo hi
    go_wp2_with fail
    refine (l01Any_c g a n cap _ HC.out).mono ?_
    rintro e w3 ⟨y1, y2, y3, rfl, hg, hc⟩
    replace HG : Hid (w.grownBy w3 (some g)) := Lib.grownBy_trans HG.out hg
    replace HR : Hid (Row w3 w.heap.size [.int .i64 0, .int .i64 0, .int .i64 0, .int .i64 0, .int .i64 0, .int .i64 0, .int .i64 0, .int .i64 0, .int .i64 0, .int .i64 0, .int .i64 0, .int .i64 0, .int .i64 0, .int .i64 0, .int .i64 0, .int .i64 0]) := HR.out.far hg (by intro e; exact hne (Option.some.inj e).symm)
    replace HJ : Hid (Row w3 q [.int .i64 x.s, .int .i64 x.j.id, .int .i64 x.j.pr, .int .i64 x.j.nd, .int .i64 x.j.na, .int .i64 x.j.nb, .int .i64 x.j.nc, .int .i64 x.j.la, .int .i64 x.j.lb, .int .i64 x.j.lc, .int .i64 x.j.wl, .int .i64 x.j.lv, .int .i64 x.n, .int .i64 x.a, .int .i64 x.b, .int .i64 x.c]) := HJ.out.far hg (by intro e; exact hgq (Option.some.inj e).symm)
    replace HC : Hid (Cur w3 g a n cap) := hc
    clear hg hc
    go_wp2_with (refine stay_store 24 ?_)
    refine ⟨?_⟩
    refine wpList_store_mid rfl 24 _ _ rfl q 13 _ rfl rfl (HJ.out.room 13 3 (by simp)) szVecD (by simp [Value.oneCell']) ?_
    replace HJ : Hid (Row (w3.setCells q 13 (#[.int .i64 y1, .int .i64 y2, .int .i64 y3] : Array Value).toList) q [.int .i64 x.s, .int .i64 x.j.id, .int .i64 x.j.pr, .int .i64 x.j.nd, .int .i64 x.j.na, .int .i64 x.j.nb, .int .i64 x.j.nc, .int .i64 x.j.la, .int .i64 x.j.lb, .int .i64 x.j.lc, .int .i64 x.j.wl, .int .i64 x.j.lv, .int .i64 x.n, .int .i64 y1, .int .i64 y2, .int .i64 y3]) := Row.setCs _ 13 HJ.out (by simp)
    replace HR : Hid (Row (w3.setCells q 13 (#[.int .i64 y1, .int .i64 y2, .int .i64 y3] : Array Value).toList) w.heap.size [.int .i64 0, .int .i64 0, .int .i64 0, .int .i64 0, .int .i64 0, .int .i64 0, .int .i64 0, .int .i64 0, .int .i64 0, .int .i64 0, .int .i64 0, .int .i64 0, .int .i64 0, .int .i64 0, .int .i64 0, .int .i64 0]) := HR.out.apartCs hqr _ 13
    have HT0 : Hid (Tip w (w3.setCells q 13 (#[.int .i64 y1, .int .i64 y2, .int .i64 y3] : Array Value).toList) g a n cap) := Tip.setCs H.out q (by omega) _ 13 ⟨HG.out, HC.out⟩
    generalize w3.setCells q 13 _ = u1 at HR HJ HT0 ⊢
    clear HG HC
    have HG : Hid (w.grownBy u1 (some g)) := HT0.out.1
    have HC : Hid (Cur u1 g a n cap) := HT0.out.2
    go_wp2_with (refine stay_load 28 ?_)
    refine ⟨?_⟩
    refine wpList_load_mid rfl 28 _ rfl q 0 rfl [.int .i64 x.s, .int .i64 x.j.id, .int .i64 x.j.pr, .int .i64 x.j.nd, .int .i64 x.j.na, .int .i64 x.j.nb, .int .i64 x.j.nc, .int .i64 x.j.la, .int .i64 x.j.lb, .int .i64 x.j.lc, .int .i64 x.j.wl, .int .i64 x.j.lv, .int .i64 x.n, .int .i64 y1, .int .i64 y2, .int .i64 y3] _ HJ.out.all Tryz.underlying28 rfl szCmdC ?_
    go_wp2_with (refine stay_store 28 ?_)
    refine ⟨?_⟩
    refine wpList_store_mid rfl 28 _ _ rfl w.heap.size 0 _ rfl rfl (HR.out.room 0 16 (by simp)) szCmdC (by simp [Value.oneCell']) ?_
    replace HR : Hid (Row (u1.setCells w.heap.size 0 (#[.int .i64 x.s, .int .i64 x.j.id, .int .i64 x.j.pr, .int .i64 x.j.nd, .int .i64 x.j.na, .int .i64 x.j.nb, .int .i64 x.j.nc, .int .i64 x.j.la, .int .i64 x.j.lb, .int .i64 x.j.lc, .int .i64 x.j.wl, .int .i64 x.j.lv, .int .i64 x.n, .int .i64 y1, .int .i64 y2, .int .i64 y3] : Array Value).toList) w.heap.size [.int .i64 x.s, .int .i64 x.j.id, .int .i64 x.j.pr, .int .i64 x.j.nd, .int .i64 x.j.na, .int .i64 x.j.nb, .int .i64 x.j.nc, .int .i64 x.j.la, .int .i64 x.j.lb, .int .i64 x.j.lc, .int .i64 x.j.wl, .int .i64 x.j.lv, .int .i64 x.n, .int .i64 y1, .int .i64 y2, .int .i64 y3]) := Row.setCs _ 0 HR.out (by simp)
    have HT : Hid (Tip w (u1.setCells w.heap.size 0 (#[.int .i64 x.s, .int .i64 x.j.id, .int .i64 x.j.pr, .int .i64 x.j.nd, .int .i64 x.j.na, .int .i64 x.j.nb, .int .i64 x.j.nc, .int .i64 x.j.la, .int .i64 x.j.lb, .int .i64 x.j.lc, .int .i64 x.j.wl, .int .i64 x.j.lv, .int .i64 x.n, .int .i64 y1, .int .i64 y2, .int .i64 y3] : Array Value).toList) g a n cap) := Tip.setCs H.out w.heap.size (Nat.le_refl _) _ 0 ⟨HG.out, HC.out⟩
    generalize u1.setCells w.heap.size 0 _ = u8 at HR HT ⊢
    clear HJ HG HC
    go_wp2_with fail
    have hv := run_loadVar_mid (P := Tryz.prog) u8 w.heap.size 0 28 [.int .i64 x.s, .int .i64 x.j.id, .int .i64 x.j.pr, .int .i64 x.j.nd, .int .i64 x.j.na, .int .i64 x.j.nb, .int .i64 x.j.nc, .int .i64 x.j.la, .int .i64 x.j.lb, .int .i64 x.j.lc, .int .i64 x.j.wl, .int .i64 x.j.lv, .int .i64 x.n, .int .i64 y1, .int .i64 y2, .int .i64 y3] _ HR.out.all Tryz.underlying28 rfl szCmdC
    exact bodyPost_ret (v := .agg #[.int .i64 x.s, .int .i64 x.j.id, .int .i64 x.j.pr, .int .i64 x.j.nd, .int .i64 x.j.na, .int .i64 x.j.nb, .int .i64 x.j.nc, .int .i64 x.j.la, .int .i64 x.j.lb, .int .i64 x.j.lc, .int .i64 x.j.wl, .int .i64 x.j.lv, .int .i64 x.n, .int .i64 y1, .int .i64 y2, .int .i64 y3]) (results_one Tryz.results27 rfl hv) rfl ⟨⟨x.s, x.j, x.n, y1, y2, y3⟩, rfl, HT.out.1, HT.out.2⟩
  · have e0 : (k == 0) = false := by simp; omega
    have e1 : (k == 1) = false := by simp; omega
    have e2 : (k == 2) = false := by simp; omega
    have e3 : (k == 3) = false := by simp; omega
    go_wp2_with (refine stay_load 28 ?_)
    refine ⟨?_⟩
    refine wpList_load_mid rfl 28 _ rfl q 0 rfl [.int .i64 x.s, .int .i64 x.j.id, .int .i64 x.j.pr, .int .i64 x.j.nd, .int .i64 x.j.na, .int .i64 x.j.nb, .int .i64 x.j.nc, .int .i64 x.j.la, .int .i64 x.j.lb, .int .i64 x.j.lc, .int .i64 x.j.wl, .int .i64 x.j.lv, .int .i64 x.n, .int .i64 x.a, .int .i64 x.b, .int .i64 x.c] _ HJ.out.all Tryz.underlying28 rfl szCmdC ?_
    go_wp2_with (refine stay_store 28 ?_)
    refine ⟨?_⟩
    refine wpList_store_mid rfl 28 _ _ rfl w.heap.size 0 _ rfl rfl (HR.out.room 0 16 (by simp)) szCmdC (by simp [Value.oneCell']) ?_
    replace HR : Hid (Row (w2.setCells w.heap.size 0 (#[.int .i64 x.s, .int .i64 x.j.id, .int .i64 x.j.pr, .int .i64 x.j.nd, .int .i64 x.j.na, .int .i64 x.j.nb, .int .i64 x.j.nc, .int .i64 x.j.la, .int .i64 x.j.lb, .int .i64 x.j.lc, .int .i64 x.j.wl, .int .i64 x.j.lv, .int .i64 x.n, .int .i64 x.a, .int .i64 x.b, .int .i64 x.c] : Array Value).toList) w.heap.size [.int .i64 x.s, .int .i64 x.j.id, .int .i64 x.j.pr, .int .i64 x.j.nd, .int .i64 x.j.na, .int .i64 x.j.nb, .int .i64 x.j.nc, .int .i64 x.j.la, .int .i64 x.j.lb, .int .i64 x.j.lc, .int .i64 x.j.wl, .int .i64 x.j.lv, .int .i64 x.n, .int .i64 x.a, .int .i64 x.b, .int .i64 x.c]) := Row.setCs _ 0 HR.out (by simp)
    have HT : Hid (Tip w (w2.setCells w.heap.size 0 (#[.int .i64 x.s, .int .i64 x.j.id, .int .i64 x.j.pr, .int .i64 x.j.nd, .int .i64 x.j.na, .int .i64 x.j.nb, .int .i64 x.j.nc, .int .i64 x.j.la, .int .i64 x.j.lb, .int .i64 x.j.lc, .int .i64 x.j.wl, .int .i64 x.j.lv, .int .i64 x.n, .int .i64 x.a, .int .i64 x.b, .int .i64 x.c] : Array Value).toList) g a n cap) := Tip.setCs H.out w.heap.size (Nat.le_refl _) _ 0 ⟨HG.out, HC.out⟩
    generalize w2.setCells w.heap.size 0 _ = u8 at HR HT ⊢
    clear HJ HG HC
    go_wp2_with fail
    have hv := run_loadVar_mid (P := Tryz.prog) u8 w.heap.size 0 28 [.int .i64 x.s, .int .i64 x.j.id, .int .i64 x.j.pr, .int .i64 x.j.nd, .int .i64 x.j.na, .int .i64 x.j.nb, .int .i64 x.j.nc, .int .i64 x.j.la, .int .i64 x.j.lb, .int .i64 x.j.lc, .int .i64 x.j.wl, .int .i64 x.j.lv, .int .i64 x.n, .int .i64 x.a, .int .i64 x.b, .int .i64 x.c] _ HR.out.all Tryz.underlying28 rfl szCmdC
    exact bodyPost_ret (v := .agg #[.int .i64 x.s, .int .i64 x.j.id, .int .i64 x.j.pr, .int .i64 x.j.nd, .int .i64 x.j.na, .int .i64 x.j.nb, .int .i64 x.j.nc, .int .i64 x.j.la, .int .i64 x.j.lb, .int .i64 x.j.lc, .int .i64 x.j.wl, .int .i64 x.j.lv, .int .i64 x.n, .int .i64 x.a, .int .i64 x.b, .int .i64 x.c]) (results_one Tryz.results27 rfl hv) rfl ⟨x, rfl, HT.out.1, HT.out.2⟩
end Go.Proofs.YtejleghdgdbbnaaGreatDoor
