/- The drawn step of a law. -/
import Derived.Test.YtejleghdgdbbnaaGreatDoorMgXb
import Derived.Test.YtejleghdgdbbnaaGreatDoorMgUh
import Derived.Deep.DeepCutAuto
namespace Go.Proofs.YtejleghdgdbbnaaGreatDoor
open Go.ChangeShapes Go.WideShapes Go.ChangeAt Go.RowKit

set_option maxHeartbeats 8000000 in
set_option maxRecDepth 100000 in
theorem l09AnyStep_c (g : Nat) (a : Option Addr) (n cap : Nat) (w : World) (h : Cur w g a n cap) :
    Calls Tryz.prog 12 #[.pointer (some ⟨g, 0, none⟩)] w fun e w' => ∃ (k : Int) (x : Cm) (kp : Int), e = .returned (.agg #[.int .i64 k, .int .i64 x.s, .int .i64 x.j.id, .int .i64 x.j.pr, .int .i64 x.j.nd, .int .i64 x.j.na, .int .i64 x.j.nb, .int .i64 x.j.nc, .int .i64 x.j.la, .int .i64 x.j.lb, .int .i64 x.j.lc, .int .i64 x.j.wl, .int .i64 x.j.lv, .int .i64 x.n, .int .i64 x.a, .int .i64 x.b, .int .i64 x.c, .int .i64 kp]) ∧ w.grownBy w' (some g) ∧ Cur w' g a n cap := by
  have H : Hid (Cur w g a n cap) := h
  have hlt := h.lt
  have hne : g ≠ w.heap.size := by omega
  have HCmd : Hid (∀ W, Cur W g a n cap → Calls Tryz.prog 25 #[.pointer (some ⟨g, 0, none⟩)] W fun e w' => ∃ x : Cm, e = .returned (.agg #[.int .i64 x.s, .int .i64 x.j.id, .int .i64 x.j.pr, .int .i64 x.j.nd, .int .i64 x.j.na, .int .i64 x.j.nb, .int .i64 x.j.nc, .int .i64 x.j.la, .int .i64 x.j.lb, .int .i64 x.j.lc, .int .i64 x.j.wl, .int .i64 x.j.lv, .int .i64 x.n, .int .i64 x.a, .int .i64 x.b, .int .i64 x.c]) ∧ W.grownBy w' (some g) ∧ Cur w' g a n cap) := fun W hW => l08Cmd_c g a n cap W hW
  have HAny : Hid (∀ W, Cur W g a n cap → Calls Tryz.prog 27 #[.pointer (some ⟨g, 0, none⟩)] W fun e w' => ∃ x : Cm, e = .returned (.agg #[.int .i64 x.s, .int .i64 x.j.id, .int .i64 x.j.pr, .int .i64 x.j.nd, .int .i64 x.j.na, .int .i64 x.j.nb, .int .i64 x.j.nc, .int .i64 x.j.la, .int .i64 x.j.lb, .int .i64 x.j.lc, .int .i64 x.j.wl, .int .i64 x.j.lv, .int .i64 x.n, .int .i64 x.a, .int .i64 x.b, .int .i64 x.c]) ∧ W.grownBy w' (some g) ∧ Cur w' g a n cap) := fun W hW => l08AnyCmd_c g a n cap W hW
  clear h
  go_enter Tryz.func12, Tryz.ntmps12
  go_wp2_with fail
  have HR : Hid (Row (w.alloc (.cells #[.int .i64 0, .int .i64 0, .int .i64 0, .int .i64 0, .int .i64 0, .int .i64 0, .int .i64 0, .int .i64 0, .int .i64 0, .int .i64 0, .int .i64 0, .int .i64 0, .int .i64 0, .int .i64 0, .int .i64 0, .int .i64 0, .int .i64 0, .int .i64 0] 30)) w.heap.size [.int .i64 0, .int .i64 0, .int .i64 0, .int .i64 0, .int .i64 0, .int .i64 0, .int .i64 0, .int .i64 0, .int .i64 0, .int .i64 0, .int .i64 0, .int .i64 0, .int .i64 0, .int .i64 0, .int .i64 0, .int .i64 0, .int .i64 0, .int .i64 0]) := row_new w [.int .i64 0, .int .i64 0, .int .i64 0, .int .i64 0, .int .i64 0, .int .i64 0, .int .i64 0, .int .i64 0, .int .i64 0, .int .i64 0, .int .i64 0, .int .i64 0, .int .i64 0, .int .i64 0, .int .i64 0, .int .i64 0, .int .i64 0, .int .i64 0] 30
  have HG : Hid (w.grownBy (w.alloc (.cells #[.int .i64 0, .int .i64 0, .int .i64 0, .int .i64 0, .int .i64 0, .int .i64 0, .int .i64 0, .int .i64 0, .int .i64 0, .int .i64 0, .int .i64 0, .int .i64 0, .int .i64 0, .int .i64 0, .int .i64 0, .int .i64 0, .int .i64 0, .int .i64 0] 30)) (some g)) := World.grownBy_alloc w _ _
  have HC : Hid (Cur (w.alloc (.cells #[.int .i64 0, .int .i64 0, .int .i64 0, .int .i64 0, .int .i64 0, .int .i64 0, .int .i64 0, .int .i64 0, .int .i64 0, .int .i64 0, .int .i64 0, .int .i64 0, .int .i64 0, .int .i64 0, .int .i64 0, .int .i64 0, .int .i64 0, .int .i64 0] 30)) g a n cap) := H.out.below (by go_grown)
  generalize w.alloc (.cells #[.int .i64 0, .int .i64 0, .int .i64 0, .int .i64 0, .int .i64 0, .int .i64 0, .int .i64 0, .int .i64 0, .int .i64 0, .int .i64 0, .int .i64 0, .int .i64 0, .int .i64 0, .int .i64 0, .int .i64 0, .int .i64 0, .int .i64 0, .int .i64 0] 30) = w0 at HR HG HC ⊢
  refine (l01Below_c g a n cap 4 (by decide) (by decide) _ HC.out).mono ?_
  rintro e w1 ⟨x1, rfl, lo1, hi1, hg, hc⟩
  replace HG : Hid (w.grownBy w1 (some g)) := Lib.grownBy_trans HG.out hg
  replace HR : Hid (Row w1 w.heap.size [.int .i64 0, .int .i64 0, .int .i64 0, .int .i64 0, .int .i64 0, .int .i64 0, .int .i64 0, .int .i64 0, .int .i64 0, .int .i64 0, .int .i64 0, .int .i64 0, .int .i64 0, .int .i64 0, .int .i64 0, .int .i64 0, .int .i64 0, .int .i64 0]) := HR.out.far hg (by intro e; exact hne (Option.some.inj e).symm)
  replace HC : Hid (Cur w1 g a n cap) := hc
  clear hg hc
  go_upto_if 11 with fail
  have HJ : Hid (Row (w1.alloc (.cells #[.int .i64 (1 + x1), .int .i64 0, .int .i64 0, .int .i64 0, .int .i64 0, .int .i64 0, .int .i64 0, .int .i64 0, .int .i64 0, .int .i64 0, .int .i64 0, .int .i64 0, .int .i64 0, .int .i64 0, .int .i64 0, .int .i64 0, .int .i64 0, .int .i64 0] 30)) w1.heap.size [.int .i64 (1 + x1), .int .i64 0, .int .i64 0, .int .i64 0, .int .i64 0, .int .i64 0, .int .i64 0, .int .i64 0, .int .i64 0, .int .i64 0, .int .i64 0, .int .i64 0, .int .i64 0, .int .i64 0, .int .i64 0, .int .i64 0, .int .i64 0, .int .i64 0]) := row_new w1 [.int .i64 (1 + x1), .int .i64 0, .int .i64 0, .int .i64 0, .int .i64 0, .int .i64 0, .int .i64 0, .int .i64 0, .int .i64 0, .int .i64 0, .int .i64 0, .int .i64 0, .int .i64 0, .int .i64 0, .int .i64 0, .int .i64 0, .int .i64 0, .int .i64 0] 30
  have hq : w.heap.size < w1.heap.size := HR.out.lt
  replace HR : Hid (Row (w1.alloc (.cells #[.int .i64 (1 + x1), .int .i64 0, .int .i64 0, .int .i64 0, .int .i64 0, .int .i64 0, .int .i64 0, .int .i64 0, .int .i64 0, .int .i64 0, .int .i64 0, .int .i64 0, .int .i64 0, .int .i64 0, .int .i64 0, .int .i64 0, .int .i64 0, .int .i64 0] 30)) w.heap.size [.int .i64 0, .int .i64 0, .int .i64 0, .int .i64 0, .int .i64 0, .int .i64 0, .int .i64 0, .int .i64 0, .int .i64 0, .int .i64 0, .int .i64 0, .int .i64 0, .int .i64 0, .int .i64 0, .int .i64 0, .int .i64 0, .int .i64 0, .int .i64 0]) := HR.out.below (low_alloc _ _)
  replace HG : Hid (w.grownBy (w1.alloc (.cells #[.int .i64 (1 + x1), .int .i64 0, .int .i64 0, .int .i64 0, .int .i64 0, .int .i64 0, .int .i64 0, .int .i64 0, .int .i64 0, .int .i64 0, .int .i64 0, .int .i64 0, .int .i64 0, .int .i64 0, .int .i64 0, .int .i64 0, .int .i64 0, .int .i64 0] 30)) (some g)) := Lib.grownBy_below HG.out (low_alloc _ _)
  have hgq : g ≠ w1.heap.size := by have := HC.out.lt; omega
  replace HC : Hid (Cur (w1.alloc (.cells #[.int .i64 (1 + x1), .int .i64 0, .int .i64 0, .int .i64 0, .int .i64 0, .int .i64 0, .int .i64 0, .int .i64 0, .int .i64 0, .int .i64 0, .int .i64 0, .int .i64 0, .int .i64 0, .int .i64 0, .int .i64 0, .int .i64 0, .int .i64 0, .int .i64 0] 30)) g a n cap) := HC.out.below (low_alloc _ _)
  have hqr : ¬ w.heap.size = w1.heap.size := by omega
  generalize w1.alloc (.cells #[.int .i64 (1 + x1), .int .i64 0, .int .i64 0, .int .i64 0, .int .i64 0, .int .i64 0, .int .i64 0, .int .i64 0, .int .i64 0, .int .i64 0, .int .i64 0, .int .i64 0, .int .i64 0, .int .i64 0, .int .i64 0, .int .i64 0, .int .i64 0, .int .i64 0] 30) = u0 at HR HG HC HJ ⊢
  generalize w1.heap.size = q at HJ hq hgq hqr ⊢
  clear lo1 hi1
  generalize 1 + x1 = k0 at HJ ⊢
  go_cut [] (fun wc => ∃ x : Cm, Row wc q [.int .i64 k0, .int .i64 x.s, .int .i64 x.j.id, .int .i64 x.j.pr, .int .i64 x.j.nd, .int .i64 x.j.na, .int .i64 x.j.nb, .int .i64 x.j.nc, .int .i64 x.j.la, .int .i64 x.j.lb, .int .i64 x.j.lc, .int .i64 x.j.wl, .int .i64 x.j.lv, .int .i64 x.n, .int .i64 x.a, .int .i64 x.b, .int .i64 x.c, .int .i64 0] ∧ Row wc w.heap.size [.int .i64 0, .int .i64 0, .int .i64 0, .int .i64 0, .int .i64 0, .int .i64 0, .int .i64 0, .int .i64 0, .int .i64 0, .int .i64 0, .int .i64 0, .int .i64 0, .int .i64 0, .int .i64 0, .int .i64 0, .int .i64 0, .int .i64 0, .int .i64 0] ∧ w.grownBy wc (some g) ∧ Cur wc g a n cap)
  case first =>
    by_cases hcond : k0 ≤ 2
    · go_wp2_with fail
      refine (HCmd.out _ HC.out).mono ?_
      rintro e w2 ⟨x, rfl, hg, hc⟩
      replace HG : Hid (w.grownBy w2 (some g)) := Lib.grownBy_trans HG.out hg
      replace HR : Hid (Row w2 w.heap.size [.int .i64 0, .int .i64 0, .int .i64 0, .int .i64 0, .int .i64 0, .int .i64 0, .int .i64 0, .int .i64 0, .int .i64 0, .int .i64 0, .int .i64 0, .int .i64 0, .int .i64 0, .int .i64 0, .int .i64 0, .int .i64 0, .int .i64 0, .int .i64 0]) := HR.out.far hg (by intro e; exact hne (Option.some.inj e).symm)
      replace HJ : Hid (Row w2 q [.int .i64 k0, .int .i64 0, .int .i64 0, .int .i64 0, .int .i64 0, .int .i64 0, .int .i64 0, .int .i64 0, .int .i64 0, .int .i64 0, .int .i64 0, .int .i64 0, .int .i64 0, .int .i64 0, .int .i64 0, .int .i64 0, .int .i64 0, .int .i64 0]) := HJ.out.far hg (by intro e; exact hgq (Option.some.inj e).symm)
      replace HC : Hid (Cur w2 g a n cap) := hc
      clear hg hc
      go_wp2_with (refine stay_store 28 ?_)
      refine ⟨?_⟩
      refine wpList_store_mid rfl 28 _ _ rfl q 1 (#[.int .i64 x.s, .int .i64 x.j.id, .int .i64 x.j.pr, .int .i64 x.j.nd, .int .i64 x.j.na, .int .i64 x.j.nb, .int .i64 x.j.nc, .int .i64 x.j.la, .int .i64 x.j.lb, .int .i64 x.j.lc, .int .i64 x.j.wl, .int .i64 x.j.lv, .int .i64 x.n, .int .i64 x.a, .int .i64 x.b, .int .i64 x.c]) rfl rfl (HJ.out.room 1 16 (by simp)) szCmdC (by simp [Value.oneCell']) ?_
      replace HJ : Hid (Row (w2.setCells q 1 (#[.int .i64 x.s, .int .i64 x.j.id, .int .i64 x.j.pr, .int .i64 x.j.nd, .int .i64 x.j.na, .int .i64 x.j.nb, .int .i64 x.j.nc, .int .i64 x.j.la, .int .i64 x.j.lb, .int .i64 x.j.lc, .int .i64 x.j.wl, .int .i64 x.j.lv, .int .i64 x.n, .int .i64 x.a, .int .i64 x.b, .int .i64 x.c] : Array Value).toList) q [.int .i64 k0, .int .i64 x.s, .int .i64 x.j.id, .int .i64 x.j.pr, .int .i64 x.j.nd, .int .i64 x.j.na, .int .i64 x.j.nb, .int .i64 x.j.nc, .int .i64 x.j.la, .int .i64 x.j.lb, .int .i64 x.j.lc, .int .i64 x.j.wl, .int .i64 x.j.lv, .int .i64 x.n, .int .i64 x.a, .int .i64 x.b, .int .i64 x.c, .int .i64 0]) := Row.setCs _ 1 HJ.out (by simp)
      replace HR : Hid (Row (w2.setCells q 1 (#[.int .i64 x.s, .int .i64 x.j.id, .int .i64 x.j.pr, .int .i64 x.j.nd, .int .i64 x.j.na, .int .i64 x.j.nb, .int .i64 x.j.nc, .int .i64 x.j.la, .int .i64 x.j.lb, .int .i64 x.j.lc, .int .i64 x.j.wl, .int .i64 x.j.lv, .int .i64 x.n, .int .i64 x.a, .int .i64 x.b, .int .i64 x.c] : Array Value).toList) w.heap.size [.int .i64 0, .int .i64 0, .int .i64 0, .int .i64 0, .int .i64 0, .int .i64 0, .int .i64 0, .int .i64 0, .int .i64 0, .int .i64 0, .int .i64 0, .int .i64 0, .int .i64 0, .int .i64 0, .int .i64 0, .int .i64 0, .int .i64 0, .int .i64 0]) := HR.out.apartCs hqr _ 1
      have HT0 : Hid (Tip w (w2.setCells q 1 (#[.int .i64 x.s, .int .i64 x.j.id, .int .i64 x.j.pr, .int .i64 x.j.nd, .int .i64 x.j.na, .int .i64 x.j.nb, .int .i64 x.j.nc, .int .i64 x.j.la, .int .i64 x.j.lb, .int .i64 x.j.lc, .int .i64 x.j.wl, .int .i64 x.j.lv, .int .i64 x.n, .int .i64 x.a, .int .i64 x.b, .int .i64 x.c] : Array Value).toList) g a n cap) := Tip.setCs H.out q (by omega) _ 1 ⟨HG.out, HC.out⟩
      generalize w2.setCells q 1 _ = u2 at HR HJ HT0 ⊢
      go_wp2_with fail
      go_meet
      case rel => exact ⟨x, HJ.out, HR.out, HT0.out.1, HT0.out.2⟩
    · go_wp2_with fail
      go_meet
      case rel => exact ⟨cm0, HJ.out, HR.out, HG.out, HC.out⟩
  case rest =>
  obtain ⟨x, hj, hr, hg, hc⟩ := hcut
  have HJ : Hid (Row wc q [.int .i64 k0, .int .i64 x.s, .int .i64 x.j.id, .int .i64 x.j.pr, .int .i64 x.j.nd, .int .i64 x.j.na, .int .i64 x.j.nb, .int .i64 x.j.nc, .int .i64 x.j.la, .int .i64 x.j.lb, .int .i64 x.j.lc, .int .i64 x.j.wl, .int .i64 x.j.lv, .int .i64 x.n, .int .i64 x.a, .int .i64 x.b, .int .i64 x.c, .int .i64 0]) := hj
  have HR : Hid (Row wc w.heap.size [.int .i64 0, .int .i64 0, .int .i64 0, .int .i64 0, .int .i64 0, .int .i64 0, .int .i64 0, .int .i64 0, .int .i64 0, .int .i64 0, .int .i64 0, .int .i64 0, .int .i64 0, .int .i64 0, .int .i64 0, .int .i64 0, .int .i64 0, .int .i64 0]) := hr
  have HG : Hid (w.grownBy wc (some g)) := hg
  have HC : Hid (Cur wc g a n cap) := hc
  clear hj hr hg hc
  have d0 := HJ.out.cell 0 _ rfl
  go_upto_if 17 with fail
  clear d0
  go_cut [] (fun wc => ∃ p : Int, Row wc q [.int .i64 k0, .int .i64 x.s, .int .i64 x.j.id, .int .i64 x.j.pr, .int .i64 x.j.nd, .int .i64 x.j.na, .int .i64 x.j.nb, .int .i64 x.j.nc, .int .i64 x.j.la, .int .i64 x.j.lb, .int .i64 x.j.lc, .int .i64 x.j.wl, .int .i64 x.j.lv, .int .i64 x.n, .int .i64 x.a, .int .i64 x.b, .int .i64 x.c, .int .i64 p] ∧ Row wc w.heap.size [.int .i64 0, .int .i64 0, .int .i64 0, .int .i64 0, .int .i64 0, .int .i64 0, .int .i64 0, .int .i64 0, .int .i64 0, .int .i64 0, .int .i64 0, .int .i64 0, .int .i64 0, .int .i64 0, .int .i64 0, .int .i64 0, .int .i64 0, .int .i64 0] ∧ w.grownBy wc (some g) ∧ Cur wc g a n cap)
  case first =>
    by_cases hcond : (k0 == 2) = true
    · go_wp2_with fail
      refine (l01Below_c g a n cap 50 (by decide) (by decide) _ HC.out).mono ?_
      rintro e w3 ⟨z, rfl, lo3, hi3, hg, hc⟩
      replace HG : Hid (w.grownBy w3 (some g)) := Lib.grownBy_trans HG.out hg
      replace HR : Hid (Row w3 w.heap.size [.int .i64 0, .int .i64 0, .int .i64 0, .int .i64 0, .int .i64 0, .int .i64 0, .int .i64 0, .int .i64 0, .int .i64 0, .int .i64 0, .int .i64 0, .int .i64 0, .int .i64 0, .int .i64 0, .int .i64 0, .int .i64 0, .int .i64 0, .int .i64 0]) := HR.out.far hg (by intro e; exact hne (Option.some.inj e).symm)
      replace HJ : Hid (Row w3 q [.int .i64 k0, .int .i64 x.s, .int .i64 x.j.id, .int .i64 x.j.pr, .int .i64 x.j.nd, .int .i64 x.j.na, .int .i64 x.j.nb, .int .i64 x.j.nc, .int .i64 x.j.la, .int .i64 x.j.lb, .int .i64 x.j.lc, .int .i64 x.j.wl, .int .i64 x.j.lv, .int .i64 x.n, .int .i64 x.a, .int .i64 x.b, .int .i64 x.c, .int .i64 0]) := HJ.out.far hg (by intro e; exact hgq (Option.some.inj e).symm)
      replace HC : Hid (Cur w3 g a n cap) := hc
      clear hg hc
      clear lo3 hi3
      have dd := HJ.out.cell 17 _ rfl
      have ff := HJ.out.free 17
      replace HJ : Hid (Row (w3.setCell ⟨q, 17, none⟩ (.int .i64 z)) q [.int .i64 k0, .int .i64 x.s, .int .i64 x.j.id, .int .i64 x.j.pr, .int .i64 x.j.nd, .int .i64 x.j.na, .int .i64 x.j.nb, .int .i64 x.j.nc, .int .i64 x.j.la, .int .i64 x.j.lb, .int .i64 x.j.lc, .int .i64 x.j.wl, .int .i64 x.j.lv, .int .i64 x.n, .int .i64 x.a, .int .i64 x.b, .int .i64 x.c, .int .i64 z]) := HJ.out.set 17 (by simp) _
      replace HR : Hid (Row (w3.setCell ⟨q, 17, none⟩ (.int .i64 z)) w.heap.size [.int .i64 0, .int .i64 0, .int .i64 0, .int .i64 0, .int .i64 0, .int .i64 0, .int .i64 0, .int .i64 0, .int .i64 0, .int .i64 0, .int .i64 0, .int .i64 0, .int .i64 0, .int .i64 0, .int .i64 0, .int .i64 0, .int .i64 0, .int .i64 0]) := HR.out.apart q 17 _ hqr
      have HT0 : Hid (Tip w (w3.setCell ⟨q, 17, none⟩ (.int .i64 z)) g a n cap) := Tip.set H.out ⟨HG.out, HC.out⟩ q 17 (by omega) _
      go_wp2_with fail
      go_meet
      case rel => exact ⟨z, HJ.out, HR.out, HT0.out.1, HT0.out.2⟩
    · have hcond2 : (k0 == 2) = false := by simpa using hcond
      go_wp2_with fail
      go_meet
      case rel => exact ⟨0, HJ.out, HR.out, HG.out, HC.out⟩
  case rest =>
  obtain ⟨p, hj, hr, hg, hc⟩ := hcut
  have HJ : Hid (Row wc q [.int .i64 k0, .int .i64 x.s, .int .i64 x.j.id, .int .i64 x.j.pr, .int .i64 x.j.nd, .int .i64 x.j.na, .int .i64 x.j.nb, .int .i64 x.j.nc, .int .i64 x.j.la, .int .i64 x.j.lb, .int .i64 x.j.lc, .int .i64 x.j.wl, .int .i64 x.j.lv, .int .i64 x.n, .int .i64 x.a, .int .i64 x.b, .int .i64 x.c, .int .i64 p]) := hj
  have HR : Hid (Row wc w.heap.size [.int .i64 0, .int .i64 0, .int .i64 0, .int .i64 0, .int .i64 0, .int .i64 0, .int .i64 0, .int .i64 0, .int .i64 0, .int .i64 0, .int .i64 0, .int .i64 0, .int .i64 0, .int .i64 0, .int .i64 0, .int .i64 0, .int .i64 0, .int .i64 0]) := hr
  have HG : Hid (w.grownBy wc (some g)) := hg
  have HC : Hid (Cur wc g a n cap) := hc
  clear hj hr hg hc
  go_wp2_with fail
  refine (l01Below_c g a n cap 12 (by decide) (by decide) _ HC.out).mono ?_
  rintro e w5 ⟨k, rfl, lo, hi, hg, hc⟩
  replace HG : Hid (w.grownBy w5 (some g)) := Lib.grownBy_trans HG.out hg
  replace HR : Hid (Row w5 w.heap.size [.int .i64 0, .int .i64 0, .int .i64 0, .int .i64 0, .int .i64 0, .int .i64 0, .int .i64 0, .int .i64 0, .int .i64 0, .int .i64 0, .int .i64 0, .int .i64 0, .int .i64 0, .int .i64 0, .int .i64 0, .int .i64 0, .int .i64 0, .int .i64 0]) := HR.out.far hg (by intro e; exact hne (Option.some.inj e).symm)
  replace HJ : Hid (Row w5 q [.int .i64 k0, .int .i64 x.s, .int .i64 x.j.id, .int .i64 x.j.pr, .int .i64 x.j.nd, .int .i64 x.j.na, .int .i64 x.j.nb, .int .i64 x.j.nc, .int .i64 x.j.la, .int .i64 x.j.lb, .int .i64 x.j.lc, .int .i64 x.j.wl, .int .i64 x.j.lv, .int .i64 x.n, .int .i64 x.a, .int .i64 x.b, .int .i64 x.c, .int .i64 p]) := HJ.out.far hg (by intro e; exact hgq (Option.some.inj e).symm)
  replace HC : Hid (Cur w5 g a n cap) := hc
  clear hg hc
  clear lo hi
  go_upto_if 24 with fail
  go_cut [] (fun wc => ∃ k1 : Int, Row wc q [.int .i64 k1, .int .i64 x.s, .int .i64 x.j.id, .int .i64 x.j.pr, .int .i64 x.j.nd, .int .i64 x.j.na, .int .i64 x.j.nb, .int .i64 x.j.nc, .int .i64 x.j.la, .int .i64 x.j.lb, .int .i64 x.j.lc, .int .i64 x.j.wl, .int .i64 x.j.lv, .int .i64 x.n, .int .i64 x.a, .int .i64 x.b, .int .i64 x.c, .int .i64 p] ∧ Row wc w.heap.size [.int .i64 0, .int .i64 0, .int .i64 0, .int .i64 0, .int .i64 0, .int .i64 0, .int .i64 0, .int .i64 0, .int .i64 0, .int .i64 0, .int .i64 0, .int .i64 0, .int .i64 0, .int .i64 0, .int .i64 0, .int .i64 0, .int .i64 0, .int .i64 0] ∧ w.grownBy wc (some g) ∧ Cur wc g a n cap)
  case first =>
    by_cases hcond : (k == 0) = true
    · go_wp2_with fail
      refine (l01Raw_c g a n cap _ HC.out).mono ?_
      rintro e w6 ⟨y, rfl, hg, hc⟩
      replace HG : Hid (w.grownBy w6 (some g)) := Lib.grownBy_trans HG.out hg
      replace HR : Hid (Row w6 w.heap.size [.int .i64 0, .int .i64 0, .int .i64 0, .int .i64 0, .int .i64 0, .int .i64 0, .int .i64 0, .int .i64 0, .int .i64 0, .int .i64 0, .int .i64 0, .int .i64 0, .int .i64 0, .int .i64 0, .int .i64 0, .int .i64 0, .int .i64 0, .int .i64 0]) := HR.out.far hg (by intro e; exact hne (Option.some.inj e).symm)
      replace HJ : Hid (Row w6 q [.int .i64 k0, .int .i64 x.s, .int .i64 x.j.id, .int .i64 x.j.pr, .int .i64 x.j.nd, .int .i64 x.j.na, .int .i64 x.j.nb, .int .i64 x.j.nc, .int .i64 x.j.la, .int .i64 x.j.lb, .int .i64 x.j.lc, .int .i64 x.j.wl, .int .i64 x.j.lv, .int .i64 x.n, .int .i64 x.a, .int .i64 x.b, .int .i64 x.c, .int .i64 p]) := HJ.out.far hg (by intro e; exact hgq (Option.some.inj e).symm)
      replace HC : Hid (Cur w6 g a n cap) := hc
      clear hg hc
      have dd := HJ.out.cell 0 _ rfl
      have ff := HJ.out.free 0
      replace HJ : Hid (Row (w6.setCell ⟨q, 0, none⟩ (.int .i64 y)) q [.int .i64 y, .int .i64 x.s, .int .i64 x.j.id, .int .i64 x.j.pr, .int .i64 x.j.nd, .int .i64 x.j.na, .int .i64 x.j.nb, .int .i64 x.j.nc, .int .i64 x.j.la, .int .i64 x.j.lb, .int .i64 x.j.lc, .int .i64 x.j.wl, .int .i64 x.j.lv, .int .i64 x.n, .int .i64 x.a, .int .i64 x.b, .int .i64 x.c, .int .i64 p]) := HJ.out.set 0 (by simp) _
      replace HR : Hid (Row (w6.setCell ⟨q, 0, none⟩ (.int .i64 y)) w.heap.size [.int .i64 0, .int .i64 0, .int .i64 0, .int .i64 0, .int .i64 0, .int .i64 0, .int .i64 0, .int .i64 0, .int .i64 0, .int .i64 0, .int .i64 0, .int .i64 0, .int .i64 0, .int .i64 0, .int .i64 0, .int .i64 0, .int .i64 0, .int .i64 0]) := HR.out.apart q 0 _ hqr
      have HT0 : Hid (Tip w (w6.setCell ⟨q, 0, none⟩ (.int .i64 y)) g a n cap) := Tip.set H.out ⟨HG.out, HC.out⟩ q 0 (by omega) _
      go_wp2_with fail
      go_meet
      case rel => exact ⟨y, HJ.out, HR.out, HT0.out.1, HT0.out.2⟩
    · have hcond2 : (k == 0) = false := by simpa using hcond
      go_wp2_with fail
      go_meet
      case rel => exact ⟨k0, HJ.out, HR.out, HG.out, HC.out⟩
  case rest =>
  obtain ⟨k1, hj, hr, hg, hc⟩ := hcut
  have HJ : Hid (Row wc q [.int .i64 k1, .int .i64 x.s, .int .i64 x.j.id, .int .i64 x.j.pr, .int .i64 x.j.nd, .int .i64 x.j.na, .int .i64 x.j.nb, .int .i64 x.j.nc, .int .i64 x.j.la, .int .i64 x.j.lb, .int .i64 x.j.lc, .int .i64 x.j.wl, .int .i64 x.j.lv, .int .i64 x.n, .int .i64 x.a, .int .i64 x.b, .int .i64 x.c, .int .i64 p]) := hj
  have HR : Hid (Row wc w.heap.size [.int .i64 0, .int .i64 0, .int .i64 0, .int .i64 0, .int .i64 0, .int .i64 0, .int .i64 0, .int .i64 0, .int .i64 0, .int .i64 0, .int .i64 0, .int .i64 0, .int .i64 0, .int .i64 0, .int .i64 0, .int .i64 0, .int .i64 0, .int .i64 0]) := hr
  have HG : Hid (w.grownBy wc (some g)) := hg
  have HC : Hid (Cur wc g a n cap) := hc
  clear hj hr hg hc
  go_upto_if 29 with fail
  go_cut [] (fun wc => ∃ p1 : Int, Row wc q [.int .i64 k1, .int .i64 x.s, .int .i64 x.j.id, .int .i64 x.j.pr, .int .i64 x.j.nd, .int .i64 x.j.na, .int .i64 x.j.nb, .int .i64 x.j.nc, .int .i64 x.j.la, .int .i64 x.j.lb, .int .i64 x.j.lc, .int .i64 x.j.wl, .int .i64 x.j.lv, .int .i64 x.n, .int .i64 x.a, .int .i64 x.b, .int .i64 x.c, .int .i64 p1] ∧ Row wc w.heap.size [.int .i64 0, .int .i64 0, .int .i64 0, .int .i64 0, .int .i64 0, .int .i64 0, .int .i64 0, .int .i64 0, .int .i64 0, .int .i64 0, .int .i64 0, .int .i64 0, .int .i64 0, .int .i64 0, .int .i64 0, .int .i64 0, .int .i64 0, .int .i64 0] ∧ w.grownBy wc (some g) ∧ Cur wc g a n cap)
  case first =>
    by_cases hcond : (k == 1) = true
    · go_wp2_with fail
      refine (l01Raw_c g a n cap _ HC.out).mono ?_
      rintro e w6 ⟨y, rfl, hg, hc⟩
      replace HG : Hid (w.grownBy w6 (some g)) := Lib.grownBy_trans HG.out hg
      replace HR : Hid (Row w6 w.heap.size [.int .i64 0, .int .i64 0, .int .i64 0, .int .i64 0, .int .i64 0, .int .i64 0, .int .i64 0, .int .i64 0, .int .i64 0, .int .i64 0, .int .i64 0, .int .i64 0, .int .i64 0, .int .i64 0, .int .i64 0, .int .i64 0, .int .i64 0, .int .i64 0]) := HR.out.far hg (by intro e; exact hne (Option.some.inj e).symm)
      replace HJ : Hid (Row w6 q [.int .i64 k1, .int .i64 x.s, .int .i64 x.j.id, .int .i64 x.j.pr, .int .i64 x.j.nd, .int .i64 x.j.na, .int .i64 x.j.nb, .int .i64 x.j.nc, .int .i64 x.j.la, .int .i64 x.j.lb, .int .i64 x.j.lc, .int .i64 x.j.wl, .int .i64 x.j.lv, .int .i64 x.n, .int .i64 x.a, .int .i64 x.b, .int .i64 x.c, .int .i64 p]) := HJ.out.far hg (by intro e; exact hgq (Option.some.inj e).symm)
      replace HC : Hid (Cur w6 g a n cap) := hc
      clear hg hc
      have dd := HJ.out.cell 17 _ rfl
      have ff := HJ.out.free 17
      replace HJ : Hid (Row (w6.setCell ⟨q, 17, none⟩ (.int .i64 y)) q [.int .i64 k1, .int .i64 x.s, .int .i64 x.j.id, .int .i64 x.j.pr, .int .i64 x.j.nd, .int .i64 x.j.na, .int .i64 x.j.nb, .int .i64 x.j.nc, .int .i64 x.j.la, .int .i64 x.j.lb, .int .i64 x.j.lc, .int .i64 x.j.wl, .int .i64 x.j.lv, .int .i64 x.n, .int .i64 x.a, .int .i64 x.b, .int .i64 x.c, .int .i64 y]) := HJ.out.set 17 (by simp) _
      replace HR : Hid (Row (w6.setCell ⟨q, 17, none⟩ (.int .i64 y)) w.heap.size [.int .i64 0, .int .i64 0, .int .i64 0, .int .i64 0, .int .i64 0, .int .i64 0, .int .i64 0, .int .i64 0, .int .i64 0, .int .i64 0, .int .i64 0, .int .i64 0, .int .i64 0, .int .i64 0, .int .i64 0, .int .i64 0, .int .i64 0, .int .i64 0]) := HR.out.apart q 17 _ hqr
      have HT0 : Hid (Tip w (w6.setCell ⟨q, 17, none⟩ (.int .i64 y)) g a n cap) := Tip.set H.out ⟨HG.out, HC.out⟩ q 17 (by omega) _
      go_wp2_with fail
      go_meet
      case rel => exact ⟨y, HJ.out, HR.out, HT0.out.1, HT0.out.2⟩
    · have hcond2 : (k == 1) = false := by simpa using hcond
      go_wp2_with fail
      go_meet
      case rel => exact ⟨p, HJ.out, HR.out, HG.out, HC.out⟩
  case rest =>
  obtain ⟨p1, hj, hr, hg, hc⟩ := hcut
  have HJ : Hid (Row wc q [.int .i64 k1, .int .i64 x.s, .int .i64 x.j.id, .int .i64 x.j.pr, .int .i64 x.j.nd, .int .i64 x.j.na, .int .i64 x.j.nb, .int .i64 x.j.nc, .int .i64 x.j.la, .int .i64 x.j.lb, .int .i64 x.j.lc, .int .i64 x.j.wl, .int .i64 x.j.lv, .int .i64 x.n, .int .i64 x.a, .int .i64 x.b, .int .i64 x.c, .int .i64 p1]) := hj
  have HR : Hid (Row wc w.heap.size [.int .i64 0, .int .i64 0, .int .i64 0, .int .i64 0, .int .i64 0, .int .i64 0, .int .i64 0, .int .i64 0, .int .i64 0, .int .i64 0, .int .i64 0, .int .i64 0, .int .i64 0, .int .i64 0, .int .i64 0, .int .i64 0, .int .i64 0, .int .i64 0]) := hr
  have HG : Hid (w.grownBy wc (some g)) := hg
  have HC : Hid (Cur wc g a n cap) := hc
  clear hj hr hg hc
  go_upto_if 34 with fail
  go_cut [] (fun wc => ∃ y : Cm, Row wc q [.int .i64 k1, .int .i64 y.s, .int .i64 y.j.id, .int .i64 y.j.pr, .int .i64 y.j.nd, .int .i64 y.j.na, .int .i64 y.j.nb, .int .i64 y.j.nc, .int .i64 y.j.la, .int .i64 y.j.lb, .int .i64 y.j.lc, .int .i64 y.j.wl, .int .i64 y.j.lv, .int .i64 y.n, .int .i64 y.a, .int .i64 y.b, .int .i64 y.c, .int .i64 p1] ∧ Row wc w.heap.size [.int .i64 0, .int .i64 0, .int .i64 0, .int .i64 0, .int .i64 0, .int .i64 0, .int .i64 0, .int .i64 0, .int .i64 0, .int .i64 0, .int .i64 0, .int .i64 0, .int .i64 0, .int .i64 0, .int .i64 0, .int .i64 0, .int .i64 0, .int .i64 0] ∧ w.grownBy wc (some g) ∧ Cur wc g a n cap)
  case first =>
    by_cases hcond : (k == 2) = true
    · go_wp2_with fail
      refine (HAny.out _ HC.out).mono ?_
      rintro e w6 ⟨y, rfl, hg, hc⟩
      replace HG : Hid (w.grownBy w6 (some g)) := Lib.grownBy_trans HG.out hg
      replace HR : Hid (Row w6 w.heap.size [.int .i64 0, .int .i64 0, .int .i64 0, .int .i64 0, .int .i64 0, .int .i64 0, .int .i64 0, .int .i64 0, .int .i64 0, .int .i64 0, .int .i64 0, .int .i64 0, .int .i64 0, .int .i64 0, .int .i64 0, .int .i64 0, .int .i64 0, .int .i64 0]) := HR.out.far hg (by intro e; exact hne (Option.some.inj e).symm)
      replace HJ : Hid (Row w6 q [.int .i64 k1, .int .i64 x.s, .int .i64 x.j.id, .int .i64 x.j.pr, .int .i64 x.j.nd, .int .i64 x.j.na, .int .i64 x.j.nb, .int .i64 x.j.nc, .int .i64 x.j.la, .int .i64 x.j.lb, .int .i64 x.j.lc, .int .i64 x.j.wl, .int .i64 x.j.lv, .int .i64 x.n, .int .i64 x.a, .int .i64 x.b, .int .i64 x.c, .int .i64 p1]) := HJ.out.far hg (by intro e; exact hgq (Option.some.inj e).symm)
      replace HC : Hid (Cur w6 g a n cap) := hc
      clear hg hc
      go_wp2_with (refine stay_store 28 ?_)
      refine ⟨?_⟩
      refine wpList_store_mid rfl 28 _ _ rfl q 1 (#[.int .i64 y.s, .int .i64 y.j.id, .int .i64 y.j.pr, .int .i64 y.j.nd, .int .i64 y.j.na, .int .i64 y.j.nb, .int .i64 y.j.nc, .int .i64 y.j.la, .int .i64 y.j.lb, .int .i64 y.j.lc, .int .i64 y.j.wl, .int .i64 y.j.lv, .int .i64 y.n, .int .i64 y.a, .int .i64 y.b, .int .i64 y.c]) rfl rfl (HJ.out.room 1 16 (by simp)) szCmdC (by simp [Value.oneCell']) ?_
      replace HJ : Hid (Row (w6.setCells q 1 (#[.int .i64 y.s, .int .i64 y.j.id, .int .i64 y.j.pr, .int .i64 y.j.nd, .int .i64 y.j.na, .int .i64 y.j.nb, .int .i64 y.j.nc, .int .i64 y.j.la, .int .i64 y.j.lb, .int .i64 y.j.lc, .int .i64 y.j.wl, .int .i64 y.j.lv, .int .i64 y.n, .int .i64 y.a, .int .i64 y.b, .int .i64 y.c] : Array Value).toList) q [.int .i64 k1, .int .i64 y.s, .int .i64 y.j.id, .int .i64 y.j.pr, .int .i64 y.j.nd, .int .i64 y.j.na, .int .i64 y.j.nb, .int .i64 y.j.nc, .int .i64 y.j.la, .int .i64 y.j.lb, .int .i64 y.j.lc, .int .i64 y.j.wl, .int .i64 y.j.lv, .int .i64 y.n, .int .i64 y.a, .int .i64 y.b, .int .i64 y.c, .int .i64 p1]) := Row.setCs _ 1 HJ.out (by simp)
      replace HR : Hid (Row (w6.setCells q 1 (#[.int .i64 y.s, .int .i64 y.j.id, .int .i64 y.j.pr, .int .i64 y.j.nd, .int .i64 y.j.na, .int .i64 y.j.nb, .int .i64 y.j.nc, .int .i64 y.j.la, .int .i64 y.j.lb, .int .i64 y.j.lc, .int .i64 y.j.wl, .int .i64 y.j.lv, .int .i64 y.n, .int .i64 y.a, .int .i64 y.b, .int .i64 y.c] : Array Value).toList) w.heap.size [.int .i64 0, .int .i64 0, .int .i64 0, .int .i64 0, .int .i64 0, .int .i64 0, .int .i64 0, .int .i64 0, .int .i64 0, .int .i64 0, .int .i64 0, .int .i64 0, .int .i64 0, .int .i64 0, .int .i64 0, .int .i64 0, .int .i64 0, .int .i64 0]) := HR.out.apartCs hqr _ 1
      have HT0 : Hid (Tip w (w6.setCells q 1 (#[.int .i64 y.s, .int .i64 y.j.id, .int .i64 y.j.pr, .int .i64 y.j.nd, .int .i64 y.j.na, .int .i64 y.j.nb, .int .i64 y.j.nc, .int .i64 y.j.la, .int .i64 y.j.lb, .int .i64 y.j.lc, .int .i64 y.j.wl, .int .i64 y.j.lv, .int .i64 y.n, .int .i64 y.a, .int .i64 y.b, .int .i64 y.c] : Array Value).toList) g a n cap) := Tip.setCs H.out q (by omega) _ 1 ⟨HG.out, HC.out⟩
      generalize w6.setCells q 1 _ = u6 at HR HJ HT0 ⊢
      go_wp2_with fail
      go_meet
      case rel => exact ⟨y, HJ.out, HR.out, HT0.out.1, HT0.out.2⟩
    · have hcond2 : (k == 2) = false := by simpa using hcond
      go_wp2_with fail
      go_meet
      case rel => exact ⟨x, HJ.out, HR.out, HG.out, HC.out⟩
  case rest =>
  obtain ⟨y, hj, hr, hg, hc⟩ := hcut
  have HJ : Hid (Row wc q [.int .i64 k1, .int .i64 y.s, .int .i64 y.j.id, .int .i64 y.j.pr, .int .i64 y.j.nd, .int .i64 y.j.na, .int .i64 y.j.nb, .int .i64 y.j.nc, .int .i64 y.j.la, .int .i64 y.j.lb, .int .i64 y.j.lc, .int .i64 y.j.wl, .int .i64 y.j.lv, .int .i64 y.n, .int .i64 y.a, .int .i64 y.b, .int .i64 y.c, .int .i64 p1]) := hj
  have HR : Hid (Row wc w.heap.size [.int .i64 0, .int .i64 0, .int .i64 0, .int .i64 0, .int .i64 0, .int .i64 0, .int .i64 0, .int .i64 0, .int .i64 0, .int .i64 0, .int .i64 0, .int .i64 0, .int .i64 0, .int .i64 0, .int .i64 0, .int .i64 0, .int .i64 0, .int .i64 0]) := hr
  have HG : Hid (w.grownBy wc (some g)) := hg
  have HC : Hid (Cur wc g a n cap) := hc
  clear hj hr hg hc
  go_wp2_with (refine stay_load 30 ?_)
  refine ⟨?_⟩
  refine wpList_load_mid rfl 30 _ rfl q 0 rfl [.int .i64 k1, .int .i64 y.s, .int .i64 y.j.id, .int .i64 y.j.pr, .int .i64 y.j.nd, .int .i64 y.j.na, .int .i64 y.j.nb, .int .i64 y.j.nc, .int .i64 y.j.la, .int .i64 y.j.lb, .int .i64 y.j.lc, .int .i64 y.j.wl, .int .i64 y.j.lv, .int .i64 y.n, .int .i64 y.a, .int .i64 y.b, .int .i64 y.c, .int .i64 p1] _ HJ.out.all Tryz.underlying30 rfl szStep ?_
  go_wp2_with (refine stay_store 30 ?_)
  refine ⟨?_⟩
  refine wpList_store_mid rfl 30 _ _ rfl w.heap.size 0 (#[.int .i64 k1, .int .i64 y.s, .int .i64 y.j.id, .int .i64 y.j.pr, .int .i64 y.j.nd, .int .i64 y.j.na, .int .i64 y.j.nb, .int .i64 y.j.nc, .int .i64 y.j.la, .int .i64 y.j.lb, .int .i64 y.j.lc, .int .i64 y.j.wl, .int .i64 y.j.lv, .int .i64 y.n, .int .i64 y.a, .int .i64 y.b, .int .i64 y.c, .int .i64 p1]) rfl rfl (HR.out.room 0 18 (by simp)) szStep (by simp [Value.oneCell']) ?_
  replace HR : Hid (Row (wc.setCells w.heap.size 0 (#[.int .i64 k1, .int .i64 y.s, .int .i64 y.j.id, .int .i64 y.j.pr, .int .i64 y.j.nd, .int .i64 y.j.na, .int .i64 y.j.nb, .int .i64 y.j.nc, .int .i64 y.j.la, .int .i64 y.j.lb, .int .i64 y.j.lc, .int .i64 y.j.wl, .int .i64 y.j.lv, .int .i64 y.n, .int .i64 y.a, .int .i64 y.b, .int .i64 y.c, .int .i64 p1] : Array Value).toList) w.heap.size [.int .i64 k1, .int .i64 y.s, .int .i64 y.j.id, .int .i64 y.j.pr, .int .i64 y.j.nd, .int .i64 y.j.na, .int .i64 y.j.nb, .int .i64 y.j.nc, .int .i64 y.j.la, .int .i64 y.j.lb, .int .i64 y.j.lc, .int .i64 y.j.wl, .int .i64 y.j.lv, .int .i64 y.n, .int .i64 y.a, .int .i64 y.b, .int .i64 y.c, .int .i64 p1]) := Row.setCs _ 0 HR.out (by simp)
  have HT : Hid (Tip w (wc.setCells w.heap.size 0 (#[.int .i64 k1, .int .i64 y.s, .int .i64 y.j.id, .int .i64 y.j.pr, .int .i64 y.j.nd, .int .i64 y.j.na, .int .i64 y.j.nb, .int .i64 y.j.nc, .int .i64 y.j.la, .int .i64 y.j.lb, .int .i64 y.j.lc, .int .i64 y.j.wl, .int .i64 y.j.lv, .int .i64 y.n, .int .i64 y.a, .int .i64 y.b, .int .i64 y.c, .int .i64 p1] : Array Value).toList) g a n cap) := Tip.setCs H.out w.heap.size (Nat.le_refl _) _ 0 ⟨HG.out, HC.out⟩
  generalize wc.setCells w.heap.size 0 _ = u8 at HR HT ⊢
  clear HJ HG HC
  go_wp2_with fail
  have hv := run_loadVar_mid (P := Tryz.prog) u8 w.heap.size 0 30 [.int .i64 k1, .int .i64 y.s, .int .i64 y.j.id, .int .i64 y.j.pr, .int .i64 y.j.nd, .int .i64 y.j.na, .int .i64 y.j.nb, .int .i64 y.j.nc, .int .i64 y.j.la, .int .i64 y.j.lb, .int .i64 y.j.lc, .int .i64 y.j.wl, .int .i64 y.j.lv, .int .i64 y.n, .int .i64 y.a, .int .i64 y.b, .int .i64 y.c, .int .i64 p1] _ HR.out.all Tryz.underlying30 rfl szStep
  exact bodyPost_ret (v := .agg #[.int .i64 k1, .int .i64 y.s, .int .i64 y.j.id, .int .i64 y.j.pr, .int .i64 y.j.nd, .int .i64 y.j.na, .int .i64 y.j.nb, .int .i64 y.j.nc, .int .i64 y.j.la, .int .i64 y.j.lb, .int .i64 y.j.lc, .int .i64 y.j.wl, .int .i64 y.j.lv, .int .i64 y.n, .int .i64 y.a, .int .i64 y.b, .int .i64 y.c, .int .i64 p1]) (results_one Tryz.results12 rfl hv) rfl ⟨k1, y, p1, rfl, HT.out.1, HT.out.2⟩
end Go.Proofs.YtejleghdgdbbnaaGreatDoor

namespace Go.Proofs.YtejleghdgdbbnaaGreatDoor
open Go.ChangeShapes Go.WideShapes Go.ChangeAt Go.RowKit

set_option maxHeartbeats 4000000 in
set_option maxRecDepth 100000 in
theorem drawStepText_c (a : Option Addr) (n cap : Nat) (w : World) (h : CodeIs w a n) :
    Calls Tryz.prog 5 #[.slice a n cap] w fun e w' => ∃ (k : Int) (x : Cm) (kp : Int), e = .returned (.agg #[.int .i64 k, .int .i64 x.s, .int .i64 x.j.id, .int .i64 x.j.pr, .int .i64 x.j.nd, .int .i64 x.j.na, .int .i64 x.j.nb, .int .i64 x.j.nc, .int .i64 x.j.la, .int .i64 x.j.lb, .int .i64 x.j.lc, .int .i64 x.j.wl, .int .i64 x.j.lv, .int .i64 x.n, .int .i64 x.a, .int .i64 x.b, .int .i64 x.c, .int .i64 kp]) ∧ Below w.heap.size w w' := by
  have H : Hid (CodeIs w a n) := h
  clear h
  go_enter Tryz.func5, Tryz.ntmps5
  go_wp2_with fail
  have HB : Hid (Below w.heap.size w (w.alloc (.cells #[.int .i64 0, .int .i64 0, .int .i64 0, .int .i64 0, .int .i64 0, .int .i64 0, .int .i64 0, .int .i64 0, .int .i64 0, .int .i64 0, .int .i64 0, .int .i64 0, .int .i64 0, .int .i64 0, .int .i64 0, .int .i64 0, .int .i64 0, .int .i64 0] 30))) := low_alloc _ _
  have HP : Hid (Row (w.alloc (.cells #[.int .i64 0, .int .i64 0, .int .i64 0, .int .i64 0, .int .i64 0, .int .i64 0, .int .i64 0, .int .i64 0, .int .i64 0, .int .i64 0, .int .i64 0, .int .i64 0, .int .i64 0, .int .i64 0, .int .i64 0, .int .i64 0, .int .i64 0, .int .i64 0] 30)) w.heap.size [.int .i64 0, .int .i64 0, .int .i64 0, .int .i64 0, .int .i64 0, .int .i64 0, .int .i64 0, .int .i64 0, .int .i64 0, .int .i64 0, .int .i64 0, .int .i64 0, .int .i64 0, .int .i64 0, .int .i64 0, .int .i64 0, .int .i64 0, .int .i64 0]) := row_new w [.int .i64 0, .int .i64 0, .int .i64 0, .int .i64 0, .int .i64 0, .int .i64 0, .int .i64 0, .int .i64 0, .int .i64 0, .int .i64 0, .int .i64 0, .int .i64 0, .int .i64 0, .int .i64 0, .int .i64 0, .int .i64 0, .int .i64 0, .int .i64 0] 30
  generalize w.alloc (.cells #[.int .i64 0, .int .i64 0, .int .i64 0, .int .i64 0, .int .i64 0, .int .i64 0, .int .i64 0, .int .i64 0, .int .i64 0, .int .i64 0, .int .i64 0, .int .i64 0, .int .i64 0, .int .i64 0, .int .i64 0, .int .i64 0, .int .i64 0, .int .i64 0] 30) = w0 at HB HP ⊢
  refine (l01New_c a n cap _ (H.out.below HB.out)).mono ?_
  rintro e w1 ⟨g, rfl, hg1, hb1, hc1⟩
  have hP0 := HP.out.lt
  replace HP : Hid (Row w1 w.heap.size [.int .i64 0, .int .i64 0, .int .i64 0, .int .i64 0, .int .i64 0, .int .i64 0, .int .i64 0, .int .i64 0, .int .i64 0, .int .i64 0, .int .i64 0, .int .i64 0, .int .i64 0, .int .i64 0, .int .i64 0, .int .i64 0, .int .i64 0, .int .i64 0]) := HP.out.below hb1
  have hgw : w.heap.size < g := by omega
  replace HB : Hid (Below w.heap.size w w1) := below_then HB.out hb1
  have HC : Hid (Cur w1 g a n cap) := hc1
  clear hb1 hc1 hg1 H
  go_wp2_with fail
  have HL : Calls Tryz.prog 12 #[.pointer (some ⟨g, 0, none⟩)] w1 fun e w' => ∃ (k : Int) (x : Cm) (kp : Int), e = .returned (.agg #[.int .i64 k, .int .i64 x.s, .int .i64 x.j.id, .int .i64 x.j.pr, .int .i64 x.j.nd, .int .i64 x.j.na, .int .i64 x.j.nb, .int .i64 x.j.nc, .int .i64 x.j.la, .int .i64 x.j.lb, .int .i64 x.j.lc, .int .i64 x.j.wl, .int .i64 x.j.lv, .int .i64 x.n, .int .i64 x.a, .int .i64 x.b, .int .i64 x.c, .int .i64 kp]) ∧ w1.grownBy w' (some g) ∧ Cur w' g a n cap := l09AnyStep_c g a n cap _ HC.out
  refine HL.mono ?_
  clear HL
  rintro e w2 ⟨k, x, kp, rfl, hg, hc⟩
  replace HP : Hid (Row w2 w.heap.size [.int .i64 0, .int .i64 0, .int .i64 0, .int .i64 0, .int .i64 0, .int .i64 0, .int .i64 0, .int .i64 0, .int .i64 0, .int .i64 0, .int .i64 0, .int .i64 0, .int .i64 0, .int .i64 0, .int .i64 0, .int .i64 0, .int .i64 0, .int .i64 0]) := far_ne HP.out hg (by omega)
  replace HB : Hid (Below w.heap.size w w2) := below_grown HB.out hg (by omega)
  clear hg hc HC
  go_wp2_with (refine stay_load 30 ?_)
  refine ⟨?_⟩
  have hPq := HP.out.lt
  have HX : Hid (Row (w2.alloc (.cells #[.int .i64 k, .int .i64 x.s, .int .i64 x.j.id, .int .i64 x.j.pr, .int .i64 x.j.nd, .int .i64 x.j.na, .int .i64 x.j.nb, .int .i64 x.j.nc, .int .i64 x.j.la, .int .i64 x.j.lb, .int .i64 x.j.lc, .int .i64 x.j.wl, .int .i64 x.j.lv, .int .i64 x.n, .int .i64 x.a, .int .i64 x.b, .int .i64 x.c, .int .i64 kp] 30)) w2.heap.size [.int .i64 k, .int .i64 x.s, .int .i64 x.j.id, .int .i64 x.j.pr, .int .i64 x.j.nd, .int .i64 x.j.na, .int .i64 x.j.nb, .int .i64 x.j.nc, .int .i64 x.j.la, .int .i64 x.j.lb, .int .i64 x.j.lc, .int .i64 x.j.wl, .int .i64 x.j.lv, .int .i64 x.n, .int .i64 x.a, .int .i64 x.b, .int .i64 x.c, .int .i64 kp]) := row_new w2 [.int .i64 k, .int .i64 x.s, .int .i64 x.j.id, .int .i64 x.j.pr, .int .i64 x.j.nd, .int .i64 x.j.na, .int .i64 x.j.nb, .int .i64 x.j.nc, .int .i64 x.j.la, .int .i64 x.j.lb, .int .i64 x.j.lc, .int .i64 x.j.wl, .int .i64 x.j.lv, .int .i64 x.n, .int .i64 x.a, .int .i64 x.b, .int .i64 x.c, .int .i64 kp] 30
  replace HP : Hid (Row (w2.alloc (.cells #[.int .i64 k, .int .i64 x.s, .int .i64 x.j.id, .int .i64 x.j.pr, .int .i64 x.j.nd, .int .i64 x.j.na, .int .i64 x.j.nb, .int .i64 x.j.nc, .int .i64 x.j.la, .int .i64 x.j.lb, .int .i64 x.j.lc, .int .i64 x.j.wl, .int .i64 x.j.lv, .int .i64 x.n, .int .i64 x.a, .int .i64 x.b, .int .i64 x.c, .int .i64 kp] 30)) w.heap.size [.int .i64 0, .int .i64 0, .int .i64 0, .int .i64 0, .int .i64 0, .int .i64 0, .int .i64 0, .int .i64 0, .int .i64 0, .int .i64 0, .int .i64 0, .int .i64 0, .int .i64 0, .int .i64 0, .int .i64 0, .int .i64 0, .int .i64 0, .int .i64 0]) := HP.out.below (low_alloc _ _)
  replace HB : Hid (Below w.heap.size w (w2.alloc (.cells #[.int .i64 k, .int .i64 x.s, .int .i64 x.j.id, .int .i64 x.j.pr, .int .i64 x.j.nd, .int .i64 x.j.na, .int .i64 x.j.nb, .int .i64 x.j.nc, .int .i64 x.j.la, .int .i64 x.j.lb, .int .i64 x.j.lc, .int .i64 x.j.wl, .int .i64 x.j.lv, .int .i64 x.n, .int .i64 x.a, .int .i64 x.b, .int .i64 x.c, .int .i64 kp] 30))) := behind_alloc HB.out _
  generalize w2.alloc (.cells #[.int .i64 k, .int .i64 x.s, .int .i64 x.j.id, .int .i64 x.j.pr, .int .i64 x.j.nd, .int .i64 x.j.na, .int .i64 x.j.nb, .int .i64 x.j.nc, .int .i64 x.j.la, .int .i64 x.j.lb, .int .i64 x.j.lc, .int .i64 x.j.wl, .int .i64 x.j.lv, .int .i64 x.n, .int .i64 x.a, .int .i64 x.b, .int .i64 x.c, .int .i64 kp] 30) = u0 at HX HP HB ⊢
  generalize w2.heap.size = q at HX hPq ⊢
  refine wpList_load_mid rfl 30 _ rfl q 0 rfl [.int .i64 k, .int .i64 x.s, .int .i64 x.j.id, .int .i64 x.j.pr, .int .i64 x.j.nd, .int .i64 x.j.na, .int .i64 x.j.nb, .int .i64 x.j.nc, .int .i64 x.j.la, .int .i64 x.j.lb, .int .i64 x.j.lc, .int .i64 x.j.wl, .int .i64 x.j.lv, .int .i64 x.n, .int .i64 x.a, .int .i64 x.b, .int .i64 x.c, .int .i64 kp] _ HX.out.all Tryz.underlying30 rfl szStep ?_
  go_wp2_with (refine stay_store 30 ?_)
  refine ⟨?_⟩
  refine wpList_store_mid rfl 30 _ _ rfl w.heap.size 0 (#[.int .i64 k, .int .i64 x.s, .int .i64 x.j.id, .int .i64 x.j.pr, .int .i64 x.j.nd, .int .i64 x.j.na, .int .i64 x.j.nb, .int .i64 x.j.nc, .int .i64 x.j.la, .int .i64 x.j.lb, .int .i64 x.j.lc, .int .i64 x.j.wl, .int .i64 x.j.lv, .int .i64 x.n, .int .i64 x.a, .int .i64 x.b, .int .i64 x.c, .int .i64 kp]) rfl rfl (HP.out.room 0 18 (by simp)) szStep (by simp [Value.oneCell']) ?_
  replace HP : Hid (Row (u0.setCells w.heap.size 0 (#[.int .i64 k, .int .i64 x.s, .int .i64 x.j.id, .int .i64 x.j.pr, .int .i64 x.j.nd, .int .i64 x.j.na, .int .i64 x.j.nb, .int .i64 x.j.nc, .int .i64 x.j.la, .int .i64 x.j.lb, .int .i64 x.j.lc, .int .i64 x.j.wl, .int .i64 x.j.lv, .int .i64 x.n, .int .i64 x.a, .int .i64 x.b, .int .i64 x.c, .int .i64 kp] : Array Value).toList) w.heap.size [.int .i64 k, .int .i64 x.s, .int .i64 x.j.id, .int .i64 x.j.pr, .int .i64 x.j.nd, .int .i64 x.j.na, .int .i64 x.j.nb, .int .i64 x.j.nc, .int .i64 x.j.la, .int .i64 x.j.lb, .int .i64 x.j.lc, .int .i64 x.j.wl, .int .i64 x.j.lv, .int .i64 x.n, .int .i64 x.a, .int .i64 x.b, .int .i64 x.c, .int .i64 kp]) := Row.setCs _ 0 HP.out (by simp)
  replace HB : Hid (Below w.heap.size w (u0.setCells w.heap.size 0 (#[.int .i64 k, .int .i64 x.s, .int .i64 x.j.id, .int .i64 x.j.pr, .int .i64 x.j.nd, .int .i64 x.j.na, .int .i64 x.j.nb, .int .i64 x.j.nc, .int .i64 x.j.la, .int .i64 x.j.lb, .int .i64 x.j.lc, .int .i64 x.j.wl, .int .i64 x.j.lv, .int .i64 x.n, .int .i64 x.a, .int .i64 x.b, .int .i64 x.c, .int .i64 kp] : Array Value).toList)) := below_setCs (Nat.le_refl _) _ _ HB.out
  generalize u0.setCells w.heap.size 0 _ = u8 at HP HB ⊢
  clear HX
  go_wp2_with fail
  have hv := run_loadVar_mid (P := Tryz.prog) u8 w.heap.size 0 30 [.int .i64 k, .int .i64 x.s, .int .i64 x.j.id, .int .i64 x.j.pr, .int .i64 x.j.nd, .int .i64 x.j.na, .int .i64 x.j.nb, .int .i64 x.j.nc, .int .i64 x.j.la, .int .i64 x.j.lb, .int .i64 x.j.lc, .int .i64 x.j.wl, .int .i64 x.j.lv, .int .i64 x.n, .int .i64 x.a, .int .i64 x.b, .int .i64 x.c, .int .i64 kp] _ HP.out.all Tryz.underlying30 rfl szStep
  exact bodyPost_ret (v := .agg #[.int .i64 k, .int .i64 x.s, .int .i64 x.j.id, .int .i64 x.j.pr, .int .i64 x.j.nd, .int .i64 x.j.na, .int .i64 x.j.nb, .int .i64 x.j.nc, .int .i64 x.j.la, .int .i64 x.j.lb, .int .i64 x.j.lc, .int .i64 x.j.wl, .int .i64 x.j.lv, .int .i64 x.n, .int .i64 x.a, .int .i64 x.b, .int .i64 x.c, .int .i64 kp]) (results_one Tryz.results5 rfl hv) rfl ⟨k, x, kp, rfl, HB.out⟩
end Go.Proofs.YtejleghdgdbbnaaGreatDoor
