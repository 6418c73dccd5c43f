/- A vector of any kind; the cursor's beginning; two vectors. -/
import Derived.Test.YtgpogglaffehcaaCurC
namespace Go.Proofs.Ytgpogglaffehcaa
open Go.ChangeShapes Go.WideShapes Go.ChangeAt Go.RowKit

set_option maxHeartbeats 2000000 in
theorem l01Any_c (g : Nat) (a : Option Addr) (n cap : Nat) (w : World) (h : Cur w g a n cap) :
    Calls Try.prog 60 #[.pointer (some ⟨g, 0, none⟩)] w fun e w' => ∃ x y z : Int, e = .returned (.agg #[.int .i64 x, .int .i64 y, .int .i64 z]) ∧ w.grownBy w' (some g) ∧ Cur w' g a n cap := by
  have H : Hid (Cur w g a n cap) := h
  have hlt := h.lt
  have hne : g ≠ w.heap.size := by omega
  clear h
  go_enter Try.func60, Try.ntmps60
  go_wp2_with fail
  have HV0 : Hid (Row (w.alloc (.cells #[.int .i64 0, .int .i64 0, .int .i64 0] 27)) w.heap.size [.int .i64 0, .int .i64 0, .int .i64 0]) := row_new w [.int .i64 0, .int .i64 0, .int .i64 0] 27
  have HG0 : Hid (w.grownBy (w.alloc (.cells #[.int .i64 0, .int .i64 0, .int .i64 0] 27)) (some g)) := World.grownBy_alloc w _ _
  have HC0 : Hid (Cur (w.alloc (.cells #[.int .i64 0, .int .i64 0, .int .i64 0] 27)) g a n cap) := H.out.below (by go_grown)
  generalize w.alloc (.cells #[.int .i64 0, .int .i64 0, .int .i64 0] 27) = w0 at HV0 HG0 HC0
  refine (l01Vec_c g a n cap _ HC0.out).mono ?_
  rintro e w3 ⟨x1, x2, x3, rfl, hg, hc⟩
  have HG3 : Hid (w.grownBy w3 (some g)) := Lib.grownBy_trans HG0.out hg
  have HV3 : Hid (Row w3 w.heap.size [.int .i64 0, .int .i64 0, .int .i64 0]) := HV0.out.far hg (by intro e; exact hne (Option.some.inj e).symm)
  have HC3 : Hid (Cur w3 g a n cap) := hc
  clear hg hc HG0 HV0 HC0
  go_wp2_with fail
  have hq : w.heap.size < w3.heap.size := HV3.out.lt
  have HQ4 : Hid (Row (w3.alloc (.cells #[.int .i64 x1, .int .i64 x2, .int .i64 x3] 27)) w3.heap.size [.int .i64 x1, .int .i64 x2, .int .i64 x3]) := row_new w3 [.int .i64 x1, .int .i64 x2, .int .i64 x3] 27
  have HB4 : Hid (Below w3.heap.size w3 (w3.alloc (.cells #[.int .i64 x1, .int .i64 x2, .int .i64 x3] 27))) := (Below.refl _ _).alloc (Nat.le_refl _) _
  generalize w3.alloc (.cells #[.int .i64 x1, .int .i64 x2, .int .i64 x3] 27) = w4 at HQ4 HB4
  have HG4 : Hid (w.grownBy w4 (some g)) := Lib.grownBy_below HG3.out HB4.out
  have HV4 : Hid (Row w4 w.heap.size [.int .i64 0, .int .i64 0, .int .i64 0]) := HV3.out.below HB4.out
  have HC4 : Hid (Cur w4 g a n cap) := HC3.out.below HB4.out
  generalize w3.heap.size = q at hq HQ4 HB4
  clear HB4 HG3 HV3 HC3
  have hgq : g ≠ q := by omega
  refine (l01Below_c g a n cap 12 (by decide) (by decide) _ HC4.out).mono ?_
  rintro e w5 ⟨x5, rfl, h50, h51, hg, hc⟩
  have HG5 : Hid (w.grownBy w5 (some g)) := Lib.grownBy_trans HG4.out hg
  have HV5 : Hid (Row w5 w.heap.size [.int .i64 0, .int .i64 0, .int .i64 0]) := HV4.out.far hg (by intro e; exact hne (Option.some.inj e).symm)
  have HQ5 : Hid (Row w5 q [.int .i64 x1, .int .i64 x2, .int .i64 x3]) := HQ4.out.far hg (by intro e; exact hgq (Option.some.inj e).symm)
  have HC5 : Hid (Cur w5 g a n cap) := hc
  clear hg hc HG4 HV4 HQ4 HC4
  have hvq : w.heap.size ≠ q := by omega
  have hqv : q ≠ w.heap.size := by omega
  rcases (by omega : x5 = 0 ∨ x5 = 1 ∨ x5 = 2 ∨ 2 < x5) with rfl | rfl | rfl | h5
  · clear h50 h51
    go_wp2_with fail
    refine (l01Raw_c g a n cap _ HC5.out).mono ?_
    rintro e w6 ⟨x6, rfl, hg, hc⟩
    have HG6 : Hid (w.grownBy w6 (some g)) := Lib.grownBy_trans HG5.out hg
    have HV6 : Hid (Row w6 w.heap.size [.int .i64 0, .int .i64 0, .int .i64 0]) := HV5.out.far hg (by intro e; exact hne (Option.some.inj e).symm)
    have HQ6 : Hid (Row w6 q [.int .i64 x1, .int .i64 x2, .int .i64 x3]) := HQ5.out.far hg (by intro e; exact hgq (Option.some.inj e).symm)
    have HC6 : Hid (Cur w6 g a n cap) := hc
    clear hg hc HG5 HV5 HQ5 HC5
    have v0 := HV6.out.cell 0 _ rfl
    have v1 := HV6.out.cell 1 _ rfl
    have v2 := HV6.out.cell 2 _ rfl
    have fv0 := HV6.out.free 0
    have fv1 := HV6.out.free 1
    have fv2 := HV6.out.free 2
    have q0 := HQ6.out.cell 0 _ rfl
    have q1 := HQ6.out.cell 1 _ rfl
    have q2 := HQ6.out.cell 2 _ rfl
    have fq := HQ6.out.free 0
    go_wp2_with fail
    have T1 := Tip.set H.out ⟨HG6.out, HC6.out⟩ q 0 (by omega) (.int .i64 x6)
    have T2 := Tip.set H.out T1 w.heap.size 0 (Nat.le_refl _) (.int .i64 x6)
    have T3 := Tip.set H.out T2 w.heap.size 1 (Nat.le_refl _) (.int .i64 x2)
    have T4 := Tip.set H.out T3 w.heap.size 2 (Nat.le_refl _) (.int .i64 x3)
    exact bodyPost_ret (v := .agg #[.int .i64 x6, .int .i64 x2, .int .i64 x3]) (by simp [results, Try.results60, go_sem, *]) rfl ⟨_, _, _, rfl, T4.1, T4.2⟩
  · clear h50 h51
    go_wp2_with fail
    refine (l01Raw_c g a n cap _ HC5.out).mono ?_
    rintro e w6 ⟨x6, rfl, hg, hc⟩
    have HG6 : Hid (w.grownBy w6 (some g)) := Lib.grownBy_trans HG5.out hg
    have HV6 : Hid (Row w6 w.heap.size [.int .i64 0, .int .i64 0, .int .i64 0]) := HV5.out.far hg (by intro e; exact hne (Option.some.inj e).symm)
    have HQ6 : Hid (Row w6 q [.int .i64 x1, .int .i64 x2, .int .i64 x3]) := HQ5.out.far hg (by intro e; exact hgq (Option.some.inj e).symm)
    have HC6 : Hid (Cur w6 g a n cap) := hc
    clear hg hc HG5 HV5 HQ5 HC5
    have v0 := HV6.out.cell 0 _ rfl
    have v1 := HV6.out.cell 1 _ rfl
    have v2 := HV6.out.cell 2 _ rfl
    have fv0 := HV6.out.free 0
    have fv1 := HV6.out.free 1
    have fv2 := HV6.out.free 2
    have q0 := HQ6.out.cell 0 _ rfl
    have q1 := HQ6.out.cell 1 _ rfl
    have q2 := HQ6.out.cell 2 _ rfl
    have fq := HQ6.out.free 1
    go_wp2_with fail
    have T1 := Tip.set H.out ⟨HG6.out, HC6.out⟩ q 1 (by omega) (.int .i64 x6)
    have T2 := Tip.set H.out T1 w.heap.size 0 (Nat.le_refl _) (.int .i64 x1)
    have T3 := Tip.set H.out T2 w.heap.size 1 (Nat.le_refl _) (.int .i64 x6)
    have T4 := Tip.set H.out T3 w.heap.size 2 (Nat.le_refl _) (.int .i64 x3)
    exact bodyPost_ret (v := .agg #[.int .i64 x1, .int .i64 x6, .int .i64 x3]) (by simp [results, Try.results60, go_sem, *]) rfl ⟨_, _, _, rfl, T4.1, T4.2⟩
  · clear h50 h51
    go_wp2_with fail
    refine (l01Raw_c g a n cap _ HC5.out).mono ?_
    rintro e w6 ⟨x6, rfl, hg, hc⟩
    have HG6 : Hid (w.grownBy w6 (some g)) := Lib.grownBy_trans HG5.out hg
    have HV6 : Hid (Row w6 w.heap.size [.int .i64 0, .int .i64 0, .int .i64 0]) := HV5.out.far hg (by intro e; exact hne (Option.some.inj e).symm)
    have HQ6 : Hid (Row w6 q [.int .i64 x1, .int .i64 x2, .int .i64 x3]) := HQ5.out.far hg (by intro e; exact hgq (Option.some.inj e).symm)
    have HC6 : Hid (Cur w6 g a n cap) := hc
    clear hg hc HG5 HV5 HQ5 HC5
    have v0 := HV6.out.cell 0 _ rfl
    have v1 := HV6.out.cell 1 _ rfl
    have v2 := HV6.out.cell 2 _ rfl
    have fv0 := HV6.out.free 0
    have fv1 := HV6.out.free 1
    have fv2 := HV6.out.free 2
    have q0 := HQ6.out.cell 0 _ rfl
    have q1 := HQ6.out.cell 1 _ rfl
    have q2 := HQ6.out.cell 2 _ rfl
    have fq := HQ6.out.free 2
    go_wp2_with fail
    have T1 := Tip.set H.out ⟨HG6.out, HC6.out⟩ q 2 (by omega) (.int .i64 x6)
    have T2 := Tip.set H.out T1 w.heap.size 0 (Nat.le_refl _) (.int .i64 x1)
    have T3 := Tip.set H.out T2 w.heap.size 1 (Nat.le_refl _) (.int .i64 x2)
    have T4 := Tip.set H.out T3 w.heap.size 2 (Nat.le_refl _) (.int .i64 x6)
    exact bodyPost_ret (v := .agg #[.int .i64 x1, .int .i64 x2, .int .i64 x6]) (by simp [results, Try.results60, go_sem, *]) rfl ⟨_, _, _, rfl, T4.1, T4.2⟩
  · have v0 := HV5.out.cell 0 _ rfl
    have v1 := HV5.out.cell 1 _ rfl
    have v2 := HV5.out.cell 2 _ rfl
    have fv0 := HV5.out.free 0
    have fv1 := HV5.out.free 1
    have fv2 := HV5.out.free 2
    have q0 := HQ5.out.cell 0 _ rfl
    have q1 := HQ5.out.cell 1 _ rfl
    have q2 := HQ5.out.cell 2 _ rfl
    have e0 : (x5 == 0) = false := by simp; omega
    have e1 : (x5 == 1) = false := by simp; omega
    have e2 : (x5 == 2) = false := by simp; omega
    go_wp2_with fail
    have T2 := Tip.set H.out ⟨HG5.out, HC5.out⟩ w.heap.size 0 (Nat.le_refl _) (.int .i64 x1)
    have T3 := Tip.set H.out T2 w.heap.size 1 (Nat.le_refl _) (.int .i64 x2)
    have T4 := Tip.set H.out T3 w.heap.size 2 (Nat.le_refl _) (.int .i64 x3)
    exact bodyPost_ret (v := .agg #[.int .i64 x1, .int .i64 x2, .int .i64 x3]) (by simp [results, Try.results60, go_sem, *]) rfl ⟨_, _, _, rfl, T4.1, T4.2⟩
end Go.Proofs.Ytgpogglaffehcaa
