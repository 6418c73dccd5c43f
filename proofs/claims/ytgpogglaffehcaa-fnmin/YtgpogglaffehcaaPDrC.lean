/- A span drawn. -/
import Derived.Test.YtgpogglaffehcaaCurC
import Derived.Deep.DeepCutAuto
namespace Go.Proofs.Ytgpogglaffehcaa
open Go.ChangeShapes Go.WideShapes Go.ChangeAt Go.RowKit

set_option maxHeartbeats 2000000 in
theorem l03Span_c (g : Nat) (a : Option Addr) (n cap : Nat) (w : World) (h : Cur w g a n cap) :
    Calls Try.prog 58 #[.pointer (some ⟨g, 0, none⟩)] w fun e w' => ∃ f t : Int, e = .returned (.tuple #[.int .i64 f, .int .i64 t]) ∧ w.grownBy w' (some g) ∧ Cur w' g a n cap := by
  have H : Hid (Cur w g a n cap) := h
  clear h
  go_enter Try.func58, Try.ntmps58
  go_wp2_with fail
  refine (l01Below_c g a n cap 80 (by decide) (by decide) _ H.out).mono ?_
  rintro e w1 ⟨x, rfl, hx0, hx1, hg, hc⟩
  have HG1 : Hid (w.grownBy w1 (some g)) := hg
  have HC1 : Hid (Cur w1 g a n cap) := hc
  clear hg hc
  go_wp2_with fail
  refine (l01Below_c g a n cap 50 (by decide) (by decide) _ HC1.out).mono ?_
  rintro e w2 ⟨y, rfl, hy0, hy1, hg, hc⟩
  have HG2 : Hid (w.grownBy w2 (some g)) := Lib.grownBy_trans HG1.out hg
  have HC2 : Hid (Cur w2 g a n cap) := hc
  clear hg hc HG1 HC1
  go_wp2_with fail
  refine (l01Below_c g a n cap 12 (by decide) (by decide) _ HC2.out).mono ?_
  rintro e w3 ⟨k, rfl, hk0, hk1, hg, hc⟩
  have HG3 : Hid (w.grownBy w3 (some g)) := Lib.grownBy_trans HG2.out hg
  have HC3 : Hid (Cur w3 g a n cap) := hc
  clear hg hc HG2 HC2
  rcases (by omega : k = 0 ∨ k = 1 ∨ k = 2 ∨ 2 < k) with rfl | rfl | rfl | h5
  · clear hk0 hk1
    go_wp2_with fail
    refine (l01Raw_c g a n cap _ HC3.out).mono ?_
    rintro e w6 ⟨x6, rfl, hg, hc⟩
    have HG6 : Hid (w.grownBy w6 (some g)) := Lib.grownBy_trans HG3.out hg
    have HC6 : Hid (Cur w6 g a n cap) := hc
    clear hg hc
    go_wp2_with fail
    go_ret2
    exact ⟨_, _, rfl, HG6.out, HC6.out⟩
  · clear hk0 hk1
    go_wp2_with fail
    refine (l01Raw_c g a n cap _ HC3.out).mono ?_
    rintro e w6 ⟨x6, rfl, hg, hc⟩
    have HG6 : Hid (w.grownBy w6 (some g)) := Lib.grownBy_trans HG3.out hg
    have HC6 : Hid (Cur w6 g a n cap) := hc
    clear hg hc
    go_wp2_with fail
    go_ret2
    exact ⟨_, _, rfl, HG6.out, HC6.out⟩
  · clear hk0 hk1
    go_wp2_with fail
    go_ret2
    exact ⟨_, _, rfl, HG3.out, HC3.out⟩
  · have e0 : (k == 0) = false := by simp; omega
    have e1 : (k == 1) = false := by simp; omega
    have e2 : (k == 2) = false := by simp; omega
    go_wp2_with fail
    go_ret2
    exact ⟨_, _, rfl, HG3.out, HC3.out⟩
end Go.Proofs.Ytgpogglaffehcaa
