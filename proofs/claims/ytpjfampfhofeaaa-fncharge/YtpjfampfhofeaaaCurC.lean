/- The cursor's numbers and vectors of any kind. -/
import Derived.Test.YtpjfampfhofeaaaCurB
namespace Go.Proofs.Ytpjfampfhofeaaa
open Go.ChangeShapes Go.WideShapes Go.ChangeAt Go.RowKit

set_option maxHeartbeats 1000000 in
theorem l01Raw_c (g : Nat) (a : Option Addr) (n cap : Nat) (w : World) (h : Cur w g a n cap) :
    Calls Try.prog 46 #[.pointer (some ⟨g, 0, none⟩)] w fun e w' => ∃ x : Int, e = .returned (.int .i64 x) ∧ w.grownBy w' (some g) ∧ Cur w' g a n cap := by
  have H : Hid (Cur w g a n cap) := h
  clear h
  go_enter Try.func46, Try.ntmps46
  go_wp2_with fail
  refine (l01Below_c g a n cap _ (by decide) (by decide) _ H.out).mono ?_
  rintro e w1 ⟨x, rfl, hx0, hx1, hg1, hc1⟩
  have HG1 : Hid (w.grownBy w1 (some g)) := hg1
  have HC1 : Hid (Cur w1 g a n cap) := hc1
  clear hg1 hc1
  by_cases h4 : x < 4
  · go_wp2_with fail
    refine (l01Below_c g a n cap _ (by decide) (by decide) _ HC1.out).mono ?_
    rintro e w2 ⟨y, rfl, hy0, hy1, hg2, hc2⟩
    have HG2 : Hid (w.grownBy w2 (some g)) := Lib.grownBy_trans HG1.out hg2
    have HC2 : Hid (Cur w2 g a n cap) := hc2
    clear hg2 hc2 HG1 HC1
    go_wp2_with fail
    go_ret
    exact ⟨_, rfl, HG2.out, HC2.out⟩
  · obtain rfl | rfl | rfl | rfl | rfl : x = 4 ∨ x = 5 ∨ x = 6 ∨ x = 7 ∨ x = 8 := by omega
    all_goals
      clear h4 hx0 hx1
      go_wp2_with fail
      refine (l01Below_c g a n cap _ (by decide) (by decide) _ HC1.out).mono ?_
      rintro e w2 ⟨y, rfl, hy0, hy1, hg2, hc2⟩
      have HG2 : Hid (w.grownBy w2 (some g)) := Lib.grownBy_trans HG1.out hg2
      have HC2 : Hid (Cur w2 g a n cap) := hc2
      clear hg2 hc2 HG1 HC1
      go_wp2_with fail
      go_ret
      exact ⟨_, rfl, HG2.out, HC2.out⟩

end Go.Proofs.Ytpjfampfhofeaaa
