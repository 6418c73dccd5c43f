/- Dues that change places in a heap: the program's rise. -/
import Derived.Test.YtdmmjggkdkmeaaaHqB
namespace Go.Proofs.Ytdmmjggkdkmeaaa
open Go.ChangeShapes Go.WideShapes Go.ChangeAt Go.RowKit

set_option maxHeartbeats 4000000 in
set_option maxRecDepth 100000 in
theorem rise_c (B g C : Nat) (l : List Du) (hl : l.length ≤ 1048576) (n : Nat) (hn : n < l.length) (w : World) (h : w.ownsRow B 30 2 (.slice (some ⟨g, 0, none⟩) l.length C) l.length (flatD l)) :
    Calls Try.prog 48 #[.slice (some ⟨g, 0, none⟩) l.length C, .int .i64 n] w fun e w' => e = .returned (.tuple #[]) ∧ w'.ownsRow B 30 2 (.slice (some ⟨g, 0, none⟩) l.length C) l.length (flatD (dup l n)) ∧ w.grownBy w' (some g) := by
  have H : Hid (w.ownsRow B 30 2 (.slice (some ⟨g, 0, none⟩) l.length C) l.length (flatD l)) := h
  clear h
  go_enter Try.func48, Try.ntmps48
  go_wp2_with fail
  go_loopw [1] (fun i wr => ∃ (k : Nat) (ys : List Du), ys.length = l.length ∧ k < l.length ∧ i = .int .i64 k ∧ dup ys k = dup l n ∧ wr.ownsRow B 30 2 (.slice (some ⟨g, 0, none⟩) l.length C) l.length (flatD ys) ∧ w.grownBy wr (some g)) (fun i _ => (intOf i).toNat)
  case atStart => exact ⟨n, l, rfl, hn, rfl, rfl, H.out, World.grownBy.refl _ _⟩
  case round =>
    obtain ⟨k, ys, hys, hk, rfl, hup, ho, hb⟩ := hrel
    have HW : Hid (wr.ownsRow B 30 2 (.slice (some ⟨g, 0, none⟩) l.length C) l.length (flatD ys)) := ho
    have HO : Hid (Row wr g (flatD ys)) := (owns_row ho).1
    have HB3 : Hid (w.grownBy wr (some g)) := hb
    have HUp : Hid (dup ys k = dup l n) := hup
    have HYs : Hid (ys.length = l.length) := hys
    clear ho hb hup hys
    have hsome := beh_some wr
    by_cases hk0 : k = 0
    · have hg0 : decide (0 < k) = false := by simp; omega
      have HE : Hid (ys = dup l n) := by
        show _ = _
        rw [← HUp.out, dup, dif_neg (fun t => by omega)]
      clear HUp hk0
      go_wp2_with fail
      refine wp_region_beh (by kernel_rfl) (by kernel_rfl) ?_
      repeat (go_big_quiet_step (fail))
      refine wpQuiet_nil ?_
      rintro ⟨w5, hb5⟩
      have HB5 : Hid (w.grownBy w5 (some g)) := HB3.out.trans (grown_below hb5)
      have HO5 : Hid (w5.ownsRow B 30 2 (.slice (some ⟨g, 0, none⟩) l.length C) l.length (flatD (dup l n))) := by
        show World.ownsRow _ _ _ _ _ _ _
        rw [← HE.out]
        exact ownsD_below HW.out hb5
      go_wp2_with fail
      go_returns
      exact ⟨rfl, HO5.out, HB5.out⟩
    · have hg0 : decide (0 < k) = true := by simp; omega
      obtain ⟨m, hm⟩ : ∃ m : Nat, m = (k - 1) / 2 := ⟨_, rfl⟩
      have hk1 : (0 : Int) ≤ (k : Int) := by omega
      have hkk : 0 < k := by omega
      have hk2 : (k : Int) < (l.length : Int) := by omega
      have hml : m < l.length := by omega
      have hm0 : (0 : Int) ≤ (m : Int) := by omega
      have hm1 : (m : Int) < (l.length : Int) := by omega
      have HK1 : Hid (k < ys.length) := by show _ < _; rw [HYs.out]; exact hk
      have HM1 : Hid (m < ys.length) := by show _ < _; rw [HYs.out]; exact hml
      have HM : Hid (m = (k - 1) / 2) := hm
      have HP : Hid (∀ W : World, Calls Try.prog 51 #[.int .i64 (k : Int)] W fun e w' => e = .returned (.int .i64 (m : Int)) ∧ w' = W) := fun W => parentOf_c k m hkk (by omega) hm W
      obtain ⟨z, hz⟩ : ∃ z, dg ys k = z := ⟨_, rfl⟩
      obtain ⟨y, hy⟩ : ∃ y, dg ys m = y := ⟨_, rfl⟩
      have HZ : Hid (dg ys k = z) := hz
      have HYm : Hid (dg ys m = y) := hy
      have e1 : Hid (∀ r u, z.cells[r]? = some u → r < 2 → (flatD ys)[k * 2 + r]? = some u) := fun r u hu hr => by
        rw [flatD_get ys k r HK1.out hr, ← dg_eq HK1.out, hz]; exact hu
      have e2 : Hid (∀ r u, y.cells[r]? = some u → r < 2 → (flatD ys)[m * 2 + r]? = some u) := fun r u hu hr => by
        rw [flatD_get ys m r HM1.out hr, ← dg_eq HM1.out, hy]; exact hu
      have z0 := Beh.row HO.out (k * 2) _ (e1.out 0 _ rfl (by decide))
      have z1 := Beh.row HO.out (k * 2 + 1) _ (e1.out 1 _ rfl (by decide))
      have y0 := Beh.row HO.out (m * 2) _ (e2.out 0 _ rfl (by decide))
      have y1 := Beh.row HO.out (m * 2 + 1) _ (e2.out 1 _ rfl (by decide))
      have HDf : Hid (∀ W : World, Calls Try.prog 38 #[.agg #[.int .i64 z.t, .int .i64 z.n], .agg #[.int .i64 y.t, .int .i64 y.n]] W fun e w' => e = .returned (.bool (duL z y)) ∧ Below W.heap.size W w') := fun W => aheadOf_c z y W
      have hmt := ahead_method z
      clear hm hml hz hy
      cases hq : duL z y
      · have HE : Hid (ys = dup l n) := by
          show _ = _
          rw [← HUp.out, dup, dif_neg (fun t => by have := t.2; rw [← HM.out, HZ.out, HYm.out, hq] at this; cases this)]
        rw [hq] at HDf
        clear hq HUp HZ HYm HM HK1 HM1
        go_wp2_with fail
        refine wp_region_beh (by kernel_rfl) (by kernel_rfl) ?_
        repeat (go_big_quiet_step (first | (go_at_call 51; with_reducible exact calls_beh_same (HP.out _)) | (go_at_call 38; with_reducible exact calls_beh (HDf.out _))))
        refine wpQuiet_nil ?_
        rintro ⟨w5, hb5⟩
        have HB5 : Hid (w.grownBy w5 (some g)) := HB3.out.trans (grown_below hb5)
        have HO5 : Hid (w5.ownsRow B 30 2 (.slice (some ⟨g, 0, none⟩) l.length C) l.length (flatD (dup l n))) := by
          show World.ownsRow _ _ _ _ _ _ _
          rw [← HE.out]
          exact ownsD_below HW.out hb5
        go_wp2_with fail
        go_returns
        exact ⟨rfl, HO5.out, HB5.out⟩
      · have HE : Hid (dup (dsw ys k m) m = dup l n) := by
          show _ = _
          rw [← HUp.out]
          rw [dup.eq_1 ys, dif_pos ⟨by omega, by rw [← HM.out, HZ.out, HYm.out]; exact hq⟩, ← HM.out]
        rw [hq] at HDf
        clear hq HUp
        go_wp2_with fail
        refine wp_region_beh (by kernel_rfl) (by kernel_rfl) ?_
        repeat (go_big_quiet_step (first | (go_at_call 51; with_reducible exact calls_beh_same (HP.out _)) | (go_at_call 38; with_reducible exact calls_beh (HDf.out _))))
        refine wpQuiet_nil ?_
        rintro ⟨w5, hb5⟩
        have HB5 : Hid (w.grownBy w5 (some g)) := HB3.out.trans (grown_below hb5)
        have HO5 : Hid (Row w5 g (flatD ys)) := HO.out.below hb5
        have HW5 : Hid (w5.ownsRow B 30 2 (.slice (some ⟨g, 0, none⟩) l.length C) l.length (flatD ys)) := ownsD_below HW.out hb5
        clear z0 z1 y0 y1 hsome HDf hmt
        have z0 := HO5.out.cell (k * 2) _ (e1.out 0 _ rfl (by decide))
        have z1 := HO5.out.cell (k * 2 + 1) _ (e1.out 1 _ rfl (by decide))
        have y0 := HO5.out.cell (m * 2) _ (e2.out 0 _ rfl (by decide))
        have y1 := HO5.out.cell (m * 2 + 1) _ (e2.out 1 _ rfl (by decide))
        have f0 := HO5.out.free (k * 2)
        have f1 := HO5.out.free (k * 2 + 1)
        have f2 := HO5.out.free (m * 2)
        have f3 := HO5.out.free (m * 2 + 1)
        have hkm : k ≠ m := by have := HM.out; omega
        have q1 : ¬ k = m := hkm
        have q2 : ¬ m = k := fun t => hkm t.symm
        have q3 : ¬ k * 2 = m * 2 + 1 := by omega
        have q4 : ¬ m * 2 + 1 = k * 2 := by omega
        have q5 : ¬ k * 2 + 1 = m * 2 := by omega
        have q6 : ¬ m * 2 = k * 2 + 1 := by omega
        clear hkm
        go_wp2_with fail
        go_region_with (first | (go_at_call 51; refine (HP.out _).mono ?_; rintro e w6 ⟨rfl, rfl⟩))
        all_goals
          have HO9 : Hid (((((w5.setCell ⟨g, k * 2, none⟩ (.int .i64 y.t)).setCell ⟨g, k * 2 + 1, none⟩ (.int .i64 y.n)).setCell ⟨g, m * 2, none⟩ (.int .i64 z.t)).setCell ⟨g, m * 2 + 1, none⟩ (.int .i64 z.n)).drew.ownsRow B 30 2 (.slice (some ⟨g, 0, none⟩) l.length C) l.length (flatD (dsw ys k m))) := by
            show World.ownsRow ((w5.setCells g (k * 2) [.int .i64 y.t, .int .i64 y.n]).setCells g (m * 2) [.int .i64 z.t, .int .i64 z.n]).drew _ _ _ _ _ _
            have h8 := owns_setG [.int .i64 y.t, .int .i64 y.n] (k * 2) HW5.out (by simp [flatD_len, HYs.out]; omega)
            have e8 : Go.Proofs.Ytdmmjggkdkmeaaa.putL (flatD ys) (k * 2) [.int .i64 y.t, .int .i64 y.n] = flatD (ys.set k y) := flatD_set y HK1.out
            rw [e8] at h8
            have h9 := owns_setG [.int .i64 z.t, .int .i64 z.n] (m * 2) h8 (by simp [flatD_len, HYs.out]; omega)
            have e9 : Go.Proofs.Ytdmmjggkdkmeaaa.putL (flatD (ys.set k y)) (m * 2) [.int .i64 z.t, .int .i64 z.n] = flatD ((ys.set k y).set m z) := flatD_set z (by rw [List.length_set]; exact HM1.out)
            rw [e9, dsw_two HZ.out HYm.out] at h9
            exact ownsD_below h9 (low_drew _)
          have HB9 : Hid (w.grownBy ((((w5.setCell ⟨g, k * 2, none⟩ (.int .i64 y.t)).setCell ⟨g, k * 2 + 1, none⟩ (.int .i64 y.n)).setCell ⟨g, m * 2, none⟩ (.int .i64 z.t)).setCell ⟨g, m * 2 + 1, none⟩ (.int .i64 z.n)).drew (some g)) := by
            show World.grownBy w ((w5.setCells g (k * 2) [.int .i64 y.t, .int .i64 y.n]).setCells g (m * 2) [.int .i64 z.t, .int .i64 z.n]).drew _
            exact ((HB5.out.trans (grown_setCs _ _)).trans (grown_setCs _ _)).trans (grown_below (low_drew _))
          generalize ((((w5.setCell ⟨g, k * 2, none⟩ (.int .i64 y.t)).setCell ⟨g, k * 2 + 1, none⟩ (.int .i64 y.n)).setCell ⟨g, m * 2, none⟩ (.int .i64 z.t)).setCell ⟨g, m * 2 + 1, none⟩ (.int .i64 z.n)).drew = w9 at HO9 HB9 ⊢
          clear z0 z1 y0 y1 f0 f1 f2 f3 q1 q2 q3 q4 q5 q6
          go_wp2_with fail
          refine (HP.out _).mono ?_
          rintro e w6 ⟨rfl, rfl⟩
          go_wp2_with fail
          exact ⟨⟨m, dsw ys k m, by rw [dsw_len]; exact HYs.out, by have := HM1.out; have := HYs.out; omega, rfl, HE.out, HO9.out, HB9.out⟩, by simp [intOf]; have := HM.out; omega⟩
end Go.Proofs.Ytdmmjggkdkmeaaa
