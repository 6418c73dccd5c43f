/- Dues that change places in a heap: the program's sink. -/
import Derived.Test.YtdmmjggkdkmeaaaHqC
namespace Go.Proofs.Ytdmmjggkdkmeaaa
open Go.ChangeShapes Go.WideShapes Go.ChangeAt Go.RowKit

set_option maxHeartbeats 4000000 in
set_option maxRecDepth 100000 in
theorem sink_c (B g C : Nat) (l : List Du) (hl : l.length ≤ 1048576) (w : World) (h : w.ownsRow B 30 2 (.slice (some ⟨g, 0, none⟩) l.length C) l.length (flatD l)) :
    Calls Try.prog 49 #[.slice (some ⟨g, 0, none⟩) l.length C, .int .i64 0] w fun e w' => e = .returned (.tuple #[]) ∧ w'.ownsRow B 30 2 (.slice (some ⟨g, 0, none⟩) l.length C) l.length (flatD (ddn l 0)) ∧ w.grownBy w' (some g) := by
  have H : Hid (w.ownsRow B 30 2 (.slice (some ⟨g, 0, none⟩) l.length C) l.length (flatD l)) := h
  clear h
  go_enter Try.func49, Try.ntmps49
  go_wp2_with fail
  refine (firstBelow_c _ _ l hl 0 (by omega) _ (Sq.of_row (owns_row H.out).1)).mono ?_
  rintro e w1 ⟨rfl, hb⟩
  have H1 : Hid (w1.ownsRow B 30 2 (.slice (some ⟨g, 0, none⟩) l.length C) l.length (flatD l)) := ownsD_below H.out hb
  have HB1 : Hid (w.grownBy w1 (some g)) := grown_below hb
  clear hb
  go_wp2_with fail
  go_loopw [1, 4] (fun i nx wr => ∃ (k : Nat) (ys : List Du), ys.length = l.length ∧ (k = 0 ∨ k < l.length) ∧ i = .int .i64 k ∧ nx = .int .i64 (fbl ys k : Nat) ∧ ddn ys k = ddn l 0 ∧ wr.ownsRow B 30 2 (.slice (some ⟨g, 0, none⟩) l.length C) l.length (flatD ys) ∧ w.grownBy wr (some g)) (fun i _ _ => l.length - (intOf i).toNat)
  case atStart => exact ⟨0, l, rfl, .inl rfl, rfl, rfl, rfl, H1.out, HB1.out⟩
  case round =>
    obtain ⟨k, ys, hys, hk, rfl, rfl, hup, ho, hb⟩ := hrel
    have HW : Hid (wr.ownsRow B 30 2 (.slice (some ⟨g, 0, none⟩) l.length C) l.length (flatD ys)) := ho
    have HO : Hid (Row wr g (flatD ys)) := (owns_row ho).1
    have HB3 : Hid (w.grownBy wr (some g)) := hb
    have HUp : Hid (ddn ys k = ddn l 0) := hup
    have HYs : Hid (ys.length = l.length) := hys
    have hF : fbl ys k ≤ 2 * k + 2 := fbl_le ys k
    obtain ⟨m, hm⟩ : ∃ m : Nat, fbl ys k = m := ⟨_, rfl⟩
    have HM : Hid (fbl ys k = m) := hm
    rw [hm] at hF
    rw [hm]
    clear ho hb hup hys hm
    have hsome := beh_some wr
    have hm0 : (0 : Int) ≤ (m : Int) := by omega
    by_cases hml : m < l.length
    · have hk3 : k < l.length := by omega
      have hg0 : decide (m < l.length) = true := by simp; omega
      have hk1 : (0 : Int) ≤ (k : Int) := by omega
      have hk2 : (k : Int) < (l.length : Int) := by omega
      have hm1 : (m : Int) < (l.length : Int) := by omega
      have HK1 : Hid (k < ys.length) := by show _ < _; rw [HYs.out]; exact hk3
      have HM1 : Hid (m < ys.length) := by show _ < _; rw [HYs.out]; exact hml
      have HC : Hid (dch ys k = m) := by show _ = _; rw [fbl_yes (by rw [HM.out]; exact HM1.out), HM.out]
      have hkm : k < m := by have := dch_gt (l := ys) (i := k) (by rw [HC.out]; exact HM1.out); rw [HC.out] at this; exact this
      obtain ⟨z, hz⟩ : ∃ z, dg ys k = z := ⟨_, rfl⟩
      obtain ⟨y, hy⟩ : ∃ y, dg ys m = y := ⟨_, rfl⟩
      have HZ : Hid (dg ys k = z) := hz
      have HYm : Hid (dg ys m = y) := hy
      have e1 : Hid (∀ r u, z.cells[r]? = some u → r < 2 → (flatD ys)[k * 2 + r]? = some u) := fun r u hu hr => by
        rw [flatD_get ys k r HK1.out hr, ← dg_eq HK1.out, hz]; exact hu
      have e2 : Hid (∀ r u, y.cells[r]? = some u → r < 2 → (flatD ys)[m * 2 + r]? = some u) := fun r u hu hr => by
        rw [flatD_get ys m r HM1.out hr, ← dg_eq HM1.out, hy]; exact hu
      have z0 := Beh.row HO.out (k * 2) _ (e1.out 0 _ rfl (by decide))
      have z1 := Beh.row HO.out (k * 2 + 1) _ (e1.out 1 _ rfl (by decide))
      have y0 := Beh.row HO.out (m * 2) _ (e2.out 0 _ rfl (by decide))
      have y1 := Beh.row HO.out (m * 2 + 1) _ (e2.out 1 _ rfl (by decide))
      have HDf : Hid (∀ W : World, Calls Try.prog 38 #[.agg #[.int .i64 y.t, .int .i64 y.n], .agg #[.int .i64 z.t, .int .i64 z.n]] W fun e w' => e = .returned (.bool (duL y z)) ∧ Below W.heap.size W w') := fun W => aheadOf_c y z W
      have hmt := ahead_method y
      clear hz hy
      cases hq : duL y z
      · have HE : Hid (ys = ddn l 0) := by
          show _ = _
          rw [← HUp.out, ddn, dif_neg (fun t => by have := t.2; rw [HC.out, HZ.out, HYm.out, hq] at this; cases this)]
        rw [hq] at HDf
        clear hq HUp HZ HYm HM HK1 HM1 HC
        go_wp2_with fail
        refine wp_region_beh (by kernel_rfl) (by kernel_rfl) ?_
        repeat (go_big_quiet_step (first | (go_at_call 38; with_reducible exact calls_beh (HDf.out _))))
        refine wpQuiet_nil ?_
        rintro ⟨w5, hb5⟩
        have HB5 : Hid (w.grownBy w5 (some g)) := HB3.out.trans (grown_below hb5)
        have HO5 : Hid (w5.ownsRow B 30 2 (.slice (some ⟨g, 0, none⟩) l.length C) l.length (flatD (ddn l 0))) := by
          show World.ownsRow _ _ _ _ _ _ _
          rw [← HE.out]
          exact ownsD_below HW.out hb5
        go_wp2_with fail
        go_returns
        exact ⟨rfl, HO5.out, HB5.out⟩
      · have HE : Hid (ddn (dsw ys k m) m = ddn l 0) := by
          show _ = _
          rw [← HUp.out]
          rw [ddn.eq_1 ys, dif_pos ⟨by rw [HC.out]; exact HM1.out, by rw [HC.out, HZ.out, HYm.out]; exact hq⟩, HC.out]
        rw [hq] at HDf
        clear hq HUp HC
        go_wp2_with fail
        refine wp_region_beh (by kernel_rfl) (by kernel_rfl) ?_
        repeat (go_big_quiet_step (first | (go_at_call 38; with_reducible exact calls_beh (HDf.out _))))
        refine wpQuiet_nil ?_
        rintro ⟨w5, hb5⟩
        have HB5 : Hid (w.grownBy w5 (some g)) := HB3.out.trans (grown_below hb5)
        have HO5 : Hid (Row w5 g (flatD ys)) := HO.out.below hb5
        have HW5 : Hid (w5.ownsRow B 30 2 (.slice (some ⟨g, 0, none⟩) l.length C) l.length (flatD ys)) := ownsD_below HW.out hb5
        clear z0 z1 y0 y1 hsome HDf hmt
        have z0 := HO5.out.cell (k * 2) _ (e1.out 0 _ rfl (by decide))
        have z1 := HO5.out.cell (k * 2 + 1) _ (e1.out 1 _ rfl (by decide))
        have y0 := HO5.out.cell (m * 2) _ (e2.out 0 _ rfl (by decide))
        have y1 := HO5.out.cell (m * 2 + 1) _ (e2.out 1 _ rfl (by decide))
        have f0 := HO5.out.free (k * 2)
        have f1 := HO5.out.free (k * 2 + 1)
        have f2 := HO5.out.free (m * 2)
        have f3 := HO5.out.free (m * 2 + 1)
        have q1 : ¬ k = m := by omega
        have q2 : ¬ m = k := by omega
        have q3 : ¬ k * 2 = m * 2 + 1 := by omega
        have q4 : ¬ m * 2 + 1 = k * 2 := by omega
        have q5 : ¬ k * 2 + 1 = m * 2 := by omega
        have q6 : ¬ m * 2 = k * 2 + 1 := by omega
        have HKm : Hid (k < m) := hkm
        clear hkm hF
        go_wp2_with fail
        go_region
        all_goals
          have HO9 : Hid (((((w5.setCell ⟨g, k * 2, none⟩ (.int .i64 y.t)).setCell ⟨g, k * 2 + 1, none⟩ (.int .i64 y.n)).setCell ⟨g, m * 2, none⟩ (.int .i64 z.t)).setCell ⟨g, m * 2 + 1, none⟩ (.int .i64 z.n)).drew.ownsRow B 30 2 (.slice (some ⟨g, 0, none⟩) l.length C) l.length (flatD (dsw ys k m))) := by
            show World.ownsRow ((w5.setCells g (k * 2) [.int .i64 y.t, .int .i64 y.n]).setCells g (m * 2) [.int .i64 z.t, .int .i64 z.n]).drew _ _ _ _ _ _
            have h8 := owns_setG [.int .i64 y.t, .int .i64 y.n] (k * 2) HW5.out (by simp [flatD_len, HYs.out]; omega)
            have e8 : Go.Proofs.Ytdmmjggkdkmeaaa.putL (flatD ys) (k * 2) [.int .i64 y.t, .int .i64 y.n] = flatD (ys.set k y) := flatD_set y HK1.out
            rw [e8] at h8
            have h9 := owns_setG [.int .i64 z.t, .int .i64 z.n] (m * 2) h8 (by simp [flatD_len, HYs.out]; omega)
            have e9 : Go.Proofs.Ytdmmjggkdkmeaaa.putL (flatD (ys.set k y)) (m * 2) [.int .i64 z.t, .int .i64 z.n] = flatD ((ys.set k y).set m z) := flatD_set z (by rw [List.length_set]; exact HM1.out)
            rw [e9, dsw_two HZ.out HYm.out] at h9
            exact ownsD_below h9 (low_drew _)
          have HB9 : Hid (w.grownBy ((((w5.setCell ⟨g, k * 2, none⟩ (.int .i64 y.t)).setCell ⟨g, k * 2 + 1, none⟩ (.int .i64 y.n)).setCell ⟨g, m * 2, none⟩ (.int .i64 z.t)).setCell ⟨g, m * 2 + 1, none⟩ (.int .i64 z.n)).drew (some g)) := by
            show World.grownBy w ((w5.setCells g (k * 2) [.int .i64 y.t, .int .i64 y.n]).setCells g (m * 2) [.int .i64 z.t, .int .i64 z.n]).drew _
            exact ((HB5.out.trans (grown_setCs _ _)).trans (grown_setCs _ _)).trans (grown_below (low_drew _))
          generalize ((((w5.setCell ⟨g, k * 2, none⟩ (.int .i64 y.t)).setCell ⟨g, k * 2 + 1, none⟩ (.int .i64 y.n)).setCell ⟨g, m * 2, none⟩ (.int .i64 z.t)).setCell ⟨g, m * 2 + 1, none⟩ (.int .i64 z.n)).drew = w9 at HO9 HB9 ⊢
          clear z0 z1 y0 y1 f0 f1 f2 f3 q1 q2 q3 q4 q5 q6
          obtain ⟨xs, hxs⟩ : ∃ xs, dsw ys k m = xs := ⟨_, rfl⟩
          have hxl : xs.length = l.length := by rw [← hxs, dsw_len]; exact HYs.out
          rw [hxs] at HE HO9
          have HX : Hid (xs.length = l.length) := hxl
          have hc := firstBelow_c (some ⟨g, 0, none⟩) C xs (by omega) m (by omega) w9 (Sq.of_row (owns_row HO9.out).1)
          rw [hxl] at hc
          have HCc : Hid (Calls Try.prog 53 #[.slice (some ⟨g, 0, none⟩) l.length C, .int .i64 m] w9 fun e w' => e = .returned (.int .i64 ((fbl xs m : Nat) : Int)) ∧ Below w9.heap.size w9 w') := hc
          clear hxs hxl hc
          go_wp2_with fail
          refine HCc.out.mono ?_
          rintro e wa ⟨rfl, hb⟩
          have HOa : Hid (wa.ownsRow B 30 2 (.slice (some ⟨g, 0, none⟩) l.length C) l.length (flatD xs)) := ownsD_below HO9.out hb
          have HBa : Hid (w.grownBy wa (some g)) := HB9.out.trans (grown_below hb)
          clear hb HO9 HB9 HCc
          go_wp2_with fail
          exact ⟨⟨m, xs, HX.out, .inr hml, rfl, rfl, HE.out, HOa.out, HBa.out⟩, by simp [intOf]; have := HKm.out; omega⟩
    · have hg0 : decide (m < l.length) = false := by simp; omega
      have HE : Hid (ys = ddn l 0) := by
        show _ = _
        rw [← HUp.out, ddn, dif_neg (fun t => fbl_no (by rw [HM.out, HYs.out]; exact hml) t.1)]
      clear HUp HM
      go_wp2_with fail
      refine wp_region_beh (by kernel_rfl) (by kernel_rfl) ?_
      repeat (go_big_quiet_step (fail))
      refine wpQuiet_nil ?_
      rintro ⟨w5, hb5⟩
      have HB5 : Hid (w.grownBy w5 (some g)) := HB3.out.trans (grown_below hb5)
      have HO5 : Hid (w5.ownsRow B 30 2 (.slice (some ⟨g, 0, none⟩) l.length C) l.length (flatD (ddn l 0))) := by
        show World.ownsRow _ _ _ _ _ _ _
        rw [← HE.out]
        exact ownsD_below HW.out hb5
      go_wp2_with fail
      go_returns
      exact ⟨rfl, HO5.out, HB5.out⟩
end Go.Proofs.Ytdmmjggkdkmeaaa
