/- FnExactJournalAdd: the walk. -/
import Derived.Test.YtpdmhpcejmankaaDoorJoT
import Derived.Test.YtpdmhpcejmankaaDoorBehA
import Derived.Deep.RegionHeld3
namespace Go.Proofs.YtpdmhpcejmankaaDoor
open Go.ChangeShapes Go.WideShapes Go.ChangeAt Go.RowKit

namespace LawJournalAdd
theorem ad_le {l : List UInt8} {s k : Int} {t : List UInt8} (h : (adC l s k t == 0) = true) : (l ++ recL k t).length ≤ 1048576 := by
  have h0 : adC l s k t = 0 := by simpa using h
  unfold adC at h0
  cases hb : (jokB l s k && recB t)
  · rw [hb] at h0; cases h0
  · rw [hb] at h0
    by_cases hf : l.length + (recL k t).length ≤ 40000
    · rw [List.length_append]; omega
    · rw [decide_eq_false hf] at h0; cases h0

set_option maxHeartbeats 8000000 in
set_option maxRecDepth 100000 in
theorem walk (a : Option Addr) (cap : Nat) (l : List UInt8) (s k : Int) (z : ByteArray) (hn : l.length ≤ maxLen) (hzn : z.size ≤ maxLen) (w : World) (h : ByA w a l) (he : EnvJ w) :
    Calls Tryd.prog 7 #[.agg #[.slice a l.length cap, .int .i64 s, .int .i64 k], .string z] w fun e w' => e = .returned (.bool true) ∧ Below w.heap.size w w' := by
  have H : Hid (ByA w a l) := h
  have HE : Hid (EnvJ w) := he
  clear h he
  unfold maxLen at hzn
  by_cases hzl : 1048576 < z.size
  · have HV0 := lbox w a l.length cap s k
    have HB : Hid (Below w.heap.size w (w.alloc (.cells #[.slice a l.length cap, .int .i64 s, .int .i64 k] 42))) := HV0.2
    clear HV0
    have hzi : (1048576 : Int) < (z.size : Int) := by omega
    clear hzl
    go_enter Tryd.func7, Tryd.ntmps7
    go_wp2_with fail
    go_ret
    exact ⟨rfl, HB.out⟩
  · have hzi : ¬ ((1048576 : Int) < (z.size : Int)) := by omega
    have hzt : z.data.toList.length ≤ 1048576 := by simp; omega
    have hze : (⟨z.data.toList.toArray⟩ : ByteArray) = z := by cases z; simp
    by_cases hl : 1048576 < l.length
    · have HV0 := lbox w a l.length cap s k
      have HB : Hid (Below w.heap.size w (w.alloc (.cells #[.slice a l.length cap, .int .i64 s, .int .i64 k] 42))) := HV0.2
      clear HV0
      have HZ : Hid (∀ W, Calls Tryd.prog 25 #[.agg #[.slice a l.length cap, .int .i64 s, .int .i64 k], .int .i64 1048576] W fun e w' => e = .returned (.int .i64 (-1)) ∧ Below W.heap.size W w') := fun W => szJournal_big a l.length cap s k hn hl W
      go_enter Tryd.func7, Tryd.ntmps7
      go_wp2_with fail
      refine (HZ.out _).mono ?_
      rintro e w1 ⟨rfl, hb⟩
      replace HB : Hid (Below w.heap.size w w1) := below_then HB.out hb
      clear hb
      go_wp2_with fail
      go_ret
      exact ⟨rfl, HB.out⟩
    · have hl' : l.length ≤ 1048576 := by omega
      have HZ : Hid (∀ W, Calls Tryd.prog 25 #[.agg #[.slice a l.length cap, .int .i64 s, .int .i64 k], .int .i64 1048576] W fun e w' => e = .returned (.int .i64 (1048576 - (l.length : Int))) ∧ Below W.heap.size W w') := fun W => szJournal_small a l.length cap s k hl' W
      have hneg : ¬ (1048576 - (l.length : Int) < 0) := by omega
      have HVA := (lbox w a l.length cap s k).1
      have HVB := (lbox w a l.length cap s k).2
      have hrl : (adL l s k z.data.toList).length ≤ 1048576 := by unfold adL; cases hc : (adC l s k z.data.toList == 0); exact Nat.zero_le _; exact ad_le hc
      have HI : Hid (∀ (W : World) (g : Nat), Row W g (bys l) → EnvJ W → Calls Tryd.prog 11 #[.agg #[.slice (some ⟨g, 0, none⟩) l.length l.length, .int .i64 s, .int .i64 k], .string z] W fun e w' => ∃ v, e = .returned (.tuple #[.agg #[v, .int .i64 (adS l s k z.data.toList), .int .i64 (adK l s k z.data.toList)], .int .i64 (adC l s k z.data.toList)]) ∧ Ans W.heap.size w'.heap.size w' (bys (adL l s k z.data.toList)) v ∧ Below W.heap.size W w') := fun W g h1 h2 => by
        have := implJournalAdd_c W g l s k z.data.toList h1 h2 hl' hzt
        rw [hze] at this
        exact this
      have HS : Hid (∀ (W : World) (g : Nat), Row W g (bys l) → Calls Tryd.prog 12 #[.agg #[.slice (some ⟨g, 0, none⟩) l.length l.length, .int .i64 s, .int .i64 k], .string z] W fun e w' => ∃ v, e = .returned (.tuple #[.agg #[v, .int .i64 (adS l s k z.data.toList), .int .i64 (adK l s k z.data.toList)], .int .i64 (adC l s k z.data.toList)]) ∧ Ans W.heap.size w'.heap.size w' (bys (adL l s k z.data.toList)) v ∧ Below W.heap.size W w') := fun W g h1 => by
        have := specJournalAdd_c W g l s k z.data.toList h1 hl' hzt
        rw [hze] at this
        exact this
      generalize (adC l s k z.data.toList) = ca at HI HS
      generalize (adS l s k z.data.toList) = sa at HI HS
      generalize (adK l s k z.data.toList) = ka at HI HS
      generalize (adL l s k z.data.toList) = r at hrl HI HS
      clear hzt hze hzl
      go_enter Tryd.func7, Tryd.ntmps7
      go_wp2_with fail
      generalize w.alloc (.cells #[.slice a l.length cap, .int .i64 s, .int .i64 k] 42) = V at HVA HVB
      have hwV : w.heap.size ≤ V.heap.size := HVB.size
      have HB : Hid (Below w.heap.size w V) := HVB
      have HA : Hid (Row V w.heap.size [.slice a l.length cap, .int .i64 s, .int .i64 k]) := HVA
      clear HVA HVB hl
      refine (HZ.out _).mono ?_
      rintro e w1 ⟨rfl, hb⟩
      replace HB : Hid (Below w.heap.size w w1) := below_then HB.out hb
      replace HA : Hid (Row w1 w.heap.size [.slice a l.length cap, .int .i64 s, .int .i64 k]) := HA.out.below hb
      clear hb HZ
      have HAc0 := HA.out.cell 0 _ rfl
      have HAc1 := HA.out.cell 1 _ rfl
      have HAc2 := HA.out.cell 2 _ rfl
      have HAn : w.heap.size ≠ w1.heap.size := Nat.ne_of_lt HA.out.lt
      have HAl : w.heap.size < w1.heap.size := HA.out.lt
      go_wp2_with fail
      clear HAc0 HAc1 HAc2 HAn HAl
      refine (toJournal_c a cap l s k hl' _ (H.out.below HB.out)).mono ?_
      rintro e w2 ⟨g3, rfl, hg, hr, hb⟩
      have hwg3 : w.heap.size < g3 := Nat.lt_of_lt_of_le HA.out.lt hg
      replace HB : Hid (Below w.heap.size w w2) := below_then HB.out hb
      replace HA : Hid (Row w2 w.heap.size [.slice a l.length cap, .int .i64 s, .int .i64 k]) := HA.out.below hb
      have hlg3 : w1.heap.size ≤ g3 := hg
      have HG : Hid (Row w2 g3 (bys l)) := hr
      have hug3 : g3 < w2.heap.size := hr.lt
      clear hg hr hb
      have HAc0 := HA.out.cell 0 _ rfl
      have HAc1 := HA.out.cell 1 _ rfl
      have HAc2 := HA.out.cell 2 _ rfl
      have HAn : w.heap.size ≠ w2.heap.size := Nat.ne_of_lt HA.out.lt
      have HAl : w.heap.size < w2.heap.size := HA.out.lt
      go_wp2_with fail
      clear HAc0 HAc1 HAc2 HAn HAl
      refine (HS.out w2 g3 HG.out).mono ?_
      rintro e w4 ⟨v, rfl, ha, hb⟩
      obtain ⟨b5, c6, rfl⟩ := ha.form
      rw [bys_len] at ha ⊢
      have hvHA0 : w.heap.size < w2.heap.size := HA.out.lt
      replace HB : Hid (Below w.heap.size w w4) := below_then HB.out hb
      replace HA : Hid (Row w4 w.heap.size [.slice a l.length cap, .int .i64 s, .int .i64 k]) := HA.out.below hb
      replace HG : Hid (Row w4 g3 (bys l)) := HG.out.below hb
      have hzHA0 : w2.heap.size ≤ w4.heap.size := hb.size
      have HA0 : Hid (Ans w2.heap.size w4.heap.size w4 (bys r) (.slice b5 r.length c6)) := ha
      clear ha hb
      have HAc0 := HA.out.cell 0 _ rfl
      have HAc1 := HA.out.cell 1 _ rfl
      have HAc2 := HA.out.cell 2 _ rfl
      have HAn : w.heap.size ≠ w4.heap.size := Nat.ne_of_lt HA.out.lt
      have HAl : w.heap.size < w4.heap.size := HA.out.lt
      go_wp2_with fail
      clear HAc0 HAc1 HAc2 HAn HAl
      clear HG
      clear HS
      have hbx : Row (w4.alloc (.cells #[.slice b5 r.length c6, .int .i64 sa, .int .i64 ka] 24)) w4.heap.size [.slice b5 r.length c6, .int .i64 sa, .int .i64 ka] ∧ Below w4.heap.size w4 (w4.alloc (.cells #[.slice b5 r.length c6, .int .i64 sa, .int .i64 ka] 24)) := ⟨row_fresh w4 [.slice b5 r.length c6, .int .i64 sa, .int .i64 ka] 24, (Below.refl _ _).alloc (Nat.le_refl _) _⟩
      generalize hgw : w4.alloc (.cells #[.slice b5 r.length c6, .int .i64 sa, .int .i64 ka] 24) = w7 at hbx
      clear hgw
      have hsxy0 : w4.heap.size < w7.heap.size := hbx.1.lt
      replace HB : Hid (Below w.heap.size w w7) := below_then HB.out hbx.2
      replace HA : Hid (Row w7 w.heap.size [.slice a l.length cap, .int .i64 s, .int .i64 k]) := HA.out.below hbx.2
      replace HA0 : Hid (Ans w2.heap.size w4.heap.size w7 (bys r) (.slice b5 r.length c6)) := HA0.out.below hbx.2
      generalize hgx : w4.heap.size = y0 at *
      clear hgx
      have HY0 : Hid (Row w7 y0 [.slice b5 r.length c6, .int .i64 sa, .int .i64 ka]) := hbx.1
      clear hbx
      refine (toJournal_c a cap l s k hl' _ (H.out.below HB.out)).mono ?_
      rintro e w8 ⟨g9, rfl, hg, hr, hb⟩
      have hwg9 : w.heap.size < g9 := Nat.lt_of_lt_of_le HA.out.lt hg
      replace HB : Hid (Below w.heap.size w w8) := below_then HB.out hb
      replace HA : Hid (Row w8 w.heap.size [.slice a l.length cap, .int .i64 s, .int .i64 k]) := HA.out.below hb
      replace HA0 : Hid (Ans w2.heap.size y0 w8 (bys r) (.slice b5 r.length c6)) := HA0.out.below hb
      replace HY0 : Hid (Row w8 y0 [.slice b5 r.length c6, .int .i64 sa, .int .i64 ka]) := HY0.out.below hb
      have hlg9 : w7.heap.size ≤ g9 := hg
      have HG : Hid (Row w8 g9 (bys l)) := hr
      have hug9 : g9 < w8.heap.size := hr.lt
      clear hg hr hb
      have HAc0 := HA.out.cell 0 _ rfl
      have HAc1 := HA.out.cell 1 _ rfl
      have HAc2 := HA.out.cell 2 _ rfl
      have HAn : w.heap.size ≠ w8.heap.size := Nat.ne_of_lt HA.out.lt
      have HAl : w.heap.size < w8.heap.size := HA.out.lt
      have HY0c0 := HY0.out.cell 0 _ rfl
      have HY0c1 := HY0.out.cell 1 _ rfl
      have HY0c2 := HY0.out.cell 2 _ rfl
      have HY0n : y0 ≠ w8.heap.size := Nat.ne_of_lt HY0.out.lt
      have HY0l : y0 < w8.heap.size := HY0.out.lt
      go_wp2_with fail
      clear HAc0 HAc1 HAc2 HAn HAl HY0c0 HY0c1 HY0c2 HY0n HY0l
      have hbx : Row (w8.alloc (.cells #[.slice (some ⟨g9, 0, none⟩) l.length l.length, .int .i64 s, .int .i64 k] 24)) w8.heap.size [.slice (some ⟨g9, 0, none⟩) l.length l.length, .int .i64 s, .int .i64 k] ∧ Below w8.heap.size w8 (w8.alloc (.cells #[.slice (some ⟨g9, 0, none⟩) l.length l.length, .int .i64 s, .int .i64 k] 24)) := ⟨row_fresh w8 [.slice (some ⟨g9, 0, none⟩) l.length l.length, .int .i64 s, .int .i64 k] 24, (Below.refl _ _).alloc (Nat.le_refl _) _⟩
      generalize hgw : w8.alloc (.cells #[.slice (some ⟨g9, 0, none⟩) l.length l.length, .int .i64 s, .int .i64 k] 24) = w10 at hbx
      clear hgw
      have hsxx : w8.heap.size < w10.heap.size := hbx.1.lt
      replace HB : Hid (Below w.heap.size w w10) := below_then HB.out hbx.2
      replace HA : Hid (Row w10 w.heap.size [.slice a l.length cap, .int .i64 s, .int .i64 k]) := HA.out.below hbx.2
      replace HA0 : Hid (Ans w2.heap.size y0 w10 (bys r) (.slice b5 r.length c6)) := HA0.out.below hbx.2
      replace HY0 : Hid (Row w10 y0 [.slice b5 r.length c6, .int .i64 sa, .int .i64 ka]) := HY0.out.below hbx.2
      replace HG : Hid (Row w10 g9 (bys l)) := HG.out.below hbx.2
      generalize hgx : w8.heap.size = x at *
      clear hgx
      have HX : Hid (Row w10 x [.slice (some ⟨g9, 0, none⟩) l.length l.length, .int .i64 s, .int .i64 k]) := hbx.1
      clear hbx
      refine (HI.out w10 g9 HG.out (HE.out.on HB.out)).mono ?_
      rintro e w11 ⟨v, rfl, ha, hb⟩
      obtain ⟨b12, c13, rfl⟩ := ha.form
      rw [bys_len] at ha ⊢
      have hvHA1 : w.heap.size < w10.heap.size := HA.out.lt
      replace HB : Hid (Below w.heap.size w w11) := below_then HB.out hb
      replace HA : Hid (Row w11 w.heap.size [.slice a l.length cap, .int .i64 s, .int .i64 k]) := HA.out.below hb
      replace HA0 : Hid (Ans w2.heap.size y0 w11 (bys r) (.slice b5 r.length c6)) := HA0.out.below hb
      replace HY0 : Hid (Row w11 y0 [.slice b5 r.length c6, .int .i64 sa, .int .i64 ka]) := HY0.out.below hb
      replace HG : Hid (Row w11 g9 (bys l)) := HG.out.below hb
      replace HX : Hid (Row w11 x [.slice (some ⟨g9, 0, none⟩) l.length l.length, .int .i64 s, .int .i64 k]) := HX.out.below hb
      have hzHA1 : w10.heap.size ≤ w11.heap.size := hb.size
      have HA1 : Hid (Ans w10.heap.size w11.heap.size w11 (bys r) (.slice b12 r.length c13)) := ha
      clear ha hb
      have HAc0 := HA.out.cell 0 _ rfl
      have HAc1 := HA.out.cell 1 _ rfl
      have HAc2 := HA.out.cell 2 _ rfl
      have HAn : w.heap.size ≠ w11.heap.size := Nat.ne_of_lt HA.out.lt
      have HAl : w.heap.size < w11.heap.size := HA.out.lt
      have HXc0 := HX.out.cell 0 _ rfl
      have HXc1 := HX.out.cell 1 _ rfl
      have HXc2 := HX.out.cell 2 _ rfl
      have HXn : x ≠ w11.heap.size := Nat.ne_of_lt HX.out.lt
      have HXl : x < w11.heap.size := HX.out.lt
      have HY0c0 := HY0.out.cell 0 _ rfl
      have HY0c1 := HY0.out.cell 1 _ rfl
      have HY0c2 := HY0.out.cell 2 _ rfl
      have HY0n : y0 ≠ w11.heap.size := Nat.ne_of_lt HY0.out.lt
      have HY0l : y0 < w11.heap.size := HY0.out.lt
      go_wp2_with fail
      clear HAc0 HAc1 HAc2 HAn HAl HXc0 HXc1 HXc2 HXn HXl HY0c0 HY0c1 HY0c2 HY0n HY0l
      have hbx : Row (w11.alloc (.cells #[.slice b12 r.length c13, .int .i64 sa, .int .i64 ka] 24)) w11.heap.size [.slice b12 r.length c13, .int .i64 sa, .int .i64 ka] ∧ Below w11.heap.size w11 (w11.alloc (.cells #[.slice b12 r.length c13, .int .i64 sa, .int .i64 ka] 24)) := ⟨row_fresh w11 [.slice b12 r.length c13, .int .i64 sa, .int .i64 ka] 24, (Below.refl _ _).alloc (Nat.le_refl _) _⟩
      generalize hgw : w11.alloc (.cells #[.slice b12 r.length c13, .int .i64 sa, .int .i64 ka] 24) = w14 at hbx
      clear hgw
      have hsxy1 : w11.heap.size < w14.heap.size := hbx.1.lt
      replace HB : Hid (Below w.heap.size w w14) := below_then HB.out hbx.2
      replace HA : Hid (Row w14 w.heap.size [.slice a l.length cap, .int .i64 s, .int .i64 k]) := HA.out.below hbx.2
      replace HA0 : Hid (Ans w2.heap.size y0 w14 (bys r) (.slice b5 r.length c6)) := HA0.out.below hbx.2
      replace HY0 : Hid (Row w14 y0 [.slice b5 r.length c6, .int .i64 sa, .int .i64 ka]) := HY0.out.below hbx.2
      replace HG : Hid (Row w14 g9 (bys l)) := HG.out.below hbx.2
      replace HX : Hid (Row w14 x [.slice (some ⟨g9, 0, none⟩) l.length l.length, .int .i64 s, .int .i64 k]) := HX.out.below hbx.2
      replace HA1 : Hid (Ans w10.heap.size w11.heap.size w14 (bys r) (.slice b12 r.length c13)) := HA1.out.below hbx.2
      generalize hgx : w11.heap.size = y1 at *
      clear hgx
      have HY1 : Hid (Row w14 y1 [.slice b12 r.length c13, .int .i64 sa, .int .i64 ka]) := hbx.1
      clear hbx
      refine (eqJournal_c _ _ _ _ r sa ka hrl _ (ByA.of_ans HA1.out).2 (ByA.of_ans HA0.out).2).mono ?_
      rintro e w15 ⟨rfl, hb⟩
      replace HB : Hid (Below w.heap.size w w15) := below_then HB.out hb
      replace HA : Hid (Row w15 w.heap.size [.slice a l.length cap, .int .i64 s, .int .i64 k]) := HA.out.below hb
      replace HA0 : Hid (Ans w2.heap.size y0 w15 (bys r) (.slice b5 r.length c6)) := HA0.out.below hb
      replace HY0 : Hid (Row w15 y0 [.slice b5 r.length c6, .int .i64 sa, .int .i64 ka]) := HY0.out.below hb
      replace HG : Hid (Row w15 g9 (bys l)) := HG.out.below hb
      replace HX : Hid (Row w15 x [.slice (some ⟨g9, 0, none⟩) l.length l.length, .int .i64 s, .int .i64 k]) := HX.out.below hb
      replace HA1 : Hid (Ans w10.heap.size y1 w15 (bys r) (.slice b12 r.length c13)) := HA1.out.below hb
      replace HY1 : Hid (Row w15 y1 [.slice b12 r.length c13, .int .i64 sa, .int .i64 ka]) := HY1.out.below hb
      clear hb
      have HAc0 := HA.out.cell 0 _ rfl
      have HAc1 := HA.out.cell 1 _ rfl
      have HAc2 := HA.out.cell 2 _ rfl
      have HAn : w.heap.size ≠ w15.heap.size := Nat.ne_of_lt HA.out.lt
      have HAl : w.heap.size < w15.heap.size := HA.out.lt
      have HXc0 := HX.out.cell 0 _ rfl
      have HXc1 := HX.out.cell 1 _ rfl
      have HXc2 := HX.out.cell 2 _ rfl
      have HXn : x ≠ w15.heap.size := Nat.ne_of_lt HX.out.lt
      have HXl : x < w15.heap.size := HX.out.lt
      have HY0c0 := HY0.out.cell 0 _ rfl
      have HY0c1 := HY0.out.cell 1 _ rfl
      have HY0c2 := HY0.out.cell 2 _ rfl
      have HY0n : y0 ≠ w15.heap.size := Nat.ne_of_lt HY0.out.lt
      have HY0l : y0 < w15.heap.size := HY0.out.lt
      have HY1c0 := HY1.out.cell 0 _ rfl
      have HY1c1 := HY1.out.cell 1 _ rfl
      have HY1c2 := HY1.out.cell 2 _ rfl
      have HY1n : y1 ≠ w15.heap.size := Nat.ne_of_lt HY1.out.lt
      have HY1l : y1 < w15.heap.size := HY1.out.lt
      go_wp2_with fail
      clear HAc0 HAc1 HAc2 HAn HAl HXc0 HXc1 HXc2 HXn HXl HY0c0 HY0c1 HY0c2 HY0n HY0l HY1c0 HY1c1 HY1c2 HY1n HY1l
      have HK : Hid (∀ W, Below w15.heap.size w15 W → Below w15.heap.size w15 W ∧ W.cell? ⟨w.heap.size, 0, none⟩ = some (.slice a l.length cap) ∧ W.cell? ⟨w.heap.size, 1, none⟩ = some (.int .i64 s) ∧ W.cell? ⟨w.heap.size, 2, none⟩ = some (.int .i64 k) ∧ W.cell? ⟨x, 0, none⟩ = some (.slice (some ⟨g9, 0, none⟩) l.length l.length) ∧ W.cell? ⟨x, 1, none⟩ = some (.int .i64 s) ∧ W.cell? ⟨x, 2, none⟩ = some (.int .i64 k)) := fun W hW => ⟨hW, (HA.out.below hW).cell 0 _ rfl, (HA.out.below hW).cell 1 _ rfl, (HA.out.below hW).cell 2 _ rfl, (HX.out.below hW).cell 0 _ rfl, (HX.out.below hW).cell 1 _ rfl, (HX.out.below hW).cell 2 _ rfl⟩
      have HBy : Hid (∀ W, Below w15.heap.size w15 W → ByA W a l) := fun W hW => (H.out.below HB.out).below hW
      have HBg : Hid (∀ W, Below w15.heap.size w15 W → ByA W (some ⟨g9, 0, none⟩) l) := fun W hW => ByA.of_row (HG.out.below hW)
      go_region_held3 (fun W => Below w15.heap.size w15 W ∧ W.cell? ⟨w.heap.size, 0, none⟩ = some (.slice a l.length cap) ∧ W.cell? ⟨w.heap.size, 1, none⟩ = some (.int .i64 s) ∧ W.cell? ⟨w.heap.size, 2, none⟩ = some (.int .i64 k) ∧ W.cell? ⟨x, 0, none⟩ = some (.slice (some ⟨g9, 0, none⟩) l.length l.length) ∧ W.cell? ⟨x, 1, none⟩ = some (.int .i64 s) ∧ W.cell? ⟨x, 2, none⟩ = some (.int .i64 k))
        ((go_split_ands; refine HK.out _ ?_; first | (with_reducible assumption) | (exact Hid.out (by with_reducible assumption)) | (exact behind (by with_reducible assumption) (And.left (by with_reducible assumption))) | (exact behind (by with_reducible assumption) (by with_reducible assumption)) | (go_grown; done)))
        (first
        | (go_at_call 27; refine (toJournal_c a cap l s k hl' _ (HBy.out _ (And.left (by with_reducible assumption)))).mono ?_; rintro e wk ⟨g8, rfl, _, hr8, hb8⟩; have Bk : Hid (Below w15.heap.size w15 wk) := behind hb8 (And.left (by with_reducible assumption)); have HY9 : Hid (Row wk g8 (bys l)) := hr8; clear hb8 hr8)
        | (go_at_call 28; refine (eqJournal_c _ _ _ _ l s k hl' _ (HBg.out _ (by first | exact (And.left (by with_reducible assumption)) | exact Bk.out)) (ByA.of_row HY9.out)).mono ?_; rintro e wm ⟨rfl, hb9⟩; have Bm : Hid (Below w15.heap.size w15 wm) := behind hb9 (by first | exact (And.left (by with_reducible assumption)) | exact Bk.out); clear hb9))
      go_split_ands
      replace HB : Hid (Below w.heap.size w wm) := below_then HB.out Bm.out
      replace HA : Hid (Row wm w.heap.size [.slice a l.length cap, .int .i64 s, .int .i64 k]) := HA.out.below Bm.out
      replace HA0 : Hid (Ans w2.heap.size y0 wm (bys r) (.slice b5 r.length c6)) := HA0.out.below Bm.out
      replace HY0 : Hid (Row wm y0 [.slice b5 r.length c6, .int .i64 sa, .int .i64 ka]) := HY0.out.below Bm.out
      replace HG : Hid (Row wm g9 (bys l)) := HG.out.below Bm.out
      replace HX : Hid (Row wm x [.slice (some ⟨g9, 0, none⟩) l.length l.length, .int .i64 s, .int .i64 k]) := HX.out.below Bm.out
      replace HA1 : Hid (Ans w10.heap.size y1 wm (bys r) (.slice b12 r.length c13)) := HA1.out.below Bm.out
      replace HY1 : Hid (Row wm y1 [.slice b12 r.length c13, .int .i64 sa, .int .i64 ka]) := HY1.out.below Bm.out
      clear HK HBy HBg Bm
      have HM : Hid (Ans g9 (g9 + 1) wm (bys l) (.slice (some ⟨g9, 0, none⟩) (bys l).length l.length)) := ⟨_, l.length, rfl, .inr ⟨g9, rfl, Nat.le_refl _, Nat.lt_succ_self _, HG.out⟩⟩
      rw [bys_len l] at HM
      have HAc0 := HA.out.cell 0 _ rfl
      have HAc1 := HA.out.cell 1 _ rfl
      have HAc2 := HA.out.cell 2 _ rfl
      have HAn : w.heap.size ≠ wm.heap.size := Nat.ne_of_lt HA.out.lt
      have HAl : w.heap.size < wm.heap.size := HA.out.lt
      have HXc0 := HX.out.cell 0 _ rfl
      have HXc1 := HX.out.cell 1 _ rfl
      have HXc2 := HX.out.cell 2 _ rfl
      have HXn : x ≠ wm.heap.size := Nat.ne_of_lt HX.out.lt
      have HXl : x < wm.heap.size := HX.out.lt
      have HY0c0 := HY0.out.cell 0 _ rfl
      have HY0c1 := HY0.out.cell 1 _ rfl
      have HY0c2 := HY0.out.cell 2 _ rfl
      have HY0n : y0 ≠ wm.heap.size := Nat.ne_of_lt HY0.out.lt
      have HY0l : y0 < wm.heap.size := HY0.out.lt
      have HY1c0 := HY1.out.cell 0 _ rfl
      have HY1c1 := HY1.out.cell 1 _ rfl
      have HY1c2 := HY1.out.cell 2 _ rfl
      have HY1n : y1 ≠ wm.heap.size := Nat.ne_of_lt HY1.out.lt
      have HY1l : y1 < wm.heap.size := HY1.out.lt
      go_wp2_with fail
      clear HAc0 HAc1 HAc2 HAn HAl HXc0 HXc1 HXc2 HXn HXl HY0c0 HY0c1 HY0c2 HY0n HY0l HY1c0 HY1c1 HY1c2 HY1n HY1l
      have HMK := markJournal_c s k HM.out (by rw [bys_len]; exact hl')
      rw [bys_len l] at HMK
      refine HMK.mono ?_
      clear HMK
      rintro e w16 ⟨rfl, _, hk, hbw⟩
      clear HG
      clear HX
      clear HM
      replace HB : Hid (Below w.heap.size w w16) := hbw w HB.out (by omega)
      replace HA : Hid (Row w16 w.heap.size [.slice a l.length cap, .int .i64 s, .int .i64 k]) := hk _ _ HA.out (.inl (by omega))
      replace HA0 : Hid (Ans w2.heap.size y0 w16 (bys r) (.slice b5 r.length c6)) := HA0.out.keep fun g _ h1 hr => hk g _ hr (.inl (by omega))
      replace HY0 : Hid (Row w16 y0 [.slice b5 r.length c6, .int .i64 sa, .int .i64 ka]) := hk _ _ HY0.out (.inl (by omega))
      replace HA1 : Hid (Ans w10.heap.size y1 w16 (bys r) (.slice b12 r.length c13)) := HA1.out.keep fun g h1 _ hr => hk g _ hr (.inr (by omega))
      replace HY1 : Hid (Row w16 y1 [.slice b12 r.length c13, .int .i64 sa, .int .i64 ka]) := hk _ _ HY1.out (.inr (by omega))
      clear hk hbw
      have HAc0 := HA.out.cell 0 _ rfl
      have HAc1 := HA.out.cell 1 _ rfl
      have HAc2 := HA.out.cell 2 _ rfl
      have HAn : w.heap.size ≠ w16.heap.size := Nat.ne_of_lt HA.out.lt
      have HAl : w.heap.size < w16.heap.size := HA.out.lt
      have HY0c0 := HY0.out.cell 0 _ rfl
      have HY0c1 := HY0.out.cell 1 _ rfl
      have HY0c2 := HY0.out.cell 2 _ rfl
      have HY0n : y0 ≠ w16.heap.size := Nat.ne_of_lt HY0.out.lt
      have HY0l : y0 < w16.heap.size := HY0.out.lt
      have HY1c0 := HY1.out.cell 0 _ rfl
      have HY1c1 := HY1.out.cell 1 _ rfl
      have HY1c2 := HY1.out.cell 2 _ rfl
      have HY1n : y1 ≠ w16.heap.size := Nat.ne_of_lt HY1.out.lt
      have HY1l : y1 < w16.heap.size := HY1.out.lt
      go_wp2_with fail
      clear HAc0 HAc1 HAc2 HAn HAl HY0c0 HY0c1 HY0c2 HY0n HY0l HY1c0 HY1c1 HY1c2 HY1n HY1l
      refine (eqJournal_c _ _ _ _ r sa ka hrl _ (ByA.of_ans HA1.out).2 (ByA.of_ans HA0.out).2).mono ?_
      rintro e w17 ⟨rfl, hb⟩
      replace HB : Hid (Below w.heap.size w w17) := below_then HB.out hb
      replace HA : Hid (Row w17 w.heap.size [.slice a l.length cap, .int .i64 s, .int .i64 k]) := HA.out.below hb
      replace HA0 : Hid (Ans w2.heap.size y0 w17 (bys r) (.slice b5 r.length c6)) := HA0.out.below hb
      replace HY0 : Hid (Row w17 y0 [.slice b5 r.length c6, .int .i64 sa, .int .i64 ka]) := HY0.out.below hb
      replace HA1 : Hid (Ans w10.heap.size y1 w17 (bys r) (.slice b12 r.length c13)) := HA1.out.below hb
      replace HY1 : Hid (Row w17 y1 [.slice b12 r.length c13, .int .i64 sa, .int .i64 ka]) := HY1.out.below hb
      clear hb
      have HAc0 := HA.out.cell 0 _ rfl
      have HAc1 := HA.out.cell 1 _ rfl
      have HAc2 := HA.out.cell 2 _ rfl
      have HAn : w.heap.size ≠ w17.heap.size := Nat.ne_of_lt HA.out.lt
      have HAl : w.heap.size < w17.heap.size := HA.out.lt
      have HY0c0 := HY0.out.cell 0 _ rfl
      have HY0c1 := HY0.out.cell 1 _ rfl
      have HY0c2 := HY0.out.cell 2 _ rfl
      have HY0n : y0 ≠ w17.heap.size := Nat.ne_of_lt HY0.out.lt
      have HY0l : y0 < w17.heap.size := HY0.out.lt
      have HY1c0 := HY1.out.cell 0 _ rfl
      have HY1c1 := HY1.out.cell 1 _ rfl
      have HY1c2 := HY1.out.cell 2 _ rfl
      have HY1n : y1 ≠ w17.heap.size := Nat.ne_of_lt HY1.out.lt
      have HY1l : y1 < w17.heap.size := HY1.out.lt
      go_wp2_with fail
      clear HAc0 HAc1 HAc2 HAn HAl HY0c0 HY0c1 HY0c2 HY0n HY0l HY1c0 HY1c1 HY1c2 HY1n HY1l
      have HMK := markJournal_c sa ka HA1.out (by rw [bys_len]; exact hrl)
      rw [bys_len] at HMK
      refine HMK.mono ?_
      clear HMK
      rintro e w18 ⟨rfl, hC, hk, hbw⟩
      clear HA1
      replace HB : Hid (Below w.heap.size w w18) := hbw w HB.out (by omega)
      replace HA : Hid (Row w18 w.heap.size [.slice a l.length cap, .int .i64 s, .int .i64 k]) := hk _ _ HA.out (.inl (by omega))
      replace HA0 : Hid (Ans w2.heap.size y0 w18 (bys r) (.slice b5 r.length c6)) := HA0.out.keep fun g _ h1 hr => hk g _ hr (.inl (by omega))
      replace HY0 : Hid (Row w18 y0 [.slice b5 r.length c6, .int .i64 sa, .int .i64 ka]) := hk _ _ HY0.out (.inl (by omega))
      replace HY1 : Hid (Row w18 y1 [.slice b12 r.length c13, .int .i64 sa, .int .i64 ka]) := hk _ _ HY1.out (.inr (by omega))
      have HC : Hid (Ans w10.heap.size y1 w18 (upBytes 1 r.length) (.slice b12 r.length c13)) := hC
      clear hC hk hbw
      have HAc0 := HA.out.cell 0 _ rfl
      have HAc1 := HA.out.cell 1 _ rfl
      have HAc2 := HA.out.cell 2 _ rfl
      have HAn : w.heap.size ≠ w18.heap.size := Nat.ne_of_lt HA.out.lt
      have HAl : w.heap.size < w18.heap.size := HA.out.lt
      have HY0c0 := HY0.out.cell 0 _ rfl
      have HY0c1 := HY0.out.cell 1 _ rfl
      have HY0c2 := HY0.out.cell 2 _ rfl
      have HY0n : y0 ≠ w18.heap.size := Nat.ne_of_lt HY0.out.lt
      have HY0l : y0 < w18.heap.size := HY0.out.lt
      have HY1c0 := HY1.out.cell 0 _ rfl
      have HY1c1 := HY1.out.cell 1 _ rfl
      have HY1c2 := HY1.out.cell 2 _ rfl
      have HY1n : y1 ≠ w18.heap.size := Nat.ne_of_lt HY1.out.lt
      have HY1l : y1 < w18.heap.size := HY1.out.lt
      go_wp2_with fail
      clear HAc0 HAc1 HAc2 HAn HAl HY0c0 HY0c1 HY0c2 HY0n HY0l HY1c0 HY1c1 HY1c2 HY1n HY1l
      refine (heldJournal_c sa ka HC.out hrl).mono ?_
      rintro e w19 ⟨rfl, hb⟩
      replace HB : Hid (Below w.heap.size w w19) := below_then HB.out hb
      replace HA : Hid (Row w19 w.heap.size [.slice a l.length cap, .int .i64 s, .int .i64 k]) := HA.out.below hb
      replace HA0 : Hid (Ans w2.heap.size y0 w19 (bys r) (.slice b5 r.length c6)) := HA0.out.below hb
      replace HY0 : Hid (Row w19 y0 [.slice b5 r.length c6, .int .i64 sa, .int .i64 ka]) := HY0.out.below hb
      replace HY1 : Hid (Row w19 y1 [.slice b12 r.length c13, .int .i64 sa, .int .i64 ka]) := HY1.out.below hb
      replace HC : Hid (Ans w10.heap.size y1 w19 (upBytes 1 r.length) (.slice b12 r.length c13)) := HC.out.below hb
      clear hb
      have HAc0 := HA.out.cell 0 _ rfl
      have HAc1 := HA.out.cell 1 _ rfl
      have HAc2 := HA.out.cell 2 _ rfl
      have HAn : w.heap.size ≠ w19.heap.size := Nat.ne_of_lt HA.out.lt
      have HAl : w.heap.size < w19.heap.size := HA.out.lt
      have HY0c0 := HY0.out.cell 0 _ rfl
      have HY0c1 := HY0.out.cell 1 _ rfl
      have HY0c2 := HY0.out.cell 2 _ rfl
      have HY0n : y0 ≠ w19.heap.size := Nat.ne_of_lt HY0.out.lt
      have HY0l : y0 < w19.heap.size := HY0.out.lt
      have HY1c0 := HY1.out.cell 0 _ rfl
      have HY1c1 := HY1.out.cell 1 _ rfl
      have HY1c2 := HY1.out.cell 2 _ rfl
      have HY1n : y1 ≠ w19.heap.size := Nat.ne_of_lt HY1.out.lt
      have HY1l : y1 < w19.heap.size := HY1.out.lt
      go_wp2_with fail
      clear HAc0 HAc1 HAc2 HAn HAl HY0c0 HY0c1 HY0c2 HY0n HY0l HY1c0 HY1c1 HY1c2 HY1n HY1l
      refine (toJournal_c a cap l s k hl' _ (H.out.below HB.out)).mono ?_
      rintro e w20 ⟨g21, rfl, hg, hr, hb⟩
      have hwg21 : w.heap.size < g21 := Nat.lt_of_lt_of_le HA.out.lt hg
      replace HB : Hid (Below w.heap.size w w20) := below_then HB.out hb
      replace HA : Hid (Row w20 w.heap.size [.slice a l.length cap, .int .i64 s, .int .i64 k]) := HA.out.below hb
      replace HA0 : Hid (Ans w2.heap.size y0 w20 (bys r) (.slice b5 r.length c6)) := HA0.out.below hb
      replace HY0 : Hid (Row w20 y0 [.slice b5 r.length c6, .int .i64 sa, .int .i64 ka]) := HY0.out.below hb
      replace HY1 : Hid (Row w20 y1 [.slice b12 r.length c13, .int .i64 sa, .int .i64 ka]) := HY1.out.below hb
      replace HC : Hid (Ans w10.heap.size y1 w20 (upBytes 1 r.length) (.slice b12 r.length c13)) := HC.out.below hb
      have hlg21 : w19.heap.size ≤ g21 := hg
      have HG : Hid (Row w20 g21 (bys l)) := hr
      have hug21 : g21 < w20.heap.size := hr.lt
      clear hg hr hb
      have HAc0 := HA.out.cell 0 _ rfl
      have HAc1 := HA.out.cell 1 _ rfl
      have HAc2 := HA.out.cell 2 _ rfl
      have HAn : w.heap.size ≠ w20.heap.size := Nat.ne_of_lt HA.out.lt
      have HAl : w.heap.size < w20.heap.size := HA.out.lt
      have HY0c0 := HY0.out.cell 0 _ rfl
      have HY0c1 := HY0.out.cell 1 _ rfl
      have HY0c2 := HY0.out.cell 2 _ rfl
      have HY0n : y0 ≠ w20.heap.size := Nat.ne_of_lt HY0.out.lt
      have HY0l : y0 < w20.heap.size := HY0.out.lt
      have HY1c0 := HY1.out.cell 0 _ rfl
      have HY1c1 := HY1.out.cell 1 _ rfl
      have HY1c2 := HY1.out.cell 2 _ rfl
      have HY1n : y1 ≠ w20.heap.size := Nat.ne_of_lt HY1.out.lt
      have HY1l : y1 < w20.heap.size := HY1.out.lt
      go_wp2_with fail
      clear HAc0 HAc1 HAc2 HAn HAl HY0c0 HY0c1 HY0c2 HY0n HY0l HY1c0 HY1c1 HY1c2 HY1n HY1l
      refine (HI.out w20 g21 HG.out (HE.out.on HB.out)).mono ?_
      rintro e w22 ⟨v, rfl, ha, hb⟩
      obtain ⟨b23, c24, rfl⟩ := ha.form
      rw [bys_len] at ha ⊢
      have hvHA2 : w.heap.size < w20.heap.size := HA.out.lt
      replace HB : Hid (Below w.heap.size w w22) := below_then HB.out hb
      replace HA : Hid (Row w22 w.heap.size [.slice a l.length cap, .int .i64 s, .int .i64 k]) := HA.out.below hb
      replace HA0 : Hid (Ans w2.heap.size y0 w22 (bys r) (.slice b5 r.length c6)) := HA0.out.below hb
      replace HY0 : Hid (Row w22 y0 [.slice b5 r.length c6, .int .i64 sa, .int .i64 ka]) := HY0.out.below hb
      replace HY1 : Hid (Row w22 y1 [.slice b12 r.length c13, .int .i64 sa, .int .i64 ka]) := HY1.out.below hb
      replace HC : Hid (Ans w10.heap.size y1 w22 (upBytes 1 r.length) (.slice b12 r.length c13)) := HC.out.below hb
      replace HG : Hid (Row w22 g21 (bys l)) := HG.out.below hb
      have hzHA2 : w20.heap.size ≤ w22.heap.size := hb.size
      have HA2 : Hid (Ans w20.heap.size w22.heap.size w22 (bys r) (.slice b23 r.length c24)) := ha
      clear ha hb
      have HAc0 := HA.out.cell 0 _ rfl
      have HAc1 := HA.out.cell 1 _ rfl
      have HAc2 := HA.out.cell 2 _ rfl
      have HAn : w.heap.size ≠ w22.heap.size := Nat.ne_of_lt HA.out.lt
      have HAl : w.heap.size < w22.heap.size := HA.out.lt
      have HY0c0 := HY0.out.cell 0 _ rfl
      have HY0c1 := HY0.out.cell 1 _ rfl
      have HY0c2 := HY0.out.cell 2 _ rfl
      have HY0n : y0 ≠ w22.heap.size := Nat.ne_of_lt HY0.out.lt
      have HY0l : y0 < w22.heap.size := HY0.out.lt
      have HY1c0 := HY1.out.cell 0 _ rfl
      have HY1c1 := HY1.out.cell 1 _ rfl
      have HY1c2 := HY1.out.cell 2 _ rfl
      have HY1n : y1 ≠ w22.heap.size := Nat.ne_of_lt HY1.out.lt
      have HY1l : y1 < w22.heap.size := HY1.out.lt
      go_wp2_with fail
      clear HAc0 HAc1 HAc2 HAn HAl HY0c0 HY0c1 HY0c2 HY0n HY0l HY1c0 HY1c1 HY1c2 HY1n HY1l
      clear HG
      have hbx : Row (w22.alloc (.cells #[.slice b23 r.length c24, .int .i64 sa, .int .i64 ka] 24)) w22.heap.size [.slice b23 r.length c24, .int .i64 sa, .int .i64 ka] ∧ Below w22.heap.size w22 (w22.alloc (.cells #[.slice b23 r.length c24, .int .i64 sa, .int .i64 ka] 24)) := ⟨row_fresh w22 [.slice b23 r.length c24, .int .i64 sa, .int .i64 ka] 24, (Below.refl _ _).alloc (Nat.le_refl _) _⟩
      generalize hgw : w22.alloc (.cells #[.slice b23 r.length c24, .int .i64 sa, .int .i64 ka] 24) = w25 at hbx
      clear hgw
      have hsxy2 : w22.heap.size < w25.heap.size := hbx.1.lt
      replace HB : Hid (Below w.heap.size w w25) := below_then HB.out hbx.2
      replace HA : Hid (Row w25 w.heap.size [.slice a l.length cap, .int .i64 s, .int .i64 k]) := HA.out.below hbx.2
      replace HA0 : Hid (Ans w2.heap.size y0 w25 (bys r) (.slice b5 r.length c6)) := HA0.out.below hbx.2
      replace HY0 : Hid (Row w25 y0 [.slice b5 r.length c6, .int .i64 sa, .int .i64 ka]) := HY0.out.below hbx.2
      replace HY1 : Hid (Row w25 y1 [.slice b12 r.length c13, .int .i64 sa, .int .i64 ka]) := HY1.out.below hbx.2
      replace HC : Hid (Ans w10.heap.size y1 w25 (upBytes 1 r.length) (.slice b12 r.length c13)) := HC.out.below hbx.2
      replace HA2 : Hid (Ans w20.heap.size w22.heap.size w25 (bys r) (.slice b23 r.length c24)) := HA2.out.below hbx.2
      generalize hgx : w22.heap.size = y2 at *
      clear hgx
      have HY2 : Hid (Row w25 y2 [.slice b23 r.length c24, .int .i64 sa, .int .i64 ka]) := hbx.1
      clear hbx
      refine (eqJournal_c _ _ _ _ r sa ka hrl _ (ByA.of_ans HA2.out).2 (ByA.of_ans HA0.out).2).mono ?_
      rintro e w26 ⟨rfl, hb⟩
      replace HB : Hid (Below w.heap.size w w26) := below_then HB.out hb
      replace HA : Hid (Row w26 w.heap.size [.slice a l.length cap, .int .i64 s, .int .i64 k]) := HA.out.below hb
      replace HA0 : Hid (Ans w2.heap.size y0 w26 (bys r) (.slice b5 r.length c6)) := HA0.out.below hb
      replace HY0 : Hid (Row w26 y0 [.slice b5 r.length c6, .int .i64 sa, .int .i64 ka]) := HY0.out.below hb
      replace HY1 : Hid (Row w26 y1 [.slice b12 r.length c13, .int .i64 sa, .int .i64 ka]) := HY1.out.below hb
      replace HC : Hid (Ans w10.heap.size y1 w26 (upBytes 1 r.length) (.slice b12 r.length c13)) := HC.out.below hb
      replace HA2 : Hid (Ans w20.heap.size y2 w26 (bys r) (.slice b23 r.length c24)) := HA2.out.below hb
      replace HY2 : Hid (Row w26 y2 [.slice b23 r.length c24, .int .i64 sa, .int .i64 ka]) := HY2.out.below hb
      clear hb
      have HAc0 := HA.out.cell 0 _ rfl
      have HAc1 := HA.out.cell 1 _ rfl
      have HAc2 := HA.out.cell 2 _ rfl
      have HAn : w.heap.size ≠ w26.heap.size := Nat.ne_of_lt HA.out.lt
      have HAl : w.heap.size < w26.heap.size := HA.out.lt
      have HY0c0 := HY0.out.cell 0 _ rfl
      have HY0c1 := HY0.out.cell 1 _ rfl
      have HY0c2 := HY0.out.cell 2 _ rfl
      have HY0n : y0 ≠ w26.heap.size := Nat.ne_of_lt HY0.out.lt
      have HY0l : y0 < w26.heap.size := HY0.out.lt
      have HY1c0 := HY1.out.cell 0 _ rfl
      have HY1c1 := HY1.out.cell 1 _ rfl
      have HY1c2 := HY1.out.cell 2 _ rfl
      have HY1n : y1 ≠ w26.heap.size := Nat.ne_of_lt HY1.out.lt
      have HY1l : y1 < w26.heap.size := HY1.out.lt
      have HY2c0 := HY2.out.cell 0 _ rfl
      have HY2c1 := HY2.out.cell 1 _ rfl
      have HY2c2 := HY2.out.cell 2 _ rfl
      have HY2n : y2 ≠ w26.heap.size := Nat.ne_of_lt HY2.out.lt
      have HY2l : y2 < w26.heap.size := HY2.out.lt
      go_wp2_with fail
      clear HAc0 HAc1 HAc2 HAn HAl HY0c0 HY0c1 HY0c2 HY0n HY0l HY1c0 HY1c1 HY1c2 HY1n HY1l HY2c0 HY2c1 HY2c2 HY2n HY2l
      refine (heldJournal_c sa ka HC.out hrl).mono ?_
      rintro e w27 ⟨rfl, hb⟩
      replace HB : Hid (Below w.heap.size w w27) := below_then HB.out hb
      replace HA : Hid (Row w27 w.heap.size [.slice a l.length cap, .int .i64 s, .int .i64 k]) := HA.out.below hb
      replace HA0 : Hid (Ans w2.heap.size y0 w27 (bys r) (.slice b5 r.length c6)) := HA0.out.below hb
      replace HY0 : Hid (Row w27 y0 [.slice b5 r.length c6, .int .i64 sa, .int .i64 ka]) := HY0.out.below hb
      replace HY1 : Hid (Row w27 y1 [.slice b12 r.length c13, .int .i64 sa, .int .i64 ka]) := HY1.out.below hb
      replace HC : Hid (Ans w10.heap.size y1 w27 (upBytes 1 r.length) (.slice b12 r.length c13)) := HC.out.below hb
      replace HA2 : Hid (Ans w20.heap.size y2 w27 (bys r) (.slice b23 r.length c24)) := HA2.out.below hb
      replace HY2 : Hid (Row w27 y2 [.slice b23 r.length c24, .int .i64 sa, .int .i64 ka]) := HY2.out.below hb
      clear hb
      have HAc0 := HA.out.cell 0 _ rfl
      have HAc1 := HA.out.cell 1 _ rfl
      have HAc2 := HA.out.cell 2 _ rfl
      have HAn : w.heap.size ≠ w27.heap.size := Nat.ne_of_lt HA.out.lt
      have HAl : w.heap.size < w27.heap.size := HA.out.lt
      have HY0c0 := HY0.out.cell 0 _ rfl
      have HY0c1 := HY0.out.cell 1 _ rfl
      have HY0c2 := HY0.out.cell 2 _ rfl
      have HY0n : y0 ≠ w27.heap.size := Nat.ne_of_lt HY0.out.lt
      have HY0l : y0 < w27.heap.size := HY0.out.lt
      have HY1c0 := HY1.out.cell 0 _ rfl
      have HY1c1 := HY1.out.cell 1 _ rfl
      have HY1c2 := HY1.out.cell 2 _ rfl
      have HY1n : y1 ≠ w27.heap.size := Nat.ne_of_lt HY1.out.lt
      have HY1l : y1 < w27.heap.size := HY1.out.lt
      have HY2c0 := HY2.out.cell 0 _ rfl
      have HY2c1 := HY2.out.cell 1 _ rfl
      have HY2c2 := HY2.out.cell 2 _ rfl
      have HY2n : y2 ≠ w27.heap.size := Nat.ne_of_lt HY2.out.lt
      have HY2l : y2 < w27.heap.size := HY2.out.lt
      go_wp2_with fail
      clear HAc0 HAc1 HAc2 HAn HAl HY0c0 HY0c1 HY0c2 HY0n HY0l HY1c0 HY1c1 HY1c2 HY1n HY1l HY2c0 HY2c1 HY2c2 HY2n HY2l
      go_ret
      exact ⟨rfl, HB.out⟩
end LawJournalAdd
end Go.Proofs.YtpdmhpcejmankaaDoor
