/- FnExactJournalOpen: the walk. -/
import Derived.Test.YtpdmhpcejmankaaDoorJoQ
import Derived.Test.YtpdmhpcejmankaaDoorBehA
import Derived.Deep.RegionHeld3
namespace Go.Proofs.YtpdmhpcejmankaaDoor
open Go.ChangeShapes Go.WideShapes Go.ChangeAt Go.RowKit

namespace LawJournalOpen
set_option maxHeartbeats 8000000 in
set_option maxRecDepth 100000 in
theorem walk (a : Option Addr) (cap : Nat) (l : List UInt8) (hn : l.length ≤ maxLen) (w : World) (h : ByA w a l) (he : EnvJ w) :
    Calls Tryd.prog 6 #[.slice a l.length cap] w fun e w' => e = .returned (.bool true) ∧ Below w.heap.size w w' := by
  have H : Hid (ByA w a l) := h
  have HE : Hid (EnvJ w) := he
  clear h he
  by_cases hl : 1048576 < l.length
  · unfold maxLen at hn
    go_enter Tryd.func6, Tryd.ntmps6
    go_wp2_with fail
    go_ret
    exact ⟨rfl, Below.refl _ _⟩
  · have hl' : l.length ≤ 1048576 := by omega
    have hrl : (opL l).length ≤ 1048576 := opL_le l hl'
    have HI : Hid (∀ (W : World) (g : Nat), Row W g (bys l) → EnvJ W → Calls Tryd.prog 15 #[.slice (some ⟨g, 0, none⟩) l.length l.length] W fun e w' => ∃ v, e = .returned (.agg #[v, .int .i64 (opS l), .int .i64 (opK l)]) ∧ Ans W.heap.size w'.heap.size w' (bys (opL l)) v ∧ Below W.heap.size W w') := fun W g h1 h2 => implJournalOpen_c W _ l.length l (JA.of_row h1) h2 hl'
    have HS : Hid (∀ (W : World) (g : Nat), Row W g (bys l) → Calls Tryd.prog 29 #[.slice (some ⟨g, 0, none⟩) l.length l.length] W fun e w' => ∃ v, e = .returned (.agg #[v, .int .i64 (opS l), .int .i64 (opK l)]) ∧ Ans W.heap.size w'.heap.size w' (bys (opL l)) v ∧ Below W.heap.size W w') := fun W g h1 => specJournalOpen_c W g l h1 hl'
    generalize (opS l) = sa at HI HS
    generalize (opK l) = ka at HI HS
    generalize (opL l) = r at hrl HI HS
    go_enter Tryd.func6, Tryd.ntmps6
    go_wp2_with fail
    have HB : Hid (Below w.heap.size w w) := Below.refl _ _
    clear hl
    refine (toByteS_c a cap l hl' _ (H.out.below HB.out)).mono ?_
    rintro e w1 ⟨g2, rfl, hg, hr, hb⟩
    have hwg2 : w.heap.size ≤ g2 := Nat.le_trans HB.out.size hg
    replace HB : Hid (Below w.heap.size w w1) := below_then HB.out hb
    have hlg2 : w.heap.size ≤ g2 := hg
    have HG : Hid (Row w1 g2 (bys l)) := hr
    have hug2 : g2 < w1.heap.size := hr.lt
    clear hg hr hb
    go_wp2_with fail
    refine (HS.out w1 g2 HG.out).mono ?_
    rintro e w3 ⟨v, rfl, ha, hb⟩
    obtain ⟨b4, c5, rfl⟩ := ha.form
    rw [bys_len] at ha ⊢
    have hvHA0 : w.heap.size ≤ w1.heap.size := HB.out.size
    replace HB : Hid (Below w.heap.size w w3) := below_then HB.out hb
    replace HG : Hid (Row w3 g2 (bys l)) := HG.out.below hb
    have hzHA0 : w1.heap.size ≤ w3.heap.size := hb.size
    have HA0 : Hid (Ans w1.heap.size w3.heap.size w3 (bys r) (.slice b4 r.length c5)) := ha
    clear ha hb
    go_wp2_with fail
    clear HG
    clear HS
    have hbx : Row (w3.alloc (.cells #[.slice b4 r.length c5, .int .i64 sa, .int .i64 ka] 24)) w3.heap.size [.slice b4 r.length c5, .int .i64 sa, .int .i64 ka] ∧ Below w3.heap.size w3 (w3.alloc (.cells #[.slice b4 r.length c5, .int .i64 sa, .int .i64 ka] 24)) := ⟨row_fresh w3 [.slice b4 r.length c5, .int .i64 sa, .int .i64 ka] 24, (Below.refl _ _).alloc (Nat.le_refl _) _⟩
    generalize hgw : w3.alloc (.cells #[.slice b4 r.length c5, .int .i64 sa, .int .i64 ka] 24) = w6 at hbx
    clear hgw
    have hsxy0 : w3.heap.size < w6.heap.size := hbx.1.lt
    replace HB : Hid (Below w.heap.size w w6) := below_then HB.out hbx.2
    replace HA0 : Hid (Ans w1.heap.size w3.heap.size w6 (bys r) (.slice b4 r.length c5)) := HA0.out.below hbx.2
    generalize hgx : w3.heap.size = y0 at *
    clear hgx
    have HY0 : Hid (Row w6 y0 [.slice b4 r.length c5, .int .i64 sa, .int .i64 ka]) := hbx.1
    clear hbx
    refine (toByteS_c a cap l hl' _ (H.out.below HB.out)).mono ?_
    rintro e w7 ⟨g8, rfl, hg, hr, hb⟩
    have hwg8 : w.heap.size ≤ g8 := Nat.le_trans HB.out.size hg
    replace HB : Hid (Below w.heap.size w w7) := below_then HB.out hb
    replace HA0 : Hid (Ans w1.heap.size y0 w7 (bys r) (.slice b4 r.length c5)) := HA0.out.below hb
    replace HY0 : Hid (Row w7 y0 [.slice b4 r.length c5, .int .i64 sa, .int .i64 ka]) := HY0.out.below hb
    have hlg8 : w6.heap.size ≤ g8 := hg
    have HG : Hid (Row w7 g8 (bys l)) := hr
    have hug8 : g8 < w7.heap.size := hr.lt
    clear hg hr hb
    have HY0c0 := HY0.out.cell 0 _ rfl
    have HY0c1 := HY0.out.cell 1 _ rfl
    have HY0c2 := HY0.out.cell 2 _ rfl
    have HY0n : y0 ≠ w7.heap.size := Nat.ne_of_lt HY0.out.lt
    have HY0l : y0 < w7.heap.size := HY0.out.lt
    go_wp2_with fail
    clear HY0c0 HY0c1 HY0c2 HY0n HY0l
    refine (HI.out w7 g8 HG.out (HE.out.on HB.out)).mono ?_
    rintro e w9 ⟨v, rfl, ha, hb⟩
    obtain ⟨b10, c11, rfl⟩ := ha.form
    rw [bys_len] at ha ⊢
    have hvHA1 : w.heap.size ≤ w7.heap.size := HB.out.size
    replace HB : Hid (Below w.heap.size w w9) := below_then HB.out hb
    replace HA0 : Hid (Ans w1.heap.size y0 w9 (bys r) (.slice b4 r.length c5)) := HA0.out.below hb
    replace HY0 : Hid (Row w9 y0 [.slice b4 r.length c5, .int .i64 sa, .int .i64 ka]) := HY0.out.below hb
    replace HG : Hid (Row w9 g8 (bys l)) := HG.out.below hb
    have hzHA1 : w7.heap.size ≤ w9.heap.size := hb.size
    have HA1 : Hid (Ans w7.heap.size w9.heap.size w9 (bys r) (.slice b10 r.length c11)) := ha
    clear ha hb
    have HY0c0 := HY0.out.cell 0 _ rfl
    have HY0c1 := HY0.out.cell 1 _ rfl
    have HY0c2 := HY0.out.cell 2 _ rfl
    have HY0n : y0 ≠ w9.heap.size := Nat.ne_of_lt HY0.out.lt
    have HY0l : y0 < w9.heap.size := HY0.out.lt
    go_wp2_with fail
    clear HY0c0 HY0c1 HY0c2 HY0n HY0l
    have hbx : Row (w9.alloc (.cells #[.slice b10 r.length c11, .int .i64 sa, .int .i64 ka] 24)) w9.heap.size [.slice b10 r.length c11, .int .i64 sa, .int .i64 ka] ∧ Below w9.heap.size w9 (w9.alloc (.cells #[.slice b10 r.length c11, .int .i64 sa, .int .i64 ka] 24)) := ⟨row_fresh w9 [.slice b10 r.length c11, .int .i64 sa, .int .i64 ka] 24, (Below.refl _ _).alloc (Nat.le_refl _) _⟩
    generalize hgw : w9.alloc (.cells #[.slice b10 r.length c11, .int .i64 sa, .int .i64 ka] 24) = w12 at hbx
    clear hgw
    have hsxy1 : w9.heap.size < w12.heap.size := hbx.1.lt
    replace HB : Hid (Below w.heap.size w w12) := below_then HB.out hbx.2
    replace HA0 : Hid (Ans w1.heap.size y0 w12 (bys r) (.slice b4 r.length c5)) := HA0.out.below hbx.2
    replace HY0 : Hid (Row w12 y0 [.slice b4 r.length c5, .int .i64 sa, .int .i64 ka]) := HY0.out.below hbx.2
    replace HG : Hid (Row w12 g8 (bys l)) := HG.out.below hbx.2
    replace HA1 : Hid (Ans w7.heap.size w9.heap.size w12 (bys r) (.slice b10 r.length c11)) := HA1.out.below hbx.2
    generalize hgx : w9.heap.size = y1 at *
    clear hgx
    have HY1 : Hid (Row w12 y1 [.slice b10 r.length c11, .int .i64 sa, .int .i64 ka]) := hbx.1
    clear hbx
    refine (eqJournal_c _ _ _ _ r sa ka hrl _ (ByA.of_ans HA1.out).2 (ByA.of_ans HA0.out).2).mono ?_
    rintro e w13 ⟨rfl, hb⟩
    replace HB : Hid (Below w.heap.size w w13) := below_then HB.out hb
    replace HA0 : Hid (Ans w1.heap.size y0 w13 (bys r) (.slice b4 r.length c5)) := HA0.out.below hb
    replace HY0 : Hid (Row w13 y0 [.slice b4 r.length c5, .int .i64 sa, .int .i64 ka]) := HY0.out.below hb
    replace HG : Hid (Row w13 g8 (bys l)) := HG.out.below hb
    replace HA1 : Hid (Ans w7.heap.size y1 w13 (bys r) (.slice b10 r.length c11)) := HA1.out.below hb
    replace HY1 : Hid (Row w13 y1 [.slice b10 r.length c11, .int .i64 sa, .int .i64 ka]) := HY1.out.below hb
    clear hb
    have HY0c0 := HY0.out.cell 0 _ rfl
    have HY0c1 := HY0.out.cell 1 _ rfl
    have HY0c2 := HY0.out.cell 2 _ rfl
    have HY0n : y0 ≠ w13.heap.size := Nat.ne_of_lt HY0.out.lt
    have HY0l : y0 < w13.heap.size := HY0.out.lt
    have HY1c0 := HY1.out.cell 0 _ rfl
    have HY1c1 := HY1.out.cell 1 _ rfl
    have HY1c2 := HY1.out.cell 2 _ rfl
    have HY1n : y1 ≠ w13.heap.size := Nat.ne_of_lt HY1.out.lt
    have HY1l : y1 < w13.heap.size := HY1.out.lt
    go_wp2_with fail
    clear HY0c0 HY0c1 HY0c2 HY0n HY0l HY1c0 HY1c1 HY1c2 HY1n HY1l
    refine (toByteS_c a cap l hl' _ (H.out.below HB.out)).mono ?_
    rintro e w14 ⟨g15, rfl, hg, hr, hb⟩
    have hwg15 : w.heap.size ≤ g15 := Nat.le_trans HB.out.size hg
    replace HB : Hid (Below w.heap.size w w14) := below_then HB.out hb
    replace HA0 : Hid (Ans w1.heap.size y0 w14 (bys r) (.slice b4 r.length c5)) := HA0.out.below hb
    replace HY0 : Hid (Row w14 y0 [.slice b4 r.length c5, .int .i64 sa, .int .i64 ka]) := HY0.out.below hb
    replace HG : Hid (Row w14 g8 (bys l)) := HG.out.below hb
    replace HA1 : Hid (Ans w7.heap.size y1 w14 (bys r) (.slice b10 r.length c11)) := HA1.out.below hb
    replace HY1 : Hid (Row w14 y1 [.slice b10 r.length c11, .int .i64 sa, .int .i64 ka]) := HY1.out.below hb
    have hlg15 : w13.heap.size ≤ g15 := hg
    have HQ : Hid (Row w14 g15 (bys l)) := hr
    have hug15 : g15 < w14.heap.size := hr.lt
    clear hg hr hb
    have HY0c0 := HY0.out.cell 0 _ rfl
    have HY0c1 := HY0.out.cell 1 _ rfl
    have HY0c2 := HY0.out.cell 2 _ rfl
    have HY0n : y0 ≠ w14.heap.size := Nat.ne_of_lt HY0.out.lt
    have HY0l : y0 < w14.heap.size := HY0.out.lt
    have HY1c0 := HY1.out.cell 0 _ rfl
    have HY1c1 := HY1.out.cell 1 _ rfl
    have HY1c2 := HY1.out.cell 2 _ rfl
    have HY1n : y1 ≠ w14.heap.size := Nat.ne_of_lt HY1.out.lt
    have HY1l : y1 < w14.heap.size := HY1.out.lt
    go_wp2_with fail
    clear HY0c0 HY0c1 HY0c2 HY0n HY0l HY1c0 HY1c1 HY1c2 HY1n HY1l
    refine (eqByteS_c _ _ _ _ l hl' _ (ByA.of_row HG.out) (ByA.of_row HQ.out)).mono ?_
    rintro e w16 ⟨rfl, hb⟩
    replace HB : Hid (Below w.heap.size w w16) := below_then HB.out hb
    replace HA0 : Hid (Ans w1.heap.size y0 w16 (bys r) (.slice b4 r.length c5)) := HA0.out.below hb
    replace HY0 : Hid (Row w16 y0 [.slice b4 r.length c5, .int .i64 sa, .int .i64 ka]) := HY0.out.below hb
    replace HG : Hid (Row w16 g8 (bys l)) := HG.out.below hb
    replace HA1 : Hid (Ans w7.heap.size y1 w16 (bys r) (.slice b10 r.length c11)) := HA1.out.below hb
    replace HY1 : Hid (Row w16 y1 [.slice b10 r.length c11, .int .i64 sa, .int .i64 ka]) := HY1.out.below hb
    replace HQ : Hid (Row w16 g15 (bys l)) := HQ.out.below hb
    clear hb
    clear HQ
    have HM : Hid (Ans g8 (g8 + 1) w16 (bys l) (.slice (some ⟨g8, 0, none⟩) (bys l).length l.length)) := ⟨_, l.length, rfl, .inr ⟨g8, rfl, Nat.le_refl _, Nat.lt_succ_self _, HG.out⟩⟩
    rw [bys_len l] at HM
    have HY0c0 := HY0.out.cell 0 _ rfl
    have HY0c1 := HY0.out.cell 1 _ rfl
    have HY0c2 := HY0.out.cell 2 _ rfl
    have HY0n : y0 ≠ w16.heap.size := Nat.ne_of_lt HY0.out.lt
    have HY0l : y0 < w16.heap.size := HY0.out.lt
    have HY1c0 := HY1.out.cell 0 _ rfl
    have HY1c1 := HY1.out.cell 1 _ rfl
    have HY1c2 := HY1.out.cell 2 _ rfl
    have HY1n : y1 ≠ w16.heap.size := Nat.ne_of_lt HY1.out.lt
    have HY1l : y1 < w16.heap.size := HY1.out.lt
    go_wp2_with fail
    clear HY0c0 HY0c1 HY0c2 HY0n HY0l HY1c0 HY1c1 HY1c2 HY1n HY1l
    have HMK := mark_bys (k0 := 1) HM.out (by rw [bys_len]; exact hl') (by omega)
    rw [bys_len l] at HMK
    refine HMK.mono ?_
    clear HMK
    rintro e w17 ⟨rfl, _, hk, hbw⟩
    clear HG
    clear HM
    replace HB : Hid (Below w.heap.size w w17) := hbw w HB.out (by omega)
    replace HA0 : Hid (Ans w1.heap.size y0 w17 (bys r) (.slice b4 r.length c5)) := HA0.out.keep fun g _ h1 hr => hk g _ hr (.inl (by omega))
    replace HY0 : Hid (Row w17 y0 [.slice b4 r.length c5, .int .i64 sa, .int .i64 ka]) := hk _ _ HY0.out (.inl (by omega))
    replace HA1 : Hid (Ans w7.heap.size y1 w17 (bys r) (.slice b10 r.length c11)) := HA1.out.keep fun g h1 _ hr => hk g _ hr (.inr (by omega))
    replace HY1 : Hid (Row w17 y1 [.slice b10 r.length c11, .int .i64 sa, .int .i64 ka]) := hk _ _ HY1.out (.inr (by omega))
    clear hk hbw
    have HY0c0 := HY0.out.cell 0 _ rfl
    have HY0c1 := HY0.out.cell 1 _ rfl
    have HY0c2 := HY0.out.cell 2 _ rfl
    have HY0n : y0 ≠ w17.heap.size := Nat.ne_of_lt HY0.out.lt
    have HY0l : y0 < w17.heap.size := HY0.out.lt
    have HY1c0 := HY1.out.cell 0 _ rfl
    have HY1c1 := HY1.out.cell 1 _ rfl
    have HY1c2 := HY1.out.cell 2 _ rfl
    have HY1n : y1 ≠ w17.heap.size := Nat.ne_of_lt HY1.out.lt
    have HY1l : y1 < w17.heap.size := HY1.out.lt
    go_wp2_with fail
    clear HY0c0 HY0c1 HY0c2 HY0n HY0l HY1c0 HY1c1 HY1c2 HY1n HY1l
    refine (eqJournal_c _ _ _ _ r sa ka hrl _ (ByA.of_ans HA1.out).2 (ByA.of_ans HA0.out).2).mono ?_
    rintro e w18 ⟨rfl, hb⟩
    replace HB : Hid (Below w.heap.size w w18) := below_then HB.out hb
    replace HA0 : Hid (Ans w1.heap.size y0 w18 (bys r) (.slice b4 r.length c5)) := HA0.out.below hb
    replace HY0 : Hid (Row w18 y0 [.slice b4 r.length c5, .int .i64 sa, .int .i64 ka]) := HY0.out.below hb
    replace HA1 : Hid (Ans w7.heap.size y1 w18 (bys r) (.slice b10 r.length c11)) := HA1.out.below hb
    replace HY1 : Hid (Row w18 y1 [.slice b10 r.length c11, .int .i64 sa, .int .i64 ka]) := HY1.out.below hb
    clear hb
    have HY0c0 := HY0.out.cell 0 _ rfl
    have HY0c1 := HY0.out.cell 1 _ rfl
    have HY0c2 := HY0.out.cell 2 _ rfl
    have HY0n : y0 ≠ w18.heap.size := Nat.ne_of_lt HY0.out.lt
    have HY0l : y0 < w18.heap.size := HY0.out.lt
    have HY1c0 := HY1.out.cell 0 _ rfl
    have HY1c1 := HY1.out.cell 1 _ rfl
    have HY1c2 := HY1.out.cell 2 _ rfl
    have HY1n : y1 ≠ w18.heap.size := Nat.ne_of_lt HY1.out.lt
    have HY1l : y1 < w18.heap.size := HY1.out.lt
    go_wp2_with fail
    clear HY0c0 HY0c1 HY0c2 HY0n HY0l HY1c0 HY1c1 HY1c2 HY1n HY1l
    have HMK := markJournal_c sa ka HA1.out (by rw [bys_len]; exact hrl)
    rw [bys_len] at HMK
    refine HMK.mono ?_
    clear HMK
    rintro e w19 ⟨rfl, hC, hk, hbw⟩
    clear HA1
    replace HB : Hid (Below w.heap.size w w19) := hbw w HB.out (by omega)
    replace HA0 : Hid (Ans w1.heap.size y0 w19 (bys r) (.slice b4 r.length c5)) := HA0.out.keep fun g _ h1 hr => hk g _ hr (.inl (by omega))
    replace HY0 : Hid (Row w19 y0 [.slice b4 r.length c5, .int .i64 sa, .int .i64 ka]) := hk _ _ HY0.out (.inl (by omega))
    replace HY1 : Hid (Row w19 y1 [.slice b10 r.length c11, .int .i64 sa, .int .i64 ka]) := hk _ _ HY1.out (.inr (by omega))
    have HC : Hid (Ans w7.heap.size y1 w19 (upBytes 1 r.length) (.slice b10 r.length c11)) := hC
    clear hC hk hbw
    have HY0c0 := HY0.out.cell 0 _ rfl
    have HY0c1 := HY0.out.cell 1 _ rfl
    have HY0c2 := HY0.out.cell 2 _ rfl
    have HY0n : y0 ≠ w19.heap.size := Nat.ne_of_lt HY0.out.lt
    have HY0l : y0 < w19.heap.size := HY0.out.lt
    have HY1c0 := HY1.out.cell 0 _ rfl
    have HY1c1 := HY1.out.cell 1 _ rfl
    have HY1c2 := HY1.out.cell 2 _ rfl
    have HY1n : y1 ≠ w19.heap.size := Nat.ne_of_lt HY1.out.lt
    have HY1l : y1 < w19.heap.size := HY1.out.lt
    go_wp2_with fail
    clear HY0c0 HY0c1 HY0c2 HY0n HY0l HY1c0 HY1c1 HY1c2 HY1n HY1l
    refine (heldJournal_c sa ka HC.out hrl).mono ?_
    rintro e w20 ⟨rfl, hb⟩
    replace HB : Hid (Below w.heap.size w w20) := below_then HB.out hb
    replace HA0 : Hid (Ans w1.heap.size y0 w20 (bys r) (.slice b4 r.length c5)) := HA0.out.below hb
    replace HY0 : Hid (Row w20 y0 [.slice b4 r.length c5, .int .i64 sa, .int .i64 ka]) := HY0.out.below hb
    replace HY1 : Hid (Row w20 y1 [.slice b10 r.length c11, .int .i64 sa, .int .i64 ka]) := HY1.out.below hb
    replace HC : Hid (Ans w7.heap.size y1 w20 (upBytes 1 r.length) (.slice b10 r.length c11)) := HC.out.below hb
    clear hb
    have HY0c0 := HY0.out.cell 0 _ rfl
    have HY0c1 := HY0.out.cell 1 _ rfl
    have HY0c2 := HY0.out.cell 2 _ rfl
    have HY0n : y0 ≠ w20.heap.size := Nat.ne_of_lt HY0.out.lt
    have HY0l : y0 < w20.heap.size := HY0.out.lt
    have HY1c0 := HY1.out.cell 0 _ rfl
    have HY1c1 := HY1.out.cell 1 _ rfl
    have HY1c2 := HY1.out.cell 2 _ rfl
    have HY1n : y1 ≠ w20.heap.size := Nat.ne_of_lt HY1.out.lt
    have HY1l : y1 < w20.heap.size := HY1.out.lt
    go_wp2_with fail
    clear HY0c0 HY0c1 HY0c2 HY0n HY0l HY1c0 HY1c1 HY1c2 HY1n HY1l
    refine (toByteS_c a cap l hl' _ (H.out.below HB.out)).mono ?_
    rintro e w21 ⟨g22, rfl, hg, hr, hb⟩
    have hwg22 : w.heap.size ≤ g22 := Nat.le_trans HB.out.size hg
    replace HB : Hid (Below w.heap.size w w21) := below_then HB.out hb
    replace HA0 : Hid (Ans w1.heap.size y0 w21 (bys r) (.slice b4 r.length c5)) := HA0.out.below hb
    replace HY0 : Hid (Row w21 y0 [.slice b4 r.length c5, .int .i64 sa, .int .i64 ka]) := HY0.out.below hb
    replace HY1 : Hid (Row w21 y1 [.slice b10 r.length c11, .int .i64 sa, .int .i64 ka]) := HY1.out.below hb
    replace HC : Hid (Ans w7.heap.size y1 w21 (upBytes 1 r.length) (.slice b10 r.length c11)) := HC.out.below hb
    have hlg22 : w20.heap.size ≤ g22 := hg
    have HG : Hid (Row w21 g22 (bys l)) := hr
    have hug22 : g22 < w21.heap.size := hr.lt
    clear hg hr hb
    have HY0c0 := HY0.out.cell 0 _ rfl
    have HY0c1 := HY0.out.cell 1 _ rfl
    have HY0c2 := HY0.out.cell 2 _ rfl
    have HY0n : y0 ≠ w21.heap.size := Nat.ne_of_lt HY0.out.lt
    have HY0l : y0 < w21.heap.size := HY0.out.lt
    have HY1c0 := HY1.out.cell 0 _ rfl
    have HY1c1 := HY1.out.cell 1 _ rfl
    have HY1c2 := HY1.out.cell 2 _ rfl
    have HY1n : y1 ≠ w21.heap.size := Nat.ne_of_lt HY1.out.lt
    have HY1l : y1 < w21.heap.size := HY1.out.lt
    go_wp2_with fail
    clear HY0c0 HY0c1 HY0c2 HY0n HY0l HY1c0 HY1c1 HY1c2 HY1n HY1l
    refine (HI.out w21 g22 HG.out (HE.out.on HB.out)).mono ?_
    rintro e w23 ⟨v, rfl, ha, hb⟩
    obtain ⟨b24, c25, rfl⟩ := ha.form
    rw [bys_len] at ha ⊢
    have hvHA2 : w.heap.size ≤ w21.heap.size := HB.out.size
    replace HB : Hid (Below w.heap.size w w23) := below_then HB.out hb
    replace HA0 : Hid (Ans w1.heap.size y0 w23 (bys r) (.slice b4 r.length c5)) := HA0.out.below hb
    replace HY0 : Hid (Row w23 y0 [.slice b4 r.length c5, .int .i64 sa, .int .i64 ka]) := HY0.out.below hb
    replace HY1 : Hid (Row w23 y1 [.slice b10 r.length c11, .int .i64 sa, .int .i64 ka]) := HY1.out.below hb
    replace HC : Hid (Ans w7.heap.size y1 w23 (upBytes 1 r.length) (.slice b10 r.length c11)) := HC.out.below hb
    replace HG : Hid (Row w23 g22 (bys l)) := HG.out.below hb
    have hzHA2 : w21.heap.size ≤ w23.heap.size := hb.size
    have HA2 : Hid (Ans w21.heap.size w23.heap.size w23 (bys r) (.slice b24 r.length c25)) := ha
    clear ha hb
    have HY0c0 := HY0.out.cell 0 _ rfl
    have HY0c1 := HY0.out.cell 1 _ rfl
    have HY0c2 := HY0.out.cell 2 _ rfl
    have HY0n : y0 ≠ w23.heap.size := Nat.ne_of_lt HY0.out.lt
    have HY0l : y0 < w23.heap.size := HY0.out.lt
    have HY1c0 := HY1.out.cell 0 _ rfl
    have HY1c1 := HY1.out.cell 1 _ rfl
    have HY1c2 := HY1.out.cell 2 _ rfl
    have HY1n : y1 ≠ w23.heap.size := Nat.ne_of_lt HY1.out.lt
    have HY1l : y1 < w23.heap.size := HY1.out.lt
    go_wp2_with fail
    clear HY0c0 HY0c1 HY0c2 HY0n HY0l HY1c0 HY1c1 HY1c2 HY1n HY1l
    clear HG
    have hbx : Row (w23.alloc (.cells #[.slice b24 r.length c25, .int .i64 sa, .int .i64 ka] 24)) w23.heap.size [.slice b24 r.length c25, .int .i64 sa, .int .i64 ka] ∧ Below w23.heap.size w23 (w23.alloc (.cells #[.slice b24 r.length c25, .int .i64 sa, .int .i64 ka] 24)) := ⟨row_fresh w23 [.slice b24 r.length c25, .int .i64 sa, .int .i64 ka] 24, (Below.refl _ _).alloc (Nat.le_refl _) _⟩
    generalize hgw : w23.alloc (.cells #[.slice b24 r.length c25, .int .i64 sa, .int .i64 ka] 24) = w26 at hbx
    clear hgw
    have hsxy2 : w23.heap.size < w26.heap.size := hbx.1.lt
    replace HB : Hid (Below w.heap.size w w26) := below_then HB.out hbx.2
    replace HA0 : Hid (Ans w1.heap.size y0 w26 (bys r) (.slice b4 r.length c5)) := HA0.out.below hbx.2
    replace HY0 : Hid (Row w26 y0 [.slice b4 r.length c5, .int .i64 sa, .int .i64 ka]) := HY0.out.below hbx.2
    replace HY1 : Hid (Row w26 y1 [.slice b10 r.length c11, .int .i64 sa, .int .i64 ka]) := HY1.out.below hbx.2
    replace HC : Hid (Ans w7.heap.size y1 w26 (upBytes 1 r.length) (.slice b10 r.length c11)) := HC.out.below hbx.2
    replace HA2 : Hid (Ans w21.heap.size w23.heap.size w26 (bys r) (.slice b24 r.length c25)) := HA2.out.below hbx.2
    generalize hgx : w23.heap.size = y2 at *
    clear hgx
    have HY2 : Hid (Row w26 y2 [.slice b24 r.length c25, .int .i64 sa, .int .i64 ka]) := hbx.1
    clear hbx
    refine (eqJournal_c _ _ _ _ r sa ka hrl _ (ByA.of_ans HA2.out).2 (ByA.of_ans HA0.out).2).mono ?_
    rintro e w27 ⟨rfl, hb⟩
    replace HB : Hid (Below w.heap.size w w27) := below_then HB.out hb
    replace HA0 : Hid (Ans w1.heap.size y0 w27 (bys r) (.slice b4 r.length c5)) := HA0.out.below hb
    replace HY0 : Hid (Row w27 y0 [.slice b4 r.length c5, .int .i64 sa, .int .i64 ka]) := HY0.out.below hb
    replace HY1 : Hid (Row w27 y1 [.slice b10 r.length c11, .int .i64 sa, .int .i64 ka]) := HY1.out.below hb
    replace HC : Hid (Ans w7.heap.size y1 w27 (upBytes 1 r.length) (.slice b10 r.length c11)) := HC.out.below hb
    replace HA2 : Hid (Ans w21.heap.size y2 w27 (bys r) (.slice b24 r.length c25)) := HA2.out.below hb
    replace HY2 : Hid (Row w27 y2 [.slice b24 r.length c25, .int .i64 sa, .int .i64 ka]) := HY2.out.below hb
    clear hb
    have HY0c0 := HY0.out.cell 0 _ rfl
    have HY0c1 := HY0.out.cell 1 _ rfl
    have HY0c2 := HY0.out.cell 2 _ rfl
    have HY0n : y0 ≠ w27.heap.size := Nat.ne_of_lt HY0.out.lt
    have HY0l : y0 < w27.heap.size := HY0.out.lt
    have HY1c0 := HY1.out.cell 0 _ rfl
    have HY1c1 := HY1.out.cell 1 _ rfl
    have HY1c2 := HY1.out.cell 2 _ rfl
    have HY1n : y1 ≠ w27.heap.size := Nat.ne_of_lt HY1.out.lt
    have HY1l : y1 < w27.heap.size := HY1.out.lt
    have HY2c0 := HY2.out.cell 0 _ rfl
    have HY2c1 := HY2.out.cell 1 _ rfl
    have HY2c2 := HY2.out.cell 2 _ rfl
    have HY2n : y2 ≠ w27.heap.size := Nat.ne_of_lt HY2.out.lt
    have HY2l : y2 < w27.heap.size := HY2.out.lt
    go_wp2_with fail
    clear HY0c0 HY0c1 HY0c2 HY0n HY0l HY1c0 HY1c1 HY1c2 HY1n HY1l HY2c0 HY2c1 HY2c2 HY2n HY2l
    refine (heldJournal_c sa ka HC.out hrl).mono ?_
    rintro e w28 ⟨rfl, hb⟩
    replace HB : Hid (Below w.heap.size w w28) := below_then HB.out hb
    replace HA0 : Hid (Ans w1.heap.size y0 w28 (bys r) (.slice b4 r.length c5)) := HA0.out.below hb
    replace HY0 : Hid (Row w28 y0 [.slice b4 r.length c5, .int .i64 sa, .int .i64 ka]) := HY0.out.below hb
    replace HY1 : Hid (Row w28 y1 [.slice b10 r.length c11, .int .i64 sa, .int .i64 ka]) := HY1.out.below hb
    replace HC : Hid (Ans w7.heap.size y1 w28 (upBytes 1 r.length) (.slice b10 r.length c11)) := HC.out.below hb
    replace HA2 : Hid (Ans w21.heap.size y2 w28 (bys r) (.slice b24 r.length c25)) := HA2.out.below hb
    replace HY2 : Hid (Row w28 y2 [.slice b24 r.length c25, .int .i64 sa, .int .i64 ka]) := HY2.out.below hb
    clear hb
    have HY0c0 := HY0.out.cell 0 _ rfl
    have HY0c1 := HY0.out.cell 1 _ rfl
    have HY0c2 := HY0.out.cell 2 _ rfl
    have HY0n : y0 ≠ w28.heap.size := Nat.ne_of_lt HY0.out.lt
    have HY0l : y0 < w28.heap.size := HY0.out.lt
    have HY1c0 := HY1.out.cell 0 _ rfl
    have HY1c1 := HY1.out.cell 1 _ rfl
    have HY1c2 := HY1.out.cell 2 _ rfl
    have HY1n : y1 ≠ w28.heap.size := Nat.ne_of_lt HY1.out.lt
    have HY1l : y1 < w28.heap.size := HY1.out.lt
    have HY2c0 := HY2.out.cell 0 _ rfl
    have HY2c1 := HY2.out.cell 1 _ rfl
    have HY2c2 := HY2.out.cell 2 _ rfl
    have HY2n : y2 ≠ w28.heap.size := Nat.ne_of_lt HY2.out.lt
    have HY2l : y2 < w28.heap.size := HY2.out.lt
    go_wp2_with fail
    clear HY0c0 HY0c1 HY0c2 HY0n HY0l HY1c0 HY1c1 HY1c2 HY1n HY1l HY2c0 HY2c1 HY2c2 HY2n HY2l
    go_ret
    exact ⟨rfl, HB.out⟩
end LawJournalOpen
end Go.Proofs.YtpdmhpcejmankaaDoor
