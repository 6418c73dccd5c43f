/- FnExactJournalOk: the walk. -/
import Derived.Test.YtpdmhpcejmankaaDoorJoL
import Derived.Deep.RegionWith
import Derived.Deep.Light
namespace Go.Proofs.YtpdmhpcejmankaaDoor
open Go.ChangeShapes Go.WideShapes Go.ChangeAt Go.RowKit

theorem JA.of_row {w : World} {g : Nat} {l : List UInt8} (h : Row w g (bys l)) : JA w (some ⟨g, 0, none⟩) l.length l :=
  ⟨ByA.of_row h, Nat.le_refl _, (fun h => by cases h), (fun x e => by cases e; exact h.lt)⟩

namespace LawJournalOk
set_option maxHeartbeats 4000000 in
set_option maxRecDepth 100000 in
theorem walk (a : Option Addr) (cap : Nat) (l : List UInt8) (s k : Int) (hn : l.length ≤ maxLen) (w : World) (h : ByA w a l) (he : EnvJ w) :
    Calls Tryd.prog 5 #[.agg #[.slice a l.length cap, .int .i64 s, .int .i64 k]] w fun e w' => e = .returned (.bool true) ∧ Below w.heap.size w w' := by
  have H : Hid (ByA w a l) := h
  have HE : Hid (EnvJ w) := he
  have HV0 : Hid (Row (w.alloc (.cells #[.slice a l.length cap, .int .i64 s, .int .i64 k] 42)) w.heap.size [.slice a l.length cap, .int .i64 s, .int .i64 k] ∧ Below w.heap.size w (w.alloc (.cells #[.slice a l.length cap, .int .i64 s, .int .i64 k] 42))) := lbox w a l.length cap s k
  clear h he
  by_cases hl : 1048576 < l.length
  · have HZ : Hid (∀ W, Calls Tryd.prog 25 #[.agg #[.slice a l.length cap, .int .i64 s, .int .i64 k], .int .i64 1048576] W fun e w' => e = .returned (.int .i64 (-1)) ∧ Below W.heap.size W w') := fun W => szJournal_big a l.length cap s k hn hl W
    go_enter Tryd.func5, Tryd.ntmps5
    go_wp2_with fail
    refine (HZ.out _).mono ?_
    rintro e w1 ⟨rfl, hb⟩
    have HB : Hid (Below w.heap.size w w1) := below_then HV0.out.2 hb
    clear hb
    go_wp2_with fail
    go_ret
    exact ⟨rfl, HB.out⟩
  · have hl' : l.length ≤ 1048576 := by omega
    have HZ : Hid (∀ W, Calls Tryd.prog 25 #[.agg #[.slice a l.length cap, .int .i64 s, .int .i64 k], .int .i64 1048576] W fun e w' => e = .returned (.int .i64 (1048576 - (l.length : Int))) ∧ Below W.heap.size W w') := fun W => szJournal_small a l.length cap s k hl' W
    have hneg : ¬ (1048576 - (l.length : Int) < 0) := by omega
    go_enter Tryd.func5, Tryd.ntmps5
    go_wp2_with fail
    generalize w.alloc (.cells #[.slice a l.length cap, .int .i64 s, .int .i64 k] 42) = V at HV0
    have HA : Hid (Row V w.heap.size [.slice a l.length cap, .int .i64 s, .int .i64 k]) := HV0.out.1
    have HV : Hid (Below w.heap.size w V) := HV0.out.2
    clear HV0 hl
    refine (HZ.out _).mono ?_
    rintro e w1 ⟨rfl, hb⟩
    have HB1 : Hid (Below V.heap.size V w1) := hb
    have t0 := (HA.out.below HB1.out).cell 0 _ rfl
    have t1 := (HA.out.below HB1.out).cell 1 _ rfl
    have t2 := (HA.out.below HB1.out).cell 2 _ rfl
    clear hb HZ
    go_wp2_with fail
    refine (toJournal_c a cap l s k hl' _ ((H.out.below HV.out).below HB1.out)).mono ?_
    rintro e w2 ⟨g2, rfl, _, hr, hb⟩
    have HB2 : Hid (Below V.heap.size V w2) := below_then HB1.out hb
    have HG2 : Hid (Row w2 g2 (bys l)) := hr
    clear hr hb t0 t1 t2 HB1
    go_wp2_with fail
    refine (specJournalOk_c w2 (some ⟨g2, 0, none⟩) l.length l s k (JA.of_row HG2.out) hl').mono ?_
    rintro e w3 ⟨rfl, hb⟩
    have HB3 : Hid (Below V.heap.size V w3) := below_then HB2.out hb
    have t0 := (HA.out.below HB3.out).cell 0 _ rfl
    have t1 := (HA.out.below HB3.out).cell 1 _ rfl
    have t2 := (HA.out.below HB3.out).cell 2 _ rfl
    clear hb HB2 HG2
    generalize hok : jokB l s k = ok
    have HOK : Hid (jokB l s k = ok) := hok
    clear hok
    go_wp2_with fail
    refine (toJournal_c a cap l s k hl' _ ((H.out.below HV.out).below HB3.out)).mono ?_
    rintro e w4 ⟨g4, rfl, _, hr, hb⟩
    have HB4 : Hid (Below V.heap.size V w4) := below_then HB3.out hb
    have HG4 : Hid (Row w4 g4 (bys l)) := hr
    clear hr hb t0 t1 t2 HB3
    go_wp2_with fail
    have HX0 := jbox w4 (some ⟨g4, 0, none⟩) l.length l.length s k
    have HX : Hid (Row (w4.alloc (.cells #[.slice (some ⟨g4, 0, none⟩) l.length l.length, .int .i64 s, .int .i64 k] 24)) w4.heap.size [.slice (some ⟨g4, 0, none⟩) l.length l.length, .int .i64 s, .int .i64 k]) := HX0.1
    have HB5 : Hid (Below V.heap.size V (w4.alloc (.cells #[.slice (some ⟨g4, 0, none⟩) l.length l.length, .int .i64 s, .int .i64 k] 24))) := below_then HB4.out HX0.2
    have HG5 : Hid (Row (w4.alloc (.cells #[.slice (some ⟨g4, 0, none⟩) l.length l.length, .int .i64 s, .int .i64 k] 24)) g4 (bys l)) := HG4.out.below HX0.2
    generalize w4.alloc (.cells #[.slice (some ⟨g4, 0, none⟩) l.length l.length, .int .i64 s, .int .i64 k] 24) = w5 at HX HB5 HG5
    generalize w4.heap.size = x at *
    clear HX0 HB4 HG4
    refine (implJournalOk_c w5 (some ⟨g4, 0, none⟩) l.length l s k (JA.of_row HG5.out) ((HE.out.on HV.out).on HB5.out) hl').mono ?_
    rintro e w6 ⟨rfl, hb⟩
    rw [HOK.out]
    have HB6 : Hid (Below V.heap.size V w6) := below_then HB5.out hb
    have HX6 : Hid (Row w6 x [.slice (some ⟨g4, 0, none⟩) l.length l.length, .int .i64 s, .int .i64 k]) := HX.out.below hb
    have HG6 : Hid (Row w6 g4 (bys l)) := HG5.out.below hb
    have t0 := (HA.out.below HB6.out).cell 0 _ rfl
    have t1 := (HA.out.below HB6.out).cell 1 _ rfl
    have t2 := (HA.out.below HB6.out).cell 2 _ rfl
    have x0 := HX6.out.cell 0 _ rfl
    have x1 := HX6.out.cell 1 _ rfl
    have x2 := HX6.out.cell 2 _ rfl
    clear hb HB5 HX HG5
    have hd : Below w6.heap.size w6 w6.drew := ⟨rfl, rfl, rfl, Nat.le_refl _, fun _ _ => rfl⟩
    have HB7 : Hid (Below V.heap.size V w6.drew) := below_then HB6.out hd
    have HX7 : Hid (Row w6.drew x [.slice (some ⟨g4, 0, none⟩) l.length l.length, .int .i64 s, .int .i64 k]) := HX6.out.below hd
    have HG7 : Hid (Row w6.drew g4 (bys l)) := HG6.out.below hd
    have HBy : Hid (ByA w6.drew a l) := (H.out.below HV.out).below HB7.out
    clear hd
    cases ok
    all_goals
      go_wp2_with fail
      go_region_with (first
        | (go_at_call 27; refine (toJournal_c a cap l s k hl' w6.drew HBy.out).mono ?_; rintro e w8 ⟨g8, rfl, _, hr8, hb8⟩; have x80 := (HX7.out.below hb8).cell 0 _ rfl; have x81 := (HX7.out.below hb8).cell 1 _ rfl; have x82 := (HX7.out.below hb8).cell 2 _ rfl; have HB8 : Hid (Below V.heap.size V w8) := below_then HB7.out hb8; have HG8 : Hid (Row w8 g4 (bys l)) := HG7.out.below hb8; have HY8 : Hid (Row w8 g8 (bys l)) := hr8; clear hr8 hb8)
        | (go_at_call 28; refine (eqJournal_c _ _ _ _ l s k hl' w8 (ByA.of_row HG8.out) (ByA.of_row HY8.out)).mono ?_; rintro e w9 ⟨rfl, hb9⟩; have HB9 : Hid (Below V.heap.size V w9) := below_then HB8.out hb9; clear hb9))
      all_goals
        go_wp2_with fail
        go_ret
        exact ⟨rfl, below_then HV.out HB9.out⟩
end LawJournalOk
end Go.Proofs.YtpdmhpcejmankaaDoor
