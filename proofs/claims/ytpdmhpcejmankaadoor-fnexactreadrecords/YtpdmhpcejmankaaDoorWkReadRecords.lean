/- FnExactReadRecords: the walk. -/
import Derived.Test.YtpdmhpcejmankaaDoorJoF
import Derived.Test.YtpdmhpcejmankaaDoorJoH
import Derived.Test.YtpdmhpcejmankaaDoorJoJ
namespace Go.Proofs.YtpdmhpcejmankaaDoor
open Go.ChangeShapes Go.WideShapes Go.ChangeAt Go.RowKit

theorem implRR (w : World) (g : Nat) (l : List UInt8) (hr : Row w g (bys l)) (he : EnvJ w) (hbig : l.length ≤ 1048576) :
    Calls Tryd.prog 13 #[.slice (some ⟨g, 0, none⟩) l.length l.length] w fun e w' => ∃ v, e = .returned (.tuple #[v, .int .i64 ((rdR l).2 : Int)]) ∧ Ans w.heap.size w'.heap.size w' (strs (rdR l).1) v ∧ Below w.heap.size w w' := by
  refine (implReadRecords_c w (some ⟨g, 0, none⟩) l.length l (ByA.of_row hr) (Nat.le_refl _) (fun h => by cases h) (fun a h => by cases h; exact hr.lt) he hbig).mono ?_
  rintro e w' ⟨v, rfl, ho, hb⟩
  exact ⟨v, rfl, Ans.of_owns ho, hb⟩

theorem specRR (w : World) (g : Nat) (l : List UInt8) (hr : Row w g (bys l)) (hbig : l.length ≤ 1048576) :
    Calls Tryd.prog 14 #[.slice (some ⟨g, 0, none⟩) l.length l.length] w fun e w' => ∃ v, e = .returned (.tuple #[v, .int .i64 ((rdR l).2 : Int)]) ∧ Ans w.heap.size w'.heap.size w' (strs (rdR l).1) v ∧ Below w.heap.size w w' := by
  refine (specReadRecords_c w (some ⟨g, 0, none⟩) l.length l (ByA.of_row hr) (Nat.le_refl _) hbig).mono ?_
  rintro e w' ⟨v, rfl, ho, hb⟩
  exact ⟨v, rfl, Ans.of_owns ho, hb⟩

namespace LawReadRecords
set_option maxHeartbeats 4000000 in
set_option maxRecDepth 100000 in
theorem walk (a : Option Addr) (cap : Nat) (l : List UInt8) (hn : l.length ≤ maxLen) (w : World) (h : ByA w a l) (he : EnvJ w) :
    Calls Tryd.prog 4 #[.slice a l.length cap] w fun e w' => e = .returned (.bool true) ∧ Below w.heap.size w w' := by
  have H : Hid (ByA w a l) := h
  have HE : Hid (EnvJ w) := he
  clear h he
  by_cases hl : 1048576 < l.length
  · unfold maxLen at hn
    go_enter Tryd.func4, Tryd.ntmps4
    go_wp2_with fail
    go_ret
    exact ⟨rfl, Below.refl _ _⟩
  · have hl' : l.length ≤ 1048576 := by omega
    have hps : (rdR l).1.length ≤ 1048576 := by have := rd_le l; omega
    have hwh : (rdR l).2 ≤ 1048576 := by have := rd_le l; omega
    have HI : Hid (∀ (w : World) (g : Nat), Row w g (bys l) → EnvJ w → Calls Tryd.prog 13 #[.slice (some ⟨g, 0, none⟩) l.length l.length] w fun e w' => ∃ v, e = .returned (.tuple #[v, .int .i64 ((rdR l).2 : Int)]) ∧ Ans w.heap.size w'.heap.size w' (strs (rdR l).1) v ∧ Below w.heap.size w w') := fun w g h1 h2 => implRR w g l h1 h2 hl'
    have HS : Hid (∀ (w : World) (g : Nat), Row w g (bys l) → Calls Tryd.prog 14 #[.slice (some ⟨g, 0, none⟩) l.length l.length] w fun e w' => ∃ v, e = .returned (.tuple #[v, .int .i64 ((rdR l).2 : Int)]) ∧ Ans w.heap.size w'.heap.size w' (strs (rdR l).1) v ∧ Below w.heap.size w w') := fun w g h1 => specRR w g l h1 hl'
    generalize (rdR l).1 = ps at hps HI HS
    generalize (rdR l).2 = k at hwh HI HS
    clear hl hn
    go_enter Tryd.func4, Tryd.ntmps4
    go_wp2_with fail
    refine (toByteS_c a cap l hl' _ H.out).mono ?_
    rintro e w2 ⟨g2, rfl, hg, hr, hb⟩
    have HB2 : Hid (Below w.heap.size w w2) := hb
    have HG2 : Hid (Row w2 g2 (bys l)) := hr
    clear hg hr hb
    go_wp2_with fail
    refine (HS.out w2 g2 HG2.out).mono ?_
    rintro e w3 ⟨v0, rfl, ha, hb⟩
    have HB3 : Hid (Below w.heap.size w w3) := below_then HB2.out hb
    have HA3 : Hid (Ans w2.heap.size w3.heap.size w3 (strs ps) v0) := ha
    clear ha hb HB2 HG2 HS
    go_wp2_with fail
    refine (toByteS_c a cap l hl' _ (H.out.below HB3.out)).mono ?_
    rintro e w4 ⟨g4, rfl, hg, hr, hb⟩
    have HB4 : Hid (Below w.heap.size w w4) := below_then HB3.out hb
    have HA4 : Hid (Ans w2.heap.size w3.heap.size w4 (strs ps) v0) := HA3.out.below hb
    have HG4 : Hid (Row w4 g4 (bys l)) := hr
    have hg4 : w3.heap.size ≤ g4 := hg
    have hw3 : w.heap.size ≤ w3.heap.size := HB3.out.size
    clear hg hr hb HB3 HA3
    go_wp2_with fail
    refine (HI.out w4 g4 HG4.out (HE.out.on HB4.out)).mono ?_
    rintro e w5 ⟨v1, rfl, ha, hb⟩
    have hg4' : g4 < w4.heap.size := HG4.out.lt
    have HB5 : Hid (Below w.heap.size w w5) := below_then HB4.out hb
    have HA5 : Hid (Ans w2.heap.size w3.heap.size w5 (strs ps) v0) := HA4.out.below hb
    have HC5 : Hid (Ans w4.heap.size w5.heap.size w5 (strs ps) v1) := ha
    have HG5 : Hid (Row w5 g4 (bys l)) := HG4.out.below hb
    clear ha hb HB4 HA4 HG4
    go_wp2_with fail
    refine (eq_strs HC5.out HA5.out hps).mono ?_
    rintro e w6 ⟨rfl, hb⟩
    have HB6 : Hid (Below w.heap.size w w6) := below_then HB5.out hb
    have HA6 : Hid (Ans w2.heap.size w3.heap.size w6 (strs ps) v0) := HA5.out.below hb
    have HC6 : Hid (Ans w4.heap.size w5.heap.size w6 (strs ps) v1) := HC5.out.below hb
    have HG6 : Hid (Row w6 g4 (bys l)) := HG5.out.below hb
    clear hb HB5 HA5 HC5 HG5
    go_wp2_with fail
    refine (toByteS_c a cap l hl' _ (H.out.below HB6.out)).mono ?_
    rintro e w7 ⟨g7, rfl, _, hr, hb⟩
    have HB7 : Hid (Below w.heap.size w w7) := below_then HB6.out hb
    have HA7 : Hid (Ans w2.heap.size w3.heap.size w7 (strs ps) v0) := HA6.out.below hb
    have HC7 : Hid (Ans w4.heap.size w5.heap.size w7 (strs ps) v1) := HC6.out.below hb
    have HG7 : Hid (Row w7 g4 (bys l)) := HG6.out.below hb
    have HX7 : Hid (Row w7 g7 (bys l)) := hr
    clear hr hb HB6 HA6 HC6 HG6
    go_wp2_with fail
    refine (eqByteS_c _ _ _ _ l hl' w7 (ByA.of_row HG7.out) (ByA.of_row HX7.out)).mono ?_
    rintro e w8 ⟨rfl, hb⟩
    have HB8 : Hid (Below w.heap.size w w8) := below_then HB7.out hb
    have HA8 : Hid (Ans w2.heap.size w3.heap.size w8 (strs ps) v0) := HA7.out.below hb
    have HC8 : Hid (Ans w4.heap.size w5.heap.size w8 (strs ps) v1) := HC7.out.below hb
    have HG8 : Hid (Ans w3.heap.size w4.heap.size w8 (bys l) (.slice (some ⟨g4, 0, none⟩) l.length l.length)) := ⟨_, l.length, by rw [bys_len], .inr ⟨g4, rfl, hg4, hg4', HG7.out.below hb⟩⟩
    clear hb HB7 HA7 HC7 HG7 HX7
    have hbl : (bys l).length = l.length := bys_len l
    have hw5 : w4.heap.size ≤ w5.heap.size ∨ True := .inr trivial
    go_wp2_with fail
    have HMK := mark_bys (k0 := 1) HG8.out (by rw [bys_len]; exact hl') (by omega)
    rw [bys_len] at HMK
    refine HMK.mono ?_
    clear HMK
    rintro e w9 ⟨rfl, _, hk, hbw⟩
    have HB9 : Hid (Below w.heap.size w w9) := hbw w HB8.out hw3
    have HA9 : Hid (Ans w2.heap.size w3.heap.size w9 (strs ps) v0) := HA8.out.keep fun g _ h1 hr => hk g _ hr (.inl h1)
    have HC9 : Hid (Ans w4.heap.size w5.heap.size w9 (strs ps) v1) := HC8.out.keep fun g h1 _ hr => hk g _ hr (.inr h1)
    clear hk hbw HB8 HA8 HC8 HG8 hbl hw5
    go_wp2_with fail
    refine (eq_strs HC9.out HA9.out hps).mono ?_
    rintro e wa ⟨rfl, hb⟩
    have HBa : Hid (Below w.heap.size w wa) := below_then HB9.out hb
    have HAa : Hid (Ans w2.heap.size w3.heap.size wa (strs ps) v0) := HA9.out.below hb
    have HCa : Hid (Ans w4.heap.size w5.heap.size wa (strs ps) v1) := HC9.out.below hb
    clear hb HB9 HA9 HC9
    go_wp2_with fail
    refine (mark_strs HCa.out hps).mono ?_
    rintro e wb ⟨rfl, hC, hk, hbw⟩
    have hw4 : w3.heap.size ≤ w4.heap.size := by omega
    have HBb : Hid (Below w.heap.size w wb) := hbw w HBa.out (by omega)
    have HAb : Hid (Ans w2.heap.size w3.heap.size wb (strs ps) v0) := HAa.out.keep fun g _ h1 hr => hk g _ hr (.inl (by omega))
    have HCb : Hid (Ans w4.heap.size w5.heap.size wb (marks 1 ps.length) v1) := hC
    clear hC hk hbw HBa HAa HCa
    go_wp2_with fail
    refine (held_strs HCb.out hps).mono ?_
    rintro e wc ⟨rfl, hb⟩
    have HBc : Hid (Below w.heap.size w wc) := below_then HBb.out hb
    have HAc : Hid (Ans w2.heap.size w3.heap.size wc (strs ps) v0) := HAb.out.below hb
    have HCc : Hid (Ans w4.heap.size w5.heap.size wc (marks 1 ps.length) v1) := HCb.out.below hb
    clear hb HBb HAb HCb
    go_wp2_with fail
    refine (toByteS_c a cap l hl' _ (H.out.below HBc.out)).mono ?_
    rintro e wd ⟨gd, rfl, _, hr, hb⟩
    have HBd : Hid (Below w.heap.size w wd) := below_then HBc.out hb
    have HAd : Hid (Ans w2.heap.size w3.heap.size wd (strs ps) v0) := HAc.out.below hb
    have HCd : Hid (Ans w4.heap.size w5.heap.size wd (marks 1 ps.length) v1) := HCc.out.below hb
    have HGd : Hid (Row wd gd (bys l)) := hr
    clear hr hb HBc HAc HCc
    go_wp2_with fail
    refine (HI.out wd gd HGd.out (HE.out.on HBd.out)).mono ?_
    rintro e we ⟨v2, rfl, ha, hb⟩
    have HBe : Hid (Below w.heap.size w we) := below_then HBd.out hb
    have HAe : Hid (Ans w2.heap.size w3.heap.size we (strs ps) v0) := HAd.out.below hb
    have HCe : Hid (Ans w4.heap.size w5.heap.size we (marks 1 ps.length) v1) := HCd.out.below hb
    have HDe : Hid (Ans wd.heap.size we.heap.size we (strs ps) v2) := ha
    clear ha hb HBd HAd HCd HGd
    go_wp2_with fail
    refine (eq_strs HDe.out HAe.out hps).mono ?_
    rintro e wf ⟨rfl, hb⟩
    have HBf : Hid (Below w.heap.size w wf) := below_then HBe.out hb
    have HCf : Hid (Ans w4.heap.size w5.heap.size wf (marks 1 ps.length) v1) := HCe.out.below hb
    clear hb HBe HAe HCe HDe
    go_wp2_with fail
    refine (held_strs HCf.out hps).mono ?_
    rintro e wg ⟨rfl, hb⟩
    have HBg : Hid (Below w.heap.size w wg) := below_then HBf.out hb
    clear hb HBf HCf
    go_wp2_with fail
    go_ret
    exact ⟨rfl, HBg.out⟩
end LawReadRecords
end Go.Proofs.YtpdmhpcejmankaaDoor
