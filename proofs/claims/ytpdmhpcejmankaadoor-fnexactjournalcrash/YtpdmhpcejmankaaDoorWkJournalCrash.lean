/- FnExactJournalCrash: the walk. -/
import Derived.Test.YtpdmhpcejmankaaDoorJoN
import Derived.Deep.RegionWith
import Derived.Deep.Light
namespace Go.Proofs.YtpdmhpcejmankaaDoor
open Go.ChangeShapes Go.WideShapes Go.ChangeAt Go.RowKit

namespace LawJournalCrash
set_option maxHeartbeats 8000000 in
set_option maxRecDepth 100000 in
theorem walk (a : Option Addr) (cap : Nat) (l : List UInt8) (s k : Int) (keep : Int) (hn : l.length ≤ maxLen) (hk1 : -9223372036854775808 ≤ keep) (hk2 : keep ≤ 9223372036854775807) (w : World) (h : ByA w a l) (he : EnvJ w) :
    Calls Tryd.prog 9 #[.agg #[.slice a l.length cap, .int .i64 s, .int .i64 k], .int .i64 keep] w fun e w' => e = .returned (.bool true) ∧ Below w.heap.size w w' := by
  have H : Hid (ByA w a l) := h
  have HE : Hid (EnvJ w) := he
  have HV0 : Hid (Row (w.alloc (.cells #[.slice a l.length cap, .int .i64 s, .int .i64 k] 42)) w.heap.size [.slice a l.length cap, .int .i64 s, .int .i64 k] ∧ Below w.heap.size w (w.alloc (.cells #[.slice a l.length cap, .int .i64 s, .int .i64 k] 42))) := lbox w a l.length cap s k
  clear h he
  by_cases hl : 1048576 < l.length
  · have HZ : Hid (∀ W, Calls Tryd.prog 25 #[.agg #[.slice a l.length cap, .int .i64 s, .int .i64 k], .int .i64 1048576] W fun e w' => e = .returned (.int .i64 (-1)) ∧ Below W.heap.size W w') := fun W => szJournal_big a l.length cap s k hn hl W
    go_enter Tryd.func9, Tryd.ntmps9
    go_wp2_with fail
    refine (HZ.out _).mono ?_
    rintro e w1 ⟨rfl, hb⟩
    have HB : Hid (Below w.heap.size w w1) := below_then HV0.out.2 hb
    clear hb
    go_wp2_with fail
    go_ret
    exact ⟨rfl, HB.out⟩
  · have hl' : l.length ≤ 1048576 := by omega
    have HZ : Hid (∀ W, Calls Tryd.prog 25 #[.agg #[.slice a l.length cap, .int .i64 s, .int .i64 k], .int .i64 1048576] W fun e w' => e = .returned (.int .i64 (1048576 - (l.length : Int))) ∧ Below W.heap.size W w') := fun W => szJournal_small a l.length cap s k hl' W
    have hneg : ¬ (1048576 - (l.length : Int) < 0) := by omega
    obtain ⟨ok, hok⟩ : ∃ ok, jokB l s k = ok := ⟨_, rfl⟩
    have hrl : (bif ok then l.take (crN l.length s keep) else []).length ≤ 1048576 := by cases ok; exact Nat.zero_le _; show (l.take _).length ≤ _; rw [List.length_take]; omega
    have HI : Hid (∀ (W : World) (g : Nat), Row W g (bys l) → EnvJ W → Calls Tryd.prog 16 #[.agg #[.slice (some ⟨g, 0, none⟩) l.length l.length, .int .i64 s, .int .i64 k], .int .i64 keep] W fun e w' => ∃ v, e = .returned v ∧ Ans W.heap.size w'.heap.size w' (bys (bif ok then l.take (crN l.length s keep) else [])) v ∧ Below W.heap.size W w') := fun W g h1 h2 => implJournalCrash_c W _ l.length l s k keep ok hok (JA.of_row h1) h2 hl' hk1 hk2
    have HS : Hid (∀ (W : World) (g : Nat), Row W g (bys l) → Calls Tryd.prog 33 #[.agg #[.slice (some ⟨g, 0, none⟩) l.length l.length, .int .i64 s, .int .i64 k], .int .i64 keep] W fun e w' => ∃ v, e = .returned v ∧ Ans W.heap.size w'.heap.size w' (bys (bif ok then l.take (crN l.length s keep) else [])) v ∧ Below W.heap.size W w') := fun W g h1 => specJournalCrash_c W g l s k keep ok hok h1 hl' hk1 hk2
    generalize (bif ok then l.take (crN l.length s keep) else []) = r at hrl HI HS
    clear hok
    go_enter Tryd.func9, Tryd.ntmps9
    go_wp2_with fail
    generalize w.alloc (.cells #[.slice a l.length cap, .int .i64 s, .int .i64 k] 42) = V at HV0
    have HA : Hid (Row V w.heap.size [.slice a l.length cap, .int .i64 s, .int .i64 k]) := HV0.out.1
    have HV : Hid (Below w.heap.size w V) := HV0.out.2
    clear HV0 hl
    refine (HZ.out _).mono ?_
    rintro e w1 ⟨rfl, hb⟩
    have HB1 : Hid (Below V.heap.size V w1) := hb
    have t0 := (HA.out.below HB1.out).cell 0 _ rfl
    have t1 := (HA.out.below HB1.out).cell 1 _ rfl
    have t2 := (HA.out.below HB1.out).cell 2 _ rfl
    clear hb HZ
    go_wp2_with fail
    refine (toJournal_c a cap l s k hl' _ ((H.out.below HV.out).below HB1.out)).mono ?_
    rintro e w2 ⟨g2, rfl, _, hr, hb⟩
    have HB2 : Hid (Below V.heap.size V w2) := below_then HB1.out hb
    have HG2 : Hid (Row w2 g2 (bys l)) := hr
    clear hr hb t0 t1 t2 HB1
    go_wp2_with fail
    refine (HS.out w2 g2 HG2.out).mono ?_
    rintro e w3 ⟨v0, rfl, ha, hb⟩
    obtain ⟨b0, cb0, rfl⟩ := ha.form
    rw [bys_len] at ha ⊢
    have HB3 : Hid (Below V.heap.size V w3) := below_then HB2.out hb
    have HA3 : Hid (Ans w2.heap.size w3.heap.size w3 (bys r) (.slice b0 r.length cb0)) := ha
    have t0 := (HA.out.below HB3.out).cell 0 _ rfl
    have t1 := (HA.out.below HB3.out).cell 1 _ rfl
    have t2 := (HA.out.below HB3.out).cell 2 _ rfl
    have hV3 : V.heap.size ≤ w3.heap.size := HB3.out.size
    have hV2 : V.heap.size ≤ w2.heap.size := HB2.out.size
    clear hb ha HB2 HG2 HS
    go_wp2_with fail
    refine (toJournal_c a cap l s k hl' _ ((H.out.below HV.out).below HB3.out)).mono ?_
    rintro e w4 ⟨g4, rfl, hg, hr, hb⟩
    have HB4 : Hid (Below V.heap.size V w4) := below_then HB3.out hb
    have HA4 : Hid (Ans w2.heap.size w3.heap.size w4 (bys r) (.slice b0 r.length cb0)) := HA3.out.below hb
    have HG4 : Hid (Row w4 g4 (bys l)) := hr
    have hg4 : w3.heap.size ≤ g4 := hg
    have hg4' : g4 < w4.heap.size := HG4.out.lt
    clear hg hr hb t0 t1 t2 HB3 HA3
    go_wp2_with fail
    have HX0 := jbox w4 (some ⟨g4, 0, none⟩) l.length l.length s k
    have hsz0 : w4.heap.size < (w4.alloc (.cells #[.slice (some ⟨g4, 0, none⟩) l.length l.length, .int .i64 s, .int .i64 k] 24)).heap.size := HX0.1.lt
    have HX : Hid (Row (w4.alloc (.cells #[.slice (some ⟨g4, 0, none⟩) l.length l.length, .int .i64 s, .int .i64 k] 24)) w4.heap.size [.slice (some ⟨g4, 0, none⟩) l.length l.length, .int .i64 s, .int .i64 k]) := HX0.1
    have HB5 : Hid (Below V.heap.size V (w4.alloc (.cells #[.slice (some ⟨g4, 0, none⟩) l.length l.length, .int .i64 s, .int .i64 k] 24))) := below_then HB4.out HX0.2
    have HG5 : Hid (Row (w4.alloc (.cells #[.slice (some ⟨g4, 0, none⟩) l.length l.length, .int .i64 s, .int .i64 k] 24)) g4 (bys l)) := HG4.out.below HX0.2
    have HA5 : Hid (Ans w2.heap.size w3.heap.size (w4.alloc (.cells #[.slice (some ⟨g4, 0, none⟩) l.length l.length, .int .i64 s, .int .i64 k] 24)) (bys r) (.slice b0 r.length cb0)) := HA4.out.below HX0.2
    generalize w4.alloc (.cells #[.slice (some ⟨g4, 0, none⟩) l.length l.length, .int .i64 s, .int .i64 k] 24) = w5 at HX HB5 HG5 HA5 hsz0
    clear HX0 HB4 HG4 HA4
    generalize w4.heap.size = x at *
    refine (HI.out w5 g4 HG5.out ((HE.out.on HV.out).on HB5.out)).mono ?_
    rintro e w6 ⟨v1, rfl, ha, hb⟩
    obtain ⟨b1, cb1, rfl⟩ := ha.form
    rw [bys_len] at ha ⊢
    have HB6 : Hid (Below V.heap.size V w6) := below_then HB5.out hb
    have HX6 : Hid (Row w6 x [.slice (some ⟨g4, 0, none⟩) l.length l.length, .int .i64 s, .int .i64 k]) := HX.out.below hb
    have HG6 : Hid (Row w6 g4 (bys l)) := HG5.out.below hb
    have HA6 : Hid (Ans w2.heap.size w3.heap.size w6 (bys r) (.slice b0 r.length cb0)) := HA5.out.below hb
    have HC6 : Hid (Ans w5.heap.size w6.heap.size w6 (bys r) (.slice b1 r.length cb1)) := ha
    clear hb ha HB5 HX HG5 HA5
    go_wp2_with fail
    refine (eq_bys HC6.out HA6.out hrl).mono ?_
    rintro e w7 ⟨rfl, hb⟩
    have hd : Below w7.heap.size w7 w7.drew := ⟨rfl, rfl, rfl, Nat.le_refl _, fun _ _ => rfl⟩
    have HB7 : Hid (Below V.heap.size V w7) := below_then HB6.out hb
    have HX7 : Hid (Row w7 x [.slice (some ⟨g4, 0, none⟩) l.length l.length, .int .i64 s, .int .i64 k]) := HX6.out.below hb
    have HG7 : Hid (Row w7 g4 (bys l)) := HG6.out.below hb
    have HA7 : Hid (Ans w2.heap.size w3.heap.size w7 (bys r) (.slice b0 r.length cb0)) := HA6.out.below hb
    have HC7 : Hid (Ans w5.heap.size w6.heap.size w7 (bys r) (.slice b1 r.length cb1)) := HC6.out.below hb
    have HK : Hid (∀ W, Below w7.heap.size w7 W → Below w7.heap.size w7 W ∧ W.cell? ⟨w.heap.size, 0, none⟩ = some (.slice a l.length cap) ∧ W.cell? ⟨w.heap.size, 1, none⟩ = some (.int .i64 s) ∧ W.cell? ⟨w.heap.size, 2, none⟩ = some (.int .i64 k) ∧ W.cell? ⟨x, 0, none⟩ = some (.slice (some ⟨g4, 0, none⟩) l.length l.length) ∧ W.cell? ⟨x, 1, none⟩ = some (.int .i64 s) ∧ W.cell? ⟨x, 2, none⟩ = some (.int .i64 k)) := fun W hW =>
      ⟨hW, ((HA.out.below HB7.out).below hW).cell 0 _ rfl, ((HA.out.below HB7.out).below hW).cell 1 _ rfl, ((HA.out.below HB7.out).below hW).cell 2 _ rfl, (HX7.out.below hW).cell 0 _ rfl, (HX7.out.below hW).cell 1 _ rfl, (HX7.out.below hW).cell 2 _ rfl⟩
    have HBy : Hid (∀ W, Below w7.heap.size w7 W → ByA W a l) := fun W hW => ((H.out.below HV.out).below HB7.out).below hW
    have HBg : Hid (∀ W, Below w7.heap.size w7 W → ByA W (some ⟨g4, 0, none⟩) l) := fun W hW => ByA.of_row (HG7.out.below hW)
    clear hb hd HB6 HX6 HG6 HA6 HC6
    go_wp2_with fail
    go_region_held3 (fun W => Below w7.heap.size w7 W ∧ W.cell? ⟨w.heap.size, 0, none⟩ = some (.slice a l.length cap) ∧ W.cell? ⟨w.heap.size, 1, none⟩ = some (.int .i64 s) ∧ W.cell? ⟨w.heap.size, 2, none⟩ = some (.int .i64 k) ∧ W.cell? ⟨x, 0, none⟩ = some (.slice (some ⟨g4, 0, none⟩) l.length l.length) ∧ W.cell? ⟨x, 1, none⟩ = some (.int .i64 s) ∧ W.cell? ⟨x, 2, none⟩ = some (.int .i64 k))
      ((go_split_ands; refine HK.out _ ?_; first | (with_reducible assumption) | (exact Hid.out (by with_reducible assumption)) | (exact behind (by with_reducible assumption) (And.left (by with_reducible assumption))) | (exact behind (by with_reducible assumption) (by with_reducible assumption)) | (go_grown; done)))
      (first
      | (go_at_call 27; refine (toJournal_c a cap l s k hl' _ (HBy.out _ (And.left (by with_reducible assumption)))).mono ?_; rintro e wk ⟨g8, rfl, _, hr8, hb8⟩; have Bk : Hid (Below w7.heap.size w7 wk) := behind hb8 (And.left (by with_reducible assumption)); have HY9 : Hid (Row wk g8 (bys l)) := hr8; clear hb8 hr8)
      | (go_at_call 28; refine (eqJournal_c _ _ _ _ l s k hl' _ (HBg.out _ (by first | exact (And.left (by with_reducible assumption)) | exact Bk.out)) (ByA.of_row HY9.out)).mono ?_; rintro e wm ⟨rfl, hb9⟩; have Bm : Hid (Below w7.heap.size w7 wm) := behind hb9 (by first | exact (And.left (by with_reducible assumption)) | exact Bk.out); clear hb9))
    go_split_ands
    have HBa : Hid (Below V.heap.size V wm) := below_then HB7.out Bm.out
    have HGa : Hid (Row wm g4 (bys l)) := HG7.out.below Bm.out
    have HXa : Hid (Row wm x [.slice (some ⟨g4, 0, none⟩) l.length l.length, .int .i64 s, .int .i64 k]) := HX7.out.below Bm.out
    have HAa : Hid (Ans w2.heap.size w3.heap.size wm (bys r) (.slice b0 r.length cb0)) := HA7.out.below Bm.out
    have HCa : Hid (Ans w5.heap.size w6.heap.size wm (bys r) (.slice b1 r.length cb1)) := HC7.out.below Bm.out
    clear Bm HB7 HG7 HX7 HA7 HC7 HK HBy HBg
    have x0 := HXa.out.cell 0 _ rfl
    have x1 := HXa.out.cell 1 _ rfl
    have x2 := HXa.out.cell 2 _ rfl
    have HM : Hid (Ans w3.heap.size (g4 + 1) wm (bys l) (.slice (some ⟨g4, 0, none⟩) (bys l).length l.length)) := ⟨_, l.length, rfl, .inr ⟨g4, rfl, hg4, Nat.lt_succ_self _, HGa.out⟩⟩
    rw [bys_len l] at HM
    go_wp2_with fail
    have HMK := markJournal_c s k HM.out (by rw [bys_len]; exact hl')
    rw [bys_len l] at HMK
    refine HMK.mono ?_
    clear HMK
    rintro e wa ⟨rfl, _, hk, hbw⟩
    have HBb : Hid (Below V.heap.size V wa) := hbw V HBa.out hV3
    have HAb : Hid (Ans w2.heap.size w3.heap.size wa (bys r) (.slice b0 r.length cb0)) := HAa.out.keep fun g _ h1 hr => hk g _ hr (.inl h1)
    have HCb : Hid (Ans w5.heap.size w6.heap.size wa (bys r) (.slice b1 r.length cb1)) := HCa.out.keep fun g h1 _ hr => hk g _ hr (.inr (by omega))
    clear hk hbw x0 x1 x2 HM HBa HGa HXa HAa HCa
    go_wp2_with fail
    refine (eq_bys HCb.out HAb.out hrl).mono ?_
    rintro e wb ⟨rfl, hb⟩
    have HBc : Hid (Below V.heap.size V wb) := below_then HBb.out hb
    have HAc : Hid (Ans w2.heap.size w3.heap.size wb (bys r) (.slice b0 r.length cb0)) := HAb.out.below hb
    have HCc : Hid (Ans w5.heap.size w6.heap.size wb (bys r) (.slice b1 r.length cb1)) := HCb.out.below hb
    clear hb HBb HAb HCb
    go_wp2_with fail
    have HMK := mark_bys (k0 := 1) HCc.out (by rw [bys_len]; exact hrl) (by omega)
    rw [bys_len] at HMK
    refine HMK.mono ?_
    clear HMK
    rintro e wc ⟨rfl, hC, hk, hbw⟩
    have HBd : Hid (Below V.heap.size V wc) := hbw V HBc.out (by omega)
    have HAd : Hid (Ans w2.heap.size w3.heap.size wc (bys r) (.slice b0 r.length cb0)) := HAc.out.keep fun g _ h1 hr => hk g _ hr (.inl (by omega))
    have HCd : Hid (Ans w5.heap.size w6.heap.size wc (upBytes 1 r.length) (.slice b1 r.length cb1)) := hC
    clear hC hk hbw HBc HAc HCc
    go_wp2_with fail
    refine (held_bys (k0 := 1) HCd.out hrl (by omega)).mono ?_
    rintro e wd ⟨rfl, hb⟩
    have HBe : Hid (Below V.heap.size V wd) := below_then HBd.out hb
    have HAe : Hid (Ans w2.heap.size w3.heap.size wd (bys r) (.slice b0 r.length cb0)) := HAd.out.below hb
    have HCe : Hid (Ans w5.heap.size w6.heap.size wd (upBytes 1 r.length) (.slice b1 r.length cb1)) := HCd.out.below hb
    have t0 := (HA.out.below HBe.out).cell 0 _ rfl
    have t1 := (HA.out.below HBe.out).cell 1 _ rfl
    have t2 := (HA.out.below HBe.out).cell 2 _ rfl
    clear hb HBd HAd HCd
    go_wp2_with fail
    refine (toJournal_c a cap l s k hl' _ ((H.out.below HV.out).below HBe.out)).mono ?_
    rintro e we ⟨ge, rfl, _, hr, hb⟩
    have HBf : Hid (Below V.heap.size V we) := below_then HBe.out hb
    have HAf : Hid (Ans w2.heap.size w3.heap.size we (bys r) (.slice b0 r.length cb0)) := HAe.out.below hb
    have HCf : Hid (Ans w5.heap.size w6.heap.size we (upBytes 1 r.length) (.slice b1 r.length cb1)) := HCe.out.below hb
    have HGf : Hid (Row we ge (bys l)) := hr
    clear hr hb t0 t1 t2 HBe HAe HCe
    go_wp2_with fail
    refine (HI.out we ge HGf.out ((HE.out.on HV.out).on HBf.out)).mono ?_
    rintro e wf ⟨v2, rfl, ha, hb⟩
    have HBg : Hid (Below V.heap.size V wf) := below_then HBf.out hb
    have HAg : Hid (Ans w2.heap.size w3.heap.size wf (bys r) (.slice b0 r.length cb0)) := HAf.out.below hb
    have HCg : Hid (Ans w5.heap.size w6.heap.size wf (upBytes 1 r.length) (.slice b1 r.length cb1)) := HCf.out.below hb
    have HDg : Hid (Ans we.heap.size wf.heap.size wf (bys r) v2) := ha
    clear ha hb HBf HAf HCf HGf
    go_wp2_with fail
    refine (eq_bys HDg.out HAg.out hrl).mono ?_
    rintro e wg ⟨rfl, hb⟩
    have HBh : Hid (Below V.heap.size V wg) := below_then HBg.out hb
    have HCh : Hid (Ans w5.heap.size w6.heap.size wg (upBytes 1 r.length) (.slice b1 r.length cb1)) := HCg.out.below hb
    clear hb HBg HAg HCg HDg
    go_wp2_with fail
    refine (held_bys (k0 := 1) HCh.out hrl (by omega)).mono ?_
    rintro e wh ⟨rfl, hb⟩
    have HBi : Hid (Below V.heap.size V wh) := below_then HBh.out hb
    clear hb HBh HCh
    go_wp2_with fail
    go_ret
    exact ⟨rfl, below_then HV.out HBi.out⟩
end LawJournalCrash
end Go.Proofs.YtpdmhpcejmankaaDoor
