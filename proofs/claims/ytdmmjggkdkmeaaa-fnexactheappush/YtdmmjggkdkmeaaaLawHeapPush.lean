/- FnExactHeapPush: for every list of dues and every due the program's HeapPush answers as the specification's, and its answer owns its memory; no condition. -/
import Derived.Test.YtdmmjggkdkmeaaaHqK
import Derived.Test.YtdmmjggkdkmeaaaDlP
import Derived.Test.YtdmmjggkdkmeaaaDlC
import Derived.Test.YtdmmjggkdkmeaaaLawP
import Derived.Test.YtdmmjggkdkmeaaaRows
import Derived.Test.YtdmmjggkdkmeaaaChecked
import Derived.Test.YtdmmjggkdkmeaaaDuP
import Derived.ProofKit
import Derived.OpenShut
import Derived.Carry
namespace Go.Proofs.Ytdmmjggkdkmeaaa
namespace LawHeapPush
open Go.ChangeShapes Go.WideShapes Go.ChangeAt Go.RowKit Go.Joins

set_option maxHeartbeats 8000000 in
set_option maxRecDepth 100000 in
theorem walk (a : Option Addr) (c : Nat) (xs : List Du) (hx : xs.length ≤ maxLen) (y : Du) (w : World) (h : Sq w a (flatD xs)) :
    Calls Try.prog 6 #[.slice a xs.length c, .agg #[.int .i64 y.t, .int .i64 y.n]] w fun e w' => e = .returned (.bool true) ∧ Below w.heap.size w w' := by
  have H : Hid (Sq w a (flatD xs)) := h
  have Hx : Hid (xs.length ≤ maxLen) := hx
  clear h hx
  go_enter Try.func6, Try.ntmps6
  go_wp2_with fail
  have HD1 : Hid (Row (w.alloc (.cells #[.int .i64 y.t, .int .i64 y.n] 33)) w.heap.size [.int .i64 y.t, .int .i64 y.n]) := row_fresh w [.int .i64 y.t, .int .i64 y.n] 33
  have HB1 : Hid (Below w.heap.size w (w.alloc (.cells #[.int .i64 y.t, .int .i64 y.n] 33))) := low_alloc _ _
  have hd1 : w.heap.size < (w.alloc (.cells #[.int .i64 y.t, .int .i64 y.n] 33)).heap.size := by simp [go_sem]
  generalize w.alloc (.cells #[.int .i64 y.t, .int .i64 y.n] 33) = w1 at HD1 HB1 hd1 ⊢
  refine (szDueS_c a xs.length c Hx.out 1048576 (by omega) (by omega) _).mono ?_
  rintro e w0 ⟨rfl, rfl⟩
  by_cases h2 : (1048576 : Int) - xs.length < 0
  · rw [if_pos h2]
    clear h2
    go_wp2_with fail
    go_ret
    exact ⟨rfl, HB1.out⟩
  · rw [if_neg h2]
    have hx2 : xs.length ≤ 1048576 := by omega
    obtain ⟨K, hK⟩ : ∃ K : Bool, (K = true ↔ POkh xs y) := by
      by_cases hp : POkh xs y
      · exact ⟨true, by simp [hp]⟩
      · exact ⟨false, by simp [hp]⟩
    have HK : Hid (K = true ↔ POkh xs y) := hK
    clear hK
    obtain ⟨r, hR⟩ : ∃ r, (bif K then dpush xs y else []) = r := ⟨_, rfl⟩
    have hrl : r.length ≤ 1048576 := by rw [← hR]; exact by cases K <;> simp [dpush_len]; have := HK.out.1 rfl; have := this.1.1; omega
    have HR : Hid ((bif K then dpush xs y else []) = r) := hR
    clear hR
    clear h2
    have HKp : Hid (∀ W, Below w0.heap.size w0 W → Below w0.heap.size w0 W ∧ W.cell? ⟨w.heap.size, 0, none⟩ = some (.int .i64 y.t) ∧ W.cell? ⟨w.heap.size, 1, none⟩ = some (.int .i64 y.n)) := fun W hW => ⟨hW, (HD1.out.below hW).cell 0 _ rfl, (HD1.out.below hW).cell 1 _ rfl⟩
    have TD : Hid (∀ W : World, Calls Try.prog 17 #[.agg #[.int .i64 y.t, .int .i64 y.n]] W fun e w' => e = .returned (.agg #[.int .i64 y.t, .int .i64 y.n]) ∧ Below W.heap.size W w') := fun W => toDue_c y W
    go_wp2_with fail
    go_cut [6, 7] (fun vv kk wc => ∃ vp, vp = vv ∧ kk = .bool K ∧ AnsD w0.heap.size wc.heap.size wc r.length (flatD r) vp ∧ Below w0.heap.size w0 wc)
    case first =>
      go_region_held3 (fun W => Below w0.heap.size w0 W ∧ W.cell? ⟨w.heap.size, 0, none⟩ = some (.int .i64 y.t) ∧ W.cell? ⟨w.heap.size, 1, none⟩ = some (.int .i64 y.n))
        (first | exact HKp.out _ Kc.out | exact HKp.out _ Kb.out | exact HKp.out _ Ka.out | exact HKp.out _ (below_then Kb.out (low_drew _)) | exact HKp.out _ (below_then Ka.out (low_drew _)) | exact HKp.out _ (low_drew _) | exact HKp.out _ (Below.refl _ _) | (trace_state; done))
        (first
          | (go_at_call 20; refine (toDueS_c a c xs hx2 _ (H.out.below (below_then HB1.out (low_drew _)))).mono ?_; rintro e wa ⟨ga, rfl, hga, hra, hba⟩; have Ka : Hid (Below w0.heap.size w0 wa) := below_then (low_drew _) hba; have Ra : Hid (Row wa ga (flatD xs)) := hra; clear hga hra hba)
          | (go_at_call 17; refine (TD.out _).mono ?_; rintro e wb ⟨rfl, hbb⟩; have Kb : Hid (Below w0.heap.size w0 wb) := below_then Ka.out hbb; have Rb : Hid (Row wb ga (flatD xs)) := Ra.out.below hbb; clear hbb)
          | (go_at_call 22; refine (specHeapPush_c _ _ xs hx2 y _ (Sq.of_row Rb.out)).mono ?_; rintro e wz ⟨kz, vz, rfl, hkz, hansz, hbz⟩; have Kc : Hid (Below w0.heap.size w0 wz) := below_then Kb.out hbz; have Ez : Hid (K = kz) := Bool.eq_iff_iff.2 (HK.out.trans hkz.symm); have Az : Hid (AnsD w0.heap.size wz.heap.size wz (bif kz then dpush xs y else []).length (flatD (bif kz then dpush xs y else [])) vz) := hansz.wide Kb.out.size (Nat.le_refl _); clear hkz hansz hbz))
      all_goals
        go_wp2_with fail
        go_meet
        case rel =>
          have ez := Ez.out
          subst ez
          exact ⟨_, rfl, rfl, by rw [← HR.out]; exact Az.out, Kc.out⟩
    case rest =>
    obtain ⟨vp, rfl, rfl, hans, hb⟩ := hcut
    obtain ⟨w2, hwq⟩ : ∃ u, u = wc := ⟨_, rfl⟩
    subst hwq
    clear HKp TD
    have HD2 : Hid (Row w2 w.heap.size [.int .i64 y.t, .int .i64 y.n]) := HD1.out.below hb
    have HB2 : Hid (Below w.heap.size w w2) := below_then HB1.out hb
    have HAp2 : Hid (AnsD w0.heap.size w2.heap.size w2 r.length (flatD r) vp) := hans
    have hqp : w0.heap.size ≤ w2.heap.size := hb.size
    clear hb hans HD1 HB1
    go_wp2_with fail
    refine (toDueS_c a c xs hx2 _ (H.out.below HB2.out)).mono ?_
    rintro e w3 ⟨gx, rfl, hgx, hr, hb⟩
    have HD3 : Hid (Row w3 w.heap.size [.int .i64 y.t, .int .i64 y.n]) := HD2.out.below hb
    have HB3 : Hid (Below w.heap.size w w3) := below_then HB2.out hb
    have HAp3 : Hid (AnsD w0.heap.size w2.heap.size w3 r.length (flatD r) vp) := HAp2.out.below hb
    have HXx3 : Hid (Row w3 gx (flatD xs)) := hr
    have hlx : gx < w3.heap.size := hr.lt
    have hox : w2.heap.size ≤ w3.heap.size := hb.size
    clear hb hr HD2 HB2 HAp2
    have c00 := HD3.out.cell 0 _ rfl
    have c01 := HD3.out.cell 1 _ rfl
    go_wp2_with fail
    clear c00 c01
    refine (toDue_c y _).mono ?_
    rintro e w4 ⟨rfl, hb⟩
    have HD4 : Hid (Row w4 w.heap.size [.int .i64 y.t, .int .i64 y.n]) := HD3.out.below hb
    have HB4 : Hid (Below w.heap.size w w4) := below_then HB3.out hb
    have HAp4 : Hid (AnsD w0.heap.size w2.heap.size w4 r.length (flatD r) vp) := HAp3.out.below hb
    have HXx4 : Hid (Row w4 gx (flatD xs)) := HXx3.out.below hb
    have hsw4 : w3.heap.size ≤ w4.heap.size := hb.size
    clear hb HD3 HB3 HAp3 HXx3
    go_wp2_with fail
    refine (implHeapPush_c _ _ xs hx2 y _ (Sq.of_row HXx4.out)).mono ?_
    rintro e w5 ⟨kg, vg, rfl, hk, hans, hb⟩
    obtain rfl : K = kg := by rw [Bool.eq_iff_iff, hk, HK.out]
    rw [HR.out] at hans
    have HD5 : Hid (Row w5 w.heap.size [.int .i64 y.t, .int .i64 y.n]) := HD4.out.below hb
    have HB5 : Hid (Below w.heap.size w w5) := below_then HB4.out hb
    have HAp5 : Hid (AnsD w0.heap.size w2.heap.size w5 r.length (flatD r) vp) := HAp4.out.below hb
    have HXx5 : Hid (Row w5 gx (flatD xs)) := HXx4.out.below hb
    have HAg5 : Hid (AnsD w4.heap.size w5.heap.size w5 r.length (flatD r) vg) := hans
    have hqg : w4.heap.size ≤ w5.heap.size := hb.size
    clear hb hans hk HD4 HB4 HAp4 HXx4
    go_wp2_with fail
    refine (eq_ansD HAg5.out HAp5.out hrl).mono ?_
    rintro e w6 ⟨rfl, hb⟩
    have HD6 : Hid (Row w6 w.heap.size [.int .i64 y.t, .int .i64 y.n]) := HD5.out.below hb
    have HB6 : Hid (Below w.heap.size w w6) := below_then HB5.out hb
    have HAp6 : Hid (AnsD w0.heap.size w2.heap.size w6 r.length (flatD r) vp) := HAp5.out.below hb
    have HXx6 : Hid (Row w6 gx (flatD xs)) := HXx5.out.below hb
    have HAg6 : Hid (AnsD w4.heap.size w5.heap.size w6 r.length (flatD r) vg) := HAg5.out.below hb
    have hsw6 : w5.heap.size ≤ w6.heap.size := hb.size
    clear hb HD5 HB5 HAp5 HXx5 HAg5
    go_wp2_with fail
    refine (toDueS_c a c xs hx2 _ (H.out.below HB6.out)).mono ?_
    rintro e w7 ⟨gu, rfl, hgu, hr, hb⟩
    have HD7 : Hid (Row w7 w.heap.size [.int .i64 y.t, .int .i64 y.n]) := HD6.out.below hb
    have HB7 : Hid (Below w.heap.size w w7) := below_then HB6.out hb
    have HAp7 : Hid (AnsD w0.heap.size w2.heap.size w7 r.length (flatD r) vp) := HAp6.out.below hb
    have HXx7 : Hid (Row w7 gx (flatD xs)) := HXx6.out.below hb
    have HAg7 : Hid (AnsD w4.heap.size w5.heap.size w7 r.length (flatD r) vg) := HAg6.out.below hb
    have HXu7 : Hid (Row w7 gu (flatD xs)) := hr
    have hlu : gu < w7.heap.size := hr.lt
    have hou : w6.heap.size ≤ w7.heap.size := hb.size
    clear hb hr HD6 HB6 HAp6 HXx6 HAg6
    go_wp2_with fail
    refine (eqDueS_c _ _ _ _ xs hx2 _ (Sq.of_row HXx7.out) (Sq.of_row HXu7.out)).mono ?_
    rintro e w8 ⟨rfl, hb⟩
    have HD8 : Hid (Row w8 w.heap.size [.int .i64 y.t, .int .i64 y.n]) := HD7.out.below hb
    have HB8 : Hid (Below w.heap.size w w8) := below_then HB7.out hb
    have HAp8 : Hid (AnsD w0.heap.size w2.heap.size w8 r.length (flatD r) vp) := HAp7.out.below hb
    have HXx8 : Hid (Row w8 gx (flatD xs)) := HXx7.out.below hb
    have HAg8 : Hid (AnsD w4.heap.size w5.heap.size w8 r.length (flatD r) vg) := HAg7.out.below hb
    have HXu8 : Hid (Row w8 gu (flatD xs)) := HXu7.out.below hb
    have hsw8 : w7.heap.size ≤ w8.heap.size := hb.size
    clear hb HD7 HB7 HAp7 HXx7 HAg7 HXu7
    go_wp2_with fail
    refine (mark_ansD (k0 := 1) (B := gx) (T := gx + 1) (AnsD.of_row (cap := xs.length) (flatD_len xs) HXx8.out (Nat.le_refl _) (Nat.lt_succ_self _)) hx2 (by omega)).mono ?_
    rintro e w9 ⟨rfl, hG, hk, hbw⟩
    have HD9 : Hid (Row w9 w.heap.size [.int .i64 y.t, .int .i64 y.n]) := hk _ _ HD8.out (.inl (by omega))
    have HB9 : Hid (Below w.heap.size w w9) := hbw w HB8.out (by omega)
    have HAp9 : Hid (AnsD w0.heap.size w2.heap.size w9 r.length (flatD r) vp) := HAp8.out.keep fun g' h1 h2 hr' => hk g' _ hr' (.inl (by omega))
    have HAg9 : Hid (AnsD w4.heap.size w5.heap.size w9 r.length (flatD r) vg) := HAg8.out.keep fun g' h1 h2 hr' => hk g' _ hr' (.inr (by omega))
    clear hG hk hbw HD8 HB8 HAp8 HAg8 HXx8
    generalize hM : 1 + 2 * xs.length = M
    have hM0 : (0 : Int) ≤ (M : Int) := by omega
    go_wp2_with fail
    refine (eq_ansD HAg9.out HAp9.out hrl).mono ?_
    rintro e w10 ⟨rfl, hb⟩
    have HD10 : Hid (Row w10 w.heap.size [.int .i64 y.t, .int .i64 y.n]) := HD9.out.below hb
    have HB10 : Hid (Below w.heap.size w w10) := below_then HB9.out hb
    have HAp10 : Hid (AnsD w0.heap.size w2.heap.size w10 r.length (flatD r) vp) := HAp9.out.below hb
    have HAg10 : Hid (AnsD w4.heap.size w5.heap.size w10 r.length (flatD r) vg) := HAg9.out.below hb
    have hsw10 : w9.heap.size ≤ w10.heap.size := hb.size
    clear hb HD9 HB9 HAp9 HAg9
    go_wp2_with fail
    refine (mark_ansD (k0 := 1) HAg10.out hrl (by omega)).mono ?_
    rintro e w11 ⟨rfl, hG, hk, hbw⟩
    have HD11 : Hid (Row w11 w.heap.size [.int .i64 y.t, .int .i64 y.n]) := hk _ _ HD10.out (.inl (by omega))
    have HB11 : Hid (Below w.heap.size w w11) := hbw w HB10.out (by omega)
    have HAp11 : Hid (AnsD w0.heap.size w2.heap.size w11 r.length (flatD r) vp) := HAp10.out.keep fun g' h1 h2 hr' => hk g' _ hr' (.inl (by omega))
    have HAg11 : Hid (AnsD w4.heap.size w5.heap.size w11 r.length (upFrom 1 (2 * r.length)) vg) := hG
    clear hG hk hbw HD10 HB10 HAp10 HAg10
    have HH : Hid (∀ W : World, AnsD w4.heap.size w5.heap.size W r.length (upFrom 1 (2 * r.length)) vg → Calls Try.prog 25 #[vg, .int .i64 1] W fun e w' => e = .returned (.int .i64 ((1 + 2 * r.length : Nat) : Int)) ∧ Below W.heap.size W w') := fun W h => held_ansD (k0 := 1) h hrl (by omega)
    generalize hKq : 1 + 2 * r.length = Kq at HH ⊢
    have hK0 : (0 : Int) ≤ (Kq : Int) := by omega
    clear hKq
    go_wp2_with fail
    refine (HH.out _ HAg11.out).mono ?_
    rintro e w12 ⟨rfl, hb⟩
    have HD12 : Hid (Row w12 w.heap.size [.int .i64 y.t, .int .i64 y.n]) := HD11.out.below hb
    have HB12 : Hid (Below w.heap.size w w12) := below_then HB11.out hb
    have HAp12 : Hid (AnsD w0.heap.size w2.heap.size w12 r.length (flatD r) vp) := HAp11.out.below hb
    have HAg12 : Hid (AnsD w4.heap.size w5.heap.size w12 r.length (upFrom 1 (2 * r.length)) vg) := HAg11.out.below hb
    have hsw12 : w11.heap.size ≤ w12.heap.size := hb.size
    clear hb HD11 HB11 HAp11 HAg11
    have HKp : Hid (∀ W, Below w12.heap.size w12 W → Below w12.heap.size w12 W ∧ W.cell? ⟨w.heap.size, 0, none⟩ = some (.int .i64 y.t) ∧ W.cell? ⟨w.heap.size, 1, none⟩ = some (.int .i64 y.n)) := fun W hW => ⟨hW, (HD12.out.below hW).cell 0 _ rfl, (HD12.out.below hW).cell 1 _ rfl⟩
    have TD : Hid (∀ W : World, Calls Try.prog 17 #[.agg #[.int .i64 y.t, .int .i64 y.n]] W fun e w' => e = .returned (.agg #[.int .i64 y.t, .int .i64 y.n]) ∧ Below W.heap.size W w') := fun W => toDue_c y W
    go_wp2_with fail
    go_cut [14, 15] (fun vv kk wc => ∃ vh, vh = vv ∧ kk = .bool K ∧ AnsD w12.heap.size wc.heap.size wc r.length (flatD r) vh ∧ Below w12.heap.size w12 wc)
    case first =>
      go_region_held3 (fun W => Below w12.heap.size w12 W ∧ W.cell? ⟨w.heap.size, 0, none⟩ = some (.int .i64 y.t) ∧ W.cell? ⟨w.heap.size, 1, none⟩ = some (.int .i64 y.n))
        (first | exact HKp.out _ Kc.out | exact HKp.out _ Kb.out | exact HKp.out _ Ka.out | exact HKp.out _ (below_then Kb.out (low_drew _)) | exact HKp.out _ (below_then Ka.out (low_drew _)) | exact HKp.out _ (low_drew _) | exact HKp.out _ (Below.refl _ _) | (trace_state; done))
        (first
          | (go_at_call 20; refine (toDueS_c a c xs hx2 _ (H.out.below (below_then HB12.out (low_drew _)))).mono ?_; rintro e wa ⟨ga, rfl, hga, hra, hba⟩; have Ka : Hid (Below w12.heap.size w12 wa) := below_then (low_drew _) hba; have Ra : Hid (Row wa ga (flatD xs)) := hra; clear hga hra hba)
          | (go_at_call 17; refine (TD.out _).mono ?_; rintro e wb ⟨rfl, hbb⟩; have Kb : Hid (Below w12.heap.size w12 wb) := below_then Ka.out hbb; have Rb : Hid (Row wb ga (flatD xs)) := Ra.out.below hbb; clear hbb)
          | (go_at_call 23; refine (implHeapPush_c _ _ xs hx2 y _ (Sq.of_row Rb.out)).mono ?_; rintro e wz ⟨kz, vz, rfl, hkz, hansz, hbz⟩; have Kc : Hid (Below w12.heap.size w12 wz) := below_then Kb.out hbz; have Ez : Hid (K = kz) := Bool.eq_iff_iff.2 (HK.out.trans hkz.symm); have Az : Hid (AnsD w12.heap.size wz.heap.size wz (bif kz then dpush xs y else []).length (flatD (bif kz then dpush xs y else [])) vz) := hansz.wide Kb.out.size (Nat.le_refl _); clear hkz hansz hbz))
      all_goals
        go_wp2_with fail
        go_meet
        case rel =>
          have ez := Ez.out
          subst ez
          exact ⟨_, rfl, rfl, by rw [← HR.out]; exact Az.out, Kc.out⟩
    case rest =>
    obtain ⟨vh, rfl, rfl, hans, hb⟩ := hcut
    obtain ⟨w13, hwq⟩ : ∃ u, u = wc := ⟨_, rfl⟩
    subst hwq
    clear HKp TD
    have HD13 : Hid (Row w13 w.heap.size [.int .i64 y.t, .int .i64 y.n]) := HD12.out.below hb
    have HB13 : Hid (Below w.heap.size w w13) := below_then HB12.out hb
    have HAp13 : Hid (AnsD w0.heap.size w2.heap.size w13 r.length (flatD r) vp) := HAp12.out.below hb
    have HAg13 : Hid (AnsD w4.heap.size w5.heap.size w13 r.length (upFrom 1 (2 * r.length)) vg) := HAg12.out.below hb
    have HAh13 : Hid (AnsD w12.heap.size w13.heap.size w13 r.length (flatD r) vh) := hans
    have hqh : w12.heap.size ≤ w13.heap.size := hb.size
    clear hb hans HD12 HB12 HAp12 HAg12
    go_wp2_with fail
    refine (eq_ansD HAh13.out HAp13.out hrl).mono ?_
    rintro e w14 ⟨rfl, hb⟩
    have HD14 : Hid (Row w14 w.heap.size [.int .i64 y.t, .int .i64 y.n]) := HD13.out.below hb
    have HB14 : Hid (Below w.heap.size w w14) := below_then HB13.out hb
    have HAp14 : Hid (AnsD w0.heap.size w2.heap.size w14 r.length (flatD r) vp) := HAp13.out.below hb
    have HAg14 : Hid (AnsD w4.heap.size w5.heap.size w14 r.length (upFrom 1 (2 * r.length)) vg) := HAg13.out.below hb
    have HAh14 : Hid (AnsD w12.heap.size w13.heap.size w14 r.length (flatD r) vh) := HAh13.out.below hb
    have hsw14 : w13.heap.size ≤ w14.heap.size := hb.size
    clear hb HD13 HB13 HAp13 HAg13 HAh13
    go_wp2_with fail
    refine (HH.out _ HAg14.out).mono ?_
    rintro e w15 ⟨rfl, hb⟩
    have HD15 : Hid (Row w15 w.heap.size [.int .i64 y.t, .int .i64 y.n]) := HD14.out.below hb
    have HB15 : Hid (Below w.heap.size w w15) := below_then HB14.out hb
    have HAp15 : Hid (AnsD w0.heap.size w2.heap.size w15 r.length (flatD r) vp) := HAp14.out.below hb
    have HAg15 : Hid (AnsD w4.heap.size w5.heap.size w15 r.length (upFrom 1 (2 * r.length)) vg) := HAg14.out.below hb
    have HAh15 : Hid (AnsD w12.heap.size w13.heap.size w15 r.length (flatD r) vh) := HAh14.out.below hb
    have hsw15 : w14.heap.size ≤ w15.heap.size := hb.size
    clear hb HD14 HB14 HAp14 HAg14 HAh14
    go_wp2_with fail
    go_ret
    exact ⟨rfl, HB15.out⟩

set_option maxRecDepth 100000 in
theorem lifted (os : Os) (started : os.Started) (H : Type) (enc : TypeId × Value → H) :
    ReturnsInHanded {} Try.checked os 6 .any (Rows.fnExactHeapPushSpec.pre6 enc Try.prog Try.f6 Rows.fnExactHeapPushRow.domain false) (Rows.fnExactHeapPushSpec.post enc Try.prog Try.f6 false true false false) := by
  refine returnsInHanded_of_change (C := Try.checked) own started (by kernel_rfl) Try.func6
    (ChangeSpec.witness6 (enc := enc) (C := Try.checked) false ⟨#[], #[.slice none 0 0, .agg #[.int .i64 0, .int .i64 0]], []⟩ 8 (by kernel_rfl) (by kernel_rfl) (by kernel_rfl) (by kernel_rfl)) ?_
  intro W base args ds gs before hval0 hW _ _
  have hval : ∀ (j : Nat) t v, Try.f6.params[j]? = some t → args[j]? = some v → Value.okWide Try.prog W .any base t v := hval0
  have hW' := hW
  obtain ⟨p, q, hA0, hV, rfl, _, _⟩ := hW
  have hA : DataW.TrodAll enc Try.prog W 0 (fun _ => true) true Try.f6.params.toList args.toList ds p := hA0
  rw [Try.params6] at hA hval
  obtain ⟨v0, v1, d0, d1, p0, p1, rfl, rfl, rfl, h0, h1⟩ := trodAll_two hA
  obtain ⟨rfl, rfl⟩ := trodVars_none hV
  have h1' := h0
  obtain ⟨fuel, hfuel⟩ := h1'
  obtain ⟨f1, n1, m1, rfl⟩ := okWide_slice Try.underlying36 (hval 0 36 v0 rfl rfl)
  obtain ⟨f, xs, m, hxv, hx, hs2⟩ := dues_opened (v := .slice f1 n1 m1) hfuel
  obtain ⟨rfl, rfl, rfl⟩ : f1 = f ∧ n1 = xs.length ∧ m1 = m := by simpa using hxv
  obtain ⟨y, rfl⟩ := due_opened (hval 1 33 v1 rfl rfl) h1
  clear hA0 hval0
  simp only [List.append_nil] at hW'
  refine (walk f1 m1 xs hx y W hs2).mono fun e W' ⟨he, hg⟩ => ?_
  subst he
  have hlt : ∀ x ∈ p0 ++ p1, x.block < W.heap.size := fun x hx => by simpa using hW'.lt x hx
  have harg := Below.trod laidOutAll (by kernel_rfl) (of_decide_eq_true (by kernel_rfl)) h0 hg (fun x hx => hlt x (List.mem_append_left _ hx))
  have harg1 := Below.trod laidOutAll (by kernel_rfl) (of_decide_eq_true (by kernel_rfl)) h1 hg (fun x hx => hlt x (List.mem_append_right _ hx))
  exact ⟨_, rfl, _, _, _, [], _, [], hW', trodAll_mk1 (shut_bool Try.underlying4 _), trodAll_mk2 harg harg1, rfl, hg.frame _, fun h => by cases h⟩
end LawHeapPush

/-- For every list of dues and every due: the law returns true, and the list reads as it did. -/
theorem fnExactHeapPush_holds : Rows.FnExactHeapPushSaid :=
  OpenClaim.holds_of_wide 6 Try.f6 rfl rfl rfl rfl rfl rfl rfl ⟨rfl, rfl, rfl, rfl, rfl⟩ rfl rfl rfl rfl rfl (by kernel_rfl) Try.func6 (by kernel_rfl)
    (of_decide_eq_true (by kernel_rfl)) (by unfold Func.isWrapper; rw [if_neg (of_decide_eq_false (by kernel_rfl))]; exact ⟨rfl, rfl⟩)
    (fun os started H enc _ => LawHeapPush.lifted os started H enc)
#print axioms fnExactHeapPush_holds
end Go.Proofs.Ytdmmjggkdkmeaaa
