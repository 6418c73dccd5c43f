/- The law on the tree: the walk. -/
import Derived.Test.YtcjamjfdkpgjkaaTrL
import Derived.Test.YtcjamjfdkpgjkaaTrD
import Derived.Test.YtcjamjfdkpgjkaaLowD
import Derived.Test.YtcjamjfdkpgjkaaLowB
import Derived.Test.YtcjamjfdkpgjkaaLvC
import Derived.Test.YtcjamjfdkpgjkaaBehA
import Derived.Deep.RegionWith
import Derived.Deep.DeepCutAuto
namespace Go.Proofs.Ytcjamjfdkpgjkaa
open Go.ChangeShapes Go.WideShapes Go.ChangeAt Go.RowKit

set_option maxHeartbeats 4000000 in
set_option maxRecDepth 100000 in
theorem fnTree_walk (a : Option Addr) (n cap : Nat) (w : World) (hc : n ≤ 1048576 → CodeIs w a n) :
    Calls Try.prog 3 #[.slice a n cap] w fun e w' => e = .returned (.bool true) ∧ Below w.heap.size w w' := by
  by_cases hbig : 1048576 < n
  · have hi : (1048576 : Int) < (n : Int) := by omega
    clear hc hbig
    go_enter Try.func3, Try.ntmps3
    go_wp2_with fail
    go_ret
    exact ⟨rfl, Below.refl _ _⟩
  · have H : Hid (CodeIs w a n) := hc (by omega)
    have hi : ¬ (1048576 : Int) < (n : Int) := by omega
    clear hc hbig
    go_enter Try.func3, Try.ntmps3
    go_wp2_with fail
    refine (drawLowest_c a n cap w H.out).mono ?_
    rintro e w1 ⟨aP, aN, aX, cP, cN, cX, ps, ns, xs, rfl, hps, hns, hxs, sP, sN, sX, hb⟩
    have SP1 : Hid (Sq w1 aP (ints ps)) := sP
    have SN1 : Hid (Sq w1 aN (flat ns)) := sN
    have SX1 : Hid (Sq w1 aX (ints xs)) := sX
    have HB1 : Hid (Below w.heap.size w w1) := hb
    clear sP sN sX hb
    go_wp2_with fail
    have HB2 : Hid (Below w.heap.size w (w1.alloc (.cells #[.slice aP ps.length cP, .slice aN ns.length cN] 26))) := behind_alloc HB1.out _
    have SP2 : Hid (Sq (w1.alloc (.cells #[.slice aP ps.length cP, .slice aN ns.length cN] 26)) aP (ints ps)) := SP1.out.below (low_alloc _ _)
    have SN2 : Hid (Sq (w1.alloc (.cells #[.slice aP ps.length cP, .slice aN ns.length cN] 26)) aN (flat ns)) := SN1.out.below (low_alloc _ _)
    have SX2 : Hid (Sq (w1.alloc (.cells #[.slice aP ps.length cP, .slice aN ns.length cN] 26)) aX (ints xs)) := SX1.out.below (low_alloc _ _)
    have HT2 : Hid (Row (w1.alloc (.cells #[.slice aP ps.length cP, .slice aN ns.length cN] 26)) w1.heap.size [.slice aP ps.length cP, .slice aN ns.length cN]) := row_fresh w1 [.slice aP ps.length cP, .slice aN ns.length cN] 26
    generalize w1.alloc (.cells #[.slice aP ps.length cP, .slice aN ns.length cN] 26) = V at HB2 SP2 SN2 SX2 HT2
    generalize w1.heap.size = T at *
    clear SP1 SN1 SX1 HB1
    refine (implLowest_c aP aN aX cP cN cX ps ns xs (by omega) (by omega) _ SP2.out SN2.out SX2.out).mono ?_
    rintro e w3 ⟨rfl, hb⟩
    have HB3 : Hid (Below V.heap.size V w3) := hb
    have t0 := (HT2.out.below hb).cell 0 _ rfl
    have t1 := (HT2.out.below hb).cell 1 _ rfl
    have HSp : Hid (Calls Try.prog 6 #[.agg #[.slice aP ps.length cP, .slice aN ns.length cN], .slice aX xs.length cX] w3 fun e w' => e = .returned (.int .i64 (lowR ps ns xs)) ∧ Below w3.heap.size w3 w') := specLowest_c aP aN aX cP cN cX ps ns xs (by omega) (by omega) (by omega) w3 (SP2.out.below hb) (SN2.out.below hb) (SX2.out.below hb)
    clear hb
    by_cases hlow : lowR ps ns xs < 0
    · have hm1 := low_no hlow
      rw [hm1] at HSp ⊢
      clear hm1 hlow
      go_wp2_with fail
      refine HSp.out.mono ?_
      rintro e w4 ⟨rfl, hb⟩
      have HB4 : Hid (Below V.heap.size V w4) := below_then HB3.out hb
      clear hb t0 t1 HSp HB3
      go_wp2_with fail
      go_ret
      exact ⟨rfl, below_then HB2.out HB4.out⟩
    · obtain ⟨hok, hne, r, hr, hlr, hcov⟩ := low_yes (Int.not_lt.1 hlow)
      have HOk : Hid (NdOk ps ns xs) := hok
      have HCov : Hid (cov ps ns xs r) := hcov
      rw [hlr] at HSp ⊢
      clear hlow hlr hok hcov hne
      go_wp2_with fail
      refine HSp.out.mono ?_
      rintro e w4 ⟨rfl, hb⟩
      have HB4 : Hid (Below V.heap.size V w4) := below_then HB3.out hb
      clear hb t0 t1 HSp HB3
      go_wp2_with fail
      go_loopw [31] (fun i wr => ∃ j : Nat, j ≤ xs.length ∧ i = .int .i64 j ∧ Below V.heap.size V wr) (fun i _ => xs.length - (intOf i).toNat)
      case atStart => exact ⟨0, Nat.zero_le _, rfl, HB4.out⟩
      case round =>
        obtain ⟨j, hj, rfl, hb⟩ := hrel
        have HB5 : Hid (Below V.heap.size V wr) := hb
        clear hb HB4
        by_cases hlt : j < xs.length
        · have hj0 : (0 : Int) ≤ (j : Int) := by omega
          have hj1 : (j : Int) < (xs.length : Int) := by omega
          obtain ⟨p, hp, _, hcell⟩ := (SX2.out.below HB5.out).cell j _ (ints_at xs j hlt)
          subst hp
          obtain ⟨q, nd, l, hx, hq, hql, hnl, hbel, habv⟩ := tree_node HOk.out hr HCov.out (List.getElem_mem hlt)
          rw [hx] at hcell hbel
          have HBel : Hid (decide ((q : Int) ∈ belowR ps ns r) = true) := decide_eq_true hbel
          have HAbv : Hid (decide ((r : Int) ∈ aboveR ps ns l) = true) := decide_eq_true habv
          have HQ : Hid (ns[q]? = some nd) := hq
          have HL : Hid (nd.l = l) := hnl
          clear hx hq hnl hbel habv
          have hq0 : (0 : Int) ≤ (q : Int) := by omega
          have hq1 : (q : Int) < (ns.length : Int) := by omega
          have hbl := belowR_len ps ns r
          have hal := above_len ps ns l
          obtain ⟨pN, hpN, _⟩ := SN2.out.node q hql
          subst hpN
          go_wp2_with fail
          have HD := low_drew wr
          have B6 : Hid (Below V.heap.size V wr.drew) := below_then HB5.out HD
          have t0 := (HT2.out.below HB5.out).cell 0 _ rfl
          have t1 := (HT2.out.below HB5.out).cell 1 _ rfl
          clear HD HB5 hcell
          go_cut [53] (fun u wc => u = .bool false ∧ Below V.heap.size V wc)
          case first =>
            go_region_with (first
              | (go_at_call 8; refine (implBelow_c aP (some pN) cP cN ps ns r (by omega) wr.drew (SP2.out.below B6.out) (SN2.out.below B6.out)).mono ?_; rintro e w7 ⟨v7, rfl, hans, hb⟩; obtain ⟨a7, c7, hv7⟩ := hans.form; rw [ints_len] at hv7; subst hv7; have S7 : Hid (Sq w7 a7 (ints (belowR ps ns r))) := (by exact hans.sq.2); have B7 : Hid (Below V.heap.size V w7) := below_then B6.out hb; clear hans hb)
              | (go_at_call_of 7 (Value.int IntKind.i64 (q : Int)); refine (hasInt_c a7 c7 (belowR ps ns r) q (by omega) w7 S7.out).mono ?_; rintro e w8 ⟨rfl, hb⟩; rw [HBel.out]; have B8 : Hid (Below V.heap.size V w8) := below_then B7.out hb; have u0 := (HT2.out.below B8.out).cell 0 _ rfl; have u1 := (HT2.out.below B8.out).cell 1 _ rfl; have n0 := ((SN2.out.below B8.out).nodeAt HQ.out).1; rw [HL.out] at n0; clear hb)
              | (go_at_call 9; refine (implAbove_c aP (some pN) cP cN ps ns l (by omega) w8 (SP2.out.below B8.out) (SN2.out.below B8.out)).mono ?_; rintro e w9 ⟨v9, rfl, hans, hb⟩; obtain ⟨a9, c9, hv9⟩ := hans.form; rw [ints_len] at hv9; subst hv9; have S9 : Hid (Sq w9 a9 (ints (aboveR ps ns l))) := (by exact hans.sq.2); have B9 : Hid (Below V.heap.size V w9) := below_then B8.out hb; clear hans hb)
              | (go_at_call_of 7 (Value.int IntKind.i64 (r : Int)); refine (hasInt_c a9 c9 (aboveR ps ns l) r (by omega) w9 S9.out).mono ?_; rintro e wa ⟨rfl, hb⟩; rw [HAbv.out]; have Ba : Hid (Below V.heap.size V wa) := below_then B9.out hb; clear hb))
            all_goals
              go_wp2_with fail
              go_meet
              case rel => exact ⟨rfl, Ba.out⟩
          case rest =>
          obtain ⟨rfl, hb⟩ := hcut
          have Bc : Hid (Below V.heap.size V wc) := hb
          clear hb t0 t1 B6
          go_wp2_with fail
          exact ⟨⟨j + 1, by omega, by go_num, Bc.out⟩, by simp [intOf]; omega⟩
        · have t0 := (HT2.out.below HB5.out).cell 0 _ rfl
          have t1 := (HT2.out.below HB5.out).cell 1 _ rfl
          obtain ⟨init, hup, hlev, hil⟩ := tree_up HOk.out.1 hr
          go_wp2_with fail
          refine (implAbove_c aP aN cP cN ps ns r (by omega) wr (SP2.out.below HB5.out) (SN2.out.below HB5.out)).mono ?_
          rintro e w7 ⟨v7, rfl, hans, hb⟩
          rw [hup] at hans
          obtain ⟨a7, c7, hv7⟩ := hans.form
          have S7 : Sq w7 a7 (ints (init ++ [0])) := by subst hv7; exact hans.sq.2
          rw [ints_len, List.length_append, List.length_singleton] at hv7
          subst hv7
          have B7 : Hid (Below V.heap.size V w7) := below_then HB5.out hb
          obtain ⟨p7, hp7, _, hcell⟩ := S7.cell init.length (.int .i64 0) (by rw [ints_get]; simp)
          subst hp7
          have cl := Beh.cell hcell
          have hsome := beh_some w7
          have u0 := Beh.row (HT2.out.below B7.out) 0 _ rfl
          have u1 := Beh.row (HT2.out.below B7.out) 1 _ rfl
          have SP7 : Hid (Sq w7 aP (ints ps)) := SP2.out.below B7.out
          have SN7 : Hid (Sq w7 aN (flat ns)) := SN2.out.below B7.out
          have HL0 : Hid (∀ N : Beh w7, Calls Try.prog 10 #[.agg #[.slice aP ps.length cP, .slice aN ns.length cN], .int .i64 0] N.w fun e w' => e = .returned (.int .i64 (levelR ps ns 0)) ∧ Below N.w.heap.size N.w w') := fun N => implLevel_c aP aN cP cN ps ns 0 (by omega) N.w (SP7.out.below N.low) (SN7.out.below N.low)
          have HLr : Hid (∀ N : Beh w7, Calls Try.prog 10 #[.agg #[.slice aP ps.length cP, .slice aN ns.length cN], .int .i64 (r : Int)] N.w fun e w' => e = .returned (.int .i64 (levelR ps ns r)) ∧ Below N.w.heap.size N.w w') := fun N => implLevel_c aP aN cP cN ps ns r (by omega) N.w (SP7.out.below N.low) (SN7.out.below N.low)
          clear hans hb S7 hcell t0 t1 HB5 hup
          generalize levelR ps ns 0 = L0 at hlev HL0
          generalize levelR ps ns r = Lr at hlev HLr
          generalize init.length = N0 at *
          have hn0 : (0 : Int) ≤ (N0 : Int) := by omega
          have hn1 : (N0 : Int) < (N0 : Int) + 1 := by omega
          have hn2 : decide ((0 : Int) < (N0 : Int) + 1) = true := decide_eq_true (by omega)
          have hw1 : IntKind.i64.wrap (L0 - Lr) = (N0 : Int) := by rw [hlev, IntKind.wrap_i64]; omega
          clear hlev
          go_wp2_with fail
          refine wp_region_beh (by kernel_rfl) (by kernel_rfl) ?_
          repeat (go_big_quiet_step (first | (go_at_call_of 10 (Value.int IntKind.i64 0); exact calls_beh (HL0.out _)) | (go_at_call_of 10 (Value.int IntKind.i64 (r : Int)); exact calls_beh (HLr.out _))))
          refine wpQuiet_nil ?_
          rintro ⟨w8, hb8⟩
          have B8 : Hid (Below V.heap.size V w8) := below_then B7.out hb8
          go_wp2_with fail
          go_ret
          exact ⟨rfl, below_then HB2.out B8.out⟩
end Go.Proofs.Ytcjamjfdkpgjkaa
