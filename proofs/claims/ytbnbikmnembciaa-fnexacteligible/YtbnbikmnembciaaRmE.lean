/- Rooms: counted, held against each other. -/
import Derived.Test.YtbnbikmnembciaaRmD
import Derived.Test.YtbnbikmnembciaaTopD
namespace Go.Proofs.Ytbnbikmnembciaa
open Go.ChangeShapes Go.WideShapes Go.ChangeAt Go.RowKit

theorem szt_yes {n m : Nat} {left : Int} (h1 : left ≤ 1048576) (h : ¬ szT n m left < 0) : n ≤ 1048576 ∧ m ≤ 1048576 ∧ 0 ≤ szT n m left ∧ szT n m left ≤ 1048576 ∧ (n : Int) + m + szT n m left = left := by
  unfold szT at h ⊢
  split at h
  · omega
  · rename_i h2
    rw [if_neg h2]
    split at h
    · omega
    · rename_i h3
      rw [if_neg h3]
      omega
theorem szp_sum {n : Nat} {left : Int} (h1 : left ≤ 1048576) (h : ¬ szP n left < 0) : n ≤ 1048576 ∧ 0 ≤ szP n left ∧ szP n left ≤ 1048576 ∧ (n : Int) + szP n left = left := by
  unfold szP at h ⊢
  split at h
  · omega
  · rename_i h2
    rw [if_neg h2]
    omega

/-- All rows together are few. -/
def RTot (R : Rm) : Prop := R.ps.length + R.ns.length + R.up.length + R.pss.length + (R.pss.map List.length).sum + R.lic.length ≤ 1048576
/-- Rows as they came in. -/
structure RWide (R : Rm) : Prop where
  p : R.ps.length ≤ maxLen
  n : R.ns.length ≤ maxLen
  u : R.up.length ≤ maxLen
  q : R.pss.length ≤ maxLen
  e : ∀ ns ∈ R.pss, ns.length ≤ maxLen
  l : R.lic.length ≤ maxLen

set_option maxHeartbeats 4000000 in
theorem szRoom_c (A : Ra) (R : Rm) (hw : RWide R) (w : World) (h : RAt w A R) :
    Calls Try.prog 4 #[.agg #[.slice A.aP R.ps.length A.cP, .slice A.aN R.ns.length A.cN, .slice A.aU R.up.length A.cU, .slice A.aQ R.pss.length A.cQ, .slice A.aL R.lic.length A.cL], .int .i64 1048576] w fun e w' => ∃ z : Int, e = .returned (.int .i64 z) ∧ (0 ≤ z → RSmall R ∧ RTot R) ∧ Below w.heap.size w w' := by
  have H : Hid (RAt w A R) := h
  have HW : Hid (RWide R) := hw
  clear h hw
  go_enter Try.func4, Try.ntmps4
  go_wp2_with fail
  have HA0 : Hid (Row (w.alloc (.cells #[.slice A.aP R.ps.length A.cP, .slice A.aN R.ns.length A.cN, .slice A.aU R.up.length A.cU, .slice A.aQ R.pss.length A.cQ, .slice A.aL R.lic.length A.cL] 32)) w.heap.size [.slice A.aP R.ps.length A.cP, .slice A.aN R.ns.length A.cN, .slice A.aU R.up.length A.cU, .slice A.aQ R.pss.length A.cQ, .slice A.aL R.lic.length A.cL]) := row_fresh w [.slice A.aP R.ps.length A.cP, .slice A.aN R.ns.length A.cN, .slice A.aU R.up.length A.cU, .slice A.aQ R.pss.length A.cQ, .slice A.aL R.lic.length A.cL] 32
  have HB0 : Hid (Below w.heap.size w (w.alloc (.cells #[.slice A.aP R.ps.length A.cP, .slice A.aN R.ns.length A.cN, .slice A.aU R.up.length A.cU, .slice A.aQ R.pss.length A.cQ, .slice A.aL R.lic.length A.cL] 32))) := low_alloc _ _
  generalize w.alloc (.cells #[.slice A.aP R.ps.length A.cP, .slice A.aN R.ns.length A.cN, .slice A.aU R.up.length A.cU, .slice A.aQ R.pss.length A.cQ, .slice A.aL R.lic.length A.cL] 32) = w0 at *
  refine (szTopo_c A.aP A.aN R.ps.length R.ns.length A.cP A.cN HW.out.p HW.out.n 1048576 (by omega) (by omega) _).mono ?_
  rintro e w1 ⟨rfl, hb⟩
  have HA1 : Hid (Row w1 w.heap.size [.slice A.aP R.ps.length A.cP, .slice A.aN R.ns.length A.cN, .slice A.aU R.up.length A.cU, .slice A.aQ R.pss.length A.cQ, .slice A.aL R.lic.length A.cL]) := HA0.out.below hb
  have HB1 : Hid (Below w.heap.size w w1) := below_then HB0.out hb
  clear hb HA0 HB0
  by_cases z1 : szT R.ps.length R.ns.length 1048576 < 0
  · generalize szT R.ps.length R.ns.length 1048576 = z at *
    go_wp2_with fail
    go_ret
    exact ⟨-1, rfl, fun h => absurd h (by decide), HB1.out⟩
  · have Y1 := szt_yes (Int.le_refl _) z1
    generalize szT R.ps.length R.ns.length 1048576 = x1 at *
    have a2 := HA1.out.cell 2 _ rfl
    go_wp2_with fail
    refine (szBoolS_c A.aU R.up.length A.cU HW.out.u x1 Y1.2.2.1 Y1.2.2.2.1 _).mono ?_
    rintro e w2 ⟨rfl, rfl⟩
    clear a2
    by_cases z2 : szP R.up.length x1 < 0
    · generalize szP R.up.length x1 = z at *
      go_wp2_with fail
      go_ret
      exact ⟨-1, rfl, fun h => absurd h (by decide), HB1.out⟩
    · have Y2 := szp_sum Y1.2.2.2.1 z2
      generalize szP R.up.length x1 = x2 at *
      have a3 := HA1.out.cell 3 _ rfl
      go_wp2_with fail
      refine (szProfS_c A.aQ A.cQ R.pss HW.out.q HW.out.e x2 Y2.2.1 Y2.2.2.1 _ (H.out.sQ.below HB1.out)).mono ?_
      rintro e w3 ⟨rfl, hb⟩
      have HA3 : Hid (Row w3 w.heap.size [.slice A.aP R.ps.length A.cP, .slice A.aN R.ns.length A.cN, .slice A.aU R.up.length A.cU, .slice A.aQ R.pss.length A.cQ, .slice A.aL R.lic.length A.cL]) := HA1.out.below hb
      have HB3 : Hid (Below w.heap.size w w3) := below_then HB1.out hb
      clear hb a3 HA1 HB1
      by_cases z3 : (if szP R.pss.length x2 < 0 then -1 else szQ (R.pss.map List.length) (szP R.pss.length x2)) < 0
      · generalize (if szP R.pss.length x2 < 0 then -1 else szQ (R.pss.map List.length) (szP R.pss.length x2)) = z at *
        go_wp2_with fail
        go_ret
        exact ⟨-1, rfl, fun h => absurd h (by decide), HB3.out⟩
      · have z4 : ¬ szP R.pss.length x2 < 0 := fun h => by rw [if_pos h] at z3; exact z3 (by decide)
        have Y4 := szp_sum Y2.2.2.1 z4
        rw [if_neg z4] at z3 ⊢
        have Y5 := szQ_yes (R.pss.map List.length) _ Y4.2.1 Y4.2.2.1 z3
        have Y6 := szQ_le (R.pss.map List.length) _ Y4.2.1 Y4.2.2.1
        generalize szP R.pss.length x2 = x3 at *
        generalize szQ (R.pss.map List.length) x3 = x4 at *
        have a4 := HA3.out.cell 4 _ rfl
        go_wp2_with fail
        refine (szProf_c A.aL R.lic.length A.cL HW.out.l x4 (by omega) Y6.1 _).mono ?_
        rintro e w5 ⟨rfl, hb⟩
        have HB5 : Hid (Below w.heap.size w w5) := below_then HB3.out hb
        clear hb a4
        by_cases z5 : szP R.lic.length x4 < 0
        · generalize szP R.lic.length x4 = z at *
          go_wp2_with fail
          go_ret
          exact ⟨-1, rfl, fun h => absurd h (by decide), HB5.out⟩
        · have Y7 := szp_sum Y6.1 z5
          generalize szP R.lic.length x4 = x5 at *
          have HF : Hid (RSmall R ∧ RTot R) := by
            refine ⟨⟨Y1.1, Y1.2.1, Y2.1, Y4.1, fun ns hns => Y5.1 _ (List.mem_map.2 ⟨ns, hns, rfl⟩), Y7.1⟩, ?_⟩
            have e1 := Y1.2.2.2.2
            have e2 := Y2.2.2.2
            have e4 := Y4.2.2.2
            have e5 := Y5.2
            have e7 := Y7.2.2.2
            have e8 := Y7.2.1
            show _ ≤ _
            omega
          clear Y1 Y2 Y4 Y5 Y6 Y7 z1 z2 z3 z4
          go_wp2_with fail
          go_ret
          exact ⟨x5, rfl, fun _ => HF.out, HB5.out⟩

set_option maxHeartbeats 4000000 in
theorem eqRoom_c (A A' : Ra) (R : Rm) (hs : RSmall R) (w : World) (h : RAt w A R) (h' : RAt w A' R) :
    Calls Try.prog 10 #[.agg #[.slice A.aP R.ps.length A.cP, .slice A.aN R.ns.length A.cN, .slice A.aU R.up.length A.cU, .slice A.aQ R.pss.length A.cQ, .slice A.aL R.lic.length A.cL], .agg #[.slice A'.aP R.ps.length A'.cP, .slice A'.aN R.ns.length A'.cN, .slice A'.aU R.up.length A'.cU, .slice A'.aQ R.pss.length A'.cQ, .slice A'.aL R.lic.length A'.cL]] w fun e w' => e = .returned (.bool true) ∧ Below w.heap.size w w' := by
  have H : Hid (RAt w A R) := h
  have H' : Hid (RAt w A' R) := h'
  have HM : Hid (RSmall R) := hs
  clear h h' hs
  go_enter Try.func10, Try.ntmps10
  go_wp2_with fail
  generalize hV : (w.alloc (.cells #[.slice A.aP R.ps.length A.cP, .slice A.aN R.ns.length A.cN, .slice A.aU R.up.length A.cU, .slice A.aQ R.pss.length A.cQ, .slice A.aL R.lic.length A.cL] 45)).alloc (.cells #[.slice A'.aP R.ps.length A'.cP, .slice A'.aN R.ns.length A'.cN, .slice A'.aU R.up.length A'.cU, .slice A'.aQ R.pss.length A'.cQ, .slice A'.aL R.lic.length A'.cL] 45) = V
  have HA0 : Hid (Row V w.heap.size [.slice A.aP R.ps.length A.cP, .slice A.aN R.ns.length A.cN, .slice A.aU R.up.length A.cU, .slice A.aQ R.pss.length A.cQ, .slice A.aL R.lic.length A.cL]) := by subst hV; exact (row_fresh w [.slice A.aP R.ps.length A.cP, .slice A.aN R.ns.length A.cN, .slice A.aU R.up.length A.cU, .slice A.aQ R.pss.length A.cQ, .slice A.aL R.lic.length A.cL] 45).below (low_alloc _ _)
  have HD0 : Hid (Row V (w.heap.size + 1) [.slice A'.aP R.ps.length A'.cP, .slice A'.aN R.ns.length A'.cN, .slice A'.aU R.up.length A'.cU, .slice A'.aQ R.pss.length A'.cQ, .slice A'.aL R.lic.length A'.cL]) := by
    subst hV
    have h := row_fresh (w.alloc (.cells #[.slice A.aP R.ps.length A.cP, .slice A.aN R.ns.length A.cN, .slice A.aU R.up.length A.cU, .slice A.aQ R.pss.length A.cQ, .slice A.aL R.lic.length A.cL] 45)) [.slice A'.aP R.ps.length A'.cP, .slice A'.aN R.ns.length A'.cN, .slice A'.aU R.up.length A'.cU, .slice A'.aQ R.pss.length A'.cQ, .slice A'.aL R.lic.length A'.cL] 45
    rw [show (w.alloc (.cells #[.slice A.aP R.ps.length A.cP, .slice A.aN R.ns.length A.cN, .slice A.aU R.up.length A.cU, .slice A.aQ R.pss.length A.cQ, .slice A.aL R.lic.length A.cL] 45)).heap.size = w.heap.size + 1 by simp [go_sem]] at h
    exact h
  have HB0 : Hid (Below w.heap.size w V) := by subst hV; exact behind_alloc (low_alloc _ _) _
  clear hV
  go_wp2_with fail
  refine (eqTopo_c _ _ _ _ _ _ _ _ R.ps R.ps R.ns R.ns HM.out.p HM.out.n _ (H.out.sP.below HB0.out) (H.out.sN.below HB0.out) (H'.out.sP.below HB0.out) (H'.out.sN.below HB0.out)).mono ?_
  rintro e w1 ⟨rfl, hb⟩
  rw [decide_eq_true rfl, decide_eq_true rfl]
  have HA1 : Hid (Row w1 w.heap.size [.slice A.aP R.ps.length A.cP, .slice A.aN R.ns.length A.cN, .slice A.aU R.up.length A.cU, .slice A.aQ R.pss.length A.cQ, .slice A.aL R.lic.length A.cL]) := HA0.out.below hb
  have HD1 : Hid (Row w1 (w.heap.size + 1) [.slice A'.aP R.ps.length A'.cP, .slice A'.aN R.ns.length A'.cN, .slice A'.aU R.up.length A'.cU, .slice A'.aQ R.pss.length A'.cQ, .slice A'.aL R.lic.length A'.cL]) := HD0.out.below hb
  have HB1 : Hid (Below w.heap.size w w1) := below_then HB0.out hb
  clear hb HA0 HD0 HB0
  have a2 := HA1.out.cell 2 _ rfl
  have d2 := HD1.out.cell 2 _ rfl
  go_wp2_with fail
  refine (eqBoolS_c _ _ _ _ R.up HM.out.u _ (H.out.sU.below HB1.out) (H'.out.sU.below HB1.out)).mono ?_
  rintro e w2 ⟨rfl, hb⟩
  clear a2 d2
  have HA2 : Hid (Row w2 w.heap.size [.slice A.aP R.ps.length A.cP, .slice A.aN R.ns.length A.cN, .slice A.aU R.up.length A.cU, .slice A.aQ R.pss.length A.cQ, .slice A.aL R.lic.length A.cL]) := HA1.out.below hb
  have HD2 : Hid (Row w2 (w.heap.size + 1) [.slice A'.aP R.ps.length A'.cP, .slice A'.aN R.ns.length A'.cN, .slice A'.aU R.up.length A'.cU, .slice A'.aQ R.pss.length A'.cQ, .slice A'.aL R.lic.length A'.cL]) := HD1.out.below hb
  have HB2 : Hid (Below w.heap.size w w2) := below_then HB1.out hb
  clear hb HA1 HD1 HB1
  have a3 := HA2.out.cell 3 _ rfl
  have d3 := HD2.out.cell 3 _ rfl
  go_wp2_with fail
  refine (eqProfS_c _ _ _ _ R.pss HM.out.q HM.out.e _ (H.out.sQ.below HB2.out) (H'.out.sQ.below HB2.out)).mono ?_
  rintro e w3 ⟨rfl, hb⟩
  clear a3 d3
  have HA3 : Hid (Row w3 w.heap.size [.slice A.aP R.ps.length A.cP, .slice A.aN R.ns.length A.cN, .slice A.aU R.up.length A.cU, .slice A.aQ R.pss.length A.cQ, .slice A.aL R.lic.length A.cL]) := HA2.out.below hb
  have HD3 : Hid (Row w3 (w.heap.size + 1) [.slice A'.aP R.ps.length A'.cP, .slice A'.aN R.ns.length A'.cN, .slice A'.aU R.up.length A'.cU, .slice A'.aQ R.pss.length A'.cQ, .slice A'.aL R.lic.length A'.cL]) := HD2.out.below hb
  have HB3 : Hid (Below w.heap.size w w3) := below_then HB2.out hb
  clear hb HA2 HD2 HB2
  have a4 := HA3.out.cell 4 _ rfl
  have d4 := HD3.out.cell 4 _ rfl
  go_wp2_with fail
  refine (eqProf_c _ _ _ _ R.lic R.lic HM.out.l _ (H.out.sL.below HB3.out) (H'.out.sL.below HB3.out)).mono ?_
  rintro e w4 ⟨rfl, hb⟩
  rw [decide_eq_true rfl]
  clear a4 d4
  have HA4 : Hid (Row w4 w.heap.size [.slice A.aP R.ps.length A.cP, .slice A.aN R.ns.length A.cN, .slice A.aU R.up.length A.cU, .slice A.aQ R.pss.length A.cQ, .slice A.aL R.lic.length A.cL]) := HA3.out.below hb
  have HD4 : Hid (Row w4 (w.heap.size + 1) [.slice A'.aP R.ps.length A'.cP, .slice A'.aN R.ns.length A'.cN, .slice A'.aU R.up.length A'.cU, .slice A'.aQ R.pss.length A'.cQ, .slice A'.aL R.lic.length A'.cL]) := HD3.out.below hb
  have HB4 : Hid (Below w.heap.size w w4) := below_then HB3.out hb
  clear hb HA3 HD3 HB3
  go_wp2_with fail
  go_ret
  exact ⟨rfl, HB4.out⟩
end Go.Proofs.Ytbnbikmnembciaa
