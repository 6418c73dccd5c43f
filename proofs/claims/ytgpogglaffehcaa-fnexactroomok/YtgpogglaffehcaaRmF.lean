/- Whether a room is right: the specification and the program. -/
import Derived.Test.YtgpogglaffehcaaRmE
import Derived.Test.YtgpogglaffehcaaPrfB
import Derived.Test.YtgpogglaffehcaaLvC
import Derived.Test.YtgpogglaffehcaaTopH
import Derived.Deep.DeepCutAuto
namespace Go.Proofs.Ytgpogglaffehcaa
open Go.ChangeShapes Go.WideShapes Go.ChangeAt Go.RowKit

/-- A right room. -/
structure ROk (R : Rm) : Prop where
  topo : TopOk R.ps R.ns
  ups : R.up.length = R.ns.length
  profs : R.pss.length = R.ns.length
  lics : POk R.lic
  each : ∀ ns ∈ R.pss, POk ns

set_option maxHeartbeats 4000000 in
theorem implRoomOk_c (A : Ra) (R : Rm) (hs : RSmall R) (w : World) (h : RAt w A R) :
    Calls Try.prog 41 #[.agg #[.slice A.aP R.ps.length A.cP, .slice A.aN R.ns.length A.cN, .slice A.aU R.up.length A.cU, .slice A.aQ R.pss.length A.cQ, .slice A.aL R.lic.length A.cL]] w (Says w (ROk R)) := by
  have H : Hid (RAt w A R) := h
  have HM : Hid (RSmall R) := hs
  have hq := hs.q
  have hu := hs.u
  have hn := hs.n
  clear h hs
  go_enter Try.func41, Try.ntmps41
  go_wp2_with fail
  have HA0 : Hid (Row (w.alloc (.cells #[.slice A.aP R.ps.length A.cP, .slice A.aN R.ns.length A.cN, .slice A.aU R.up.length A.cU, .slice A.aQ R.pss.length A.cQ, .slice A.aL R.lic.length A.cL] 79)) w.heap.size [.slice A.aP R.ps.length A.cP, .slice A.aN R.ns.length A.cN, .slice A.aU R.up.length A.cU, .slice A.aQ R.pss.length A.cQ, .slice A.aL R.lic.length A.cL]) := row_fresh w [.slice A.aP R.ps.length A.cP, .slice A.aN R.ns.length A.cN, .slice A.aU R.up.length A.cU, .slice A.aQ R.pss.length A.cQ, .slice A.aL R.lic.length A.cL] 79
  have HB0 : Hid (Below w.heap.size w (w.alloc (.cells #[.slice A.aP R.ps.length A.cP, .slice A.aN R.ns.length A.cN, .slice A.aU R.up.length A.cU, .slice A.aQ R.pss.length A.cQ, .slice A.aL R.lic.length A.cL] 79))) := low_alloc _ _
  generalize w.alloc (.cells #[.slice A.aP R.ps.length A.cP, .slice A.aN R.ns.length A.cN, .slice A.aU R.up.length A.cU, .slice A.aQ R.pss.length A.cQ, .slice A.aL R.lic.length A.cL] 79) = w0 at *
  refine (implTopoOk_c A.aP A.aN A.cP A.cN R.ps R.ns HM.out.n _ (H.out.sP.below HB0.out) (H.out.sN.below HB0.out)).mono ?_
  rintro e w1 ⟨k, rfl, hk, hb⟩
  have HA1 : Hid (Row w1 w.heap.size [.slice A.aP R.ps.length A.cP, .slice A.aN R.ns.length A.cN, .slice A.aU R.up.length A.cU, .slice A.aQ R.pss.length A.cQ, .slice A.aL R.lic.length A.cL]) := HA0.out.below hb
  have HB1 : Hid (Below w.heap.size w w1) := below_then HB0.out hb
  have HK : Hid (k = true ↔ TopOk R.ps R.ns) := hk
  clear hb hk HA0 HB0
  have a1 := HA1.out.cell 1 _ rfl
  have a2 := HA1.out.cell 2 _ rfl
  have a3 := HA1.out.cell 3 _ rfl
  have a4 := HA1.out.cell 4 _ rfl
  cases k
  · have HN : Hid (¬ ROk R) := fun h => by have := HK.out.2 h.topo; cases this
    clear HK
    go_wp2_with fail
    go_ret
    exact says_no rfl HN.out HB1.out
  · have HT : Hid (TopOk R.ps R.ns) := HK.out.1 rfl
    clear HK
    by_cases hul : R.up.length = R.ns.length
    · have HU : Hid (R.up.length = R.ns.length) := hul
      have hui : ((R.up.length : Int) == (R.ns.length : Int)) = true := by simp [hul]
      have huj : ((R.up.length : Int) != (R.ns.length : Int)) = false := by simp [hul]
      by_cases hpl : R.pss.length = R.ns.length
      · have HP : Hid (R.pss.length = R.ns.length) := hpl
        have hpi : ((R.pss.length : Int) == (R.ns.length : Int)) = true := by simp [hpl]
        have hpj : ((R.pss.length : Int) != (R.ns.length : Int)) = false := by simp [hpl]
        clear hul hpl
        go_wp2_with fail
        refine (implProfOk_c A.aL A.cL R.lic _ (H.out.sL.below HB1.out)).mono ?_
        rintro e w2 ⟨k, rfl, hk, hb⟩
        have HA2 : Hid (Row w2 w.heap.size [.slice A.aP R.ps.length A.cP, .slice A.aN R.ns.length A.cN, .slice A.aU R.up.length A.cU, .slice A.aQ R.pss.length A.cQ, .slice A.aL R.lic.length A.cL]) := HA1.out.below hb
        have HB2 : Hid (Below w.heap.size w w2) := below_then HB1.out hb
        have HK : Hid (k = true ↔ POk R.lic) := hk
        clear hb hk HA1 HB1 a1 a2 a3 a4 hui huj hpi hpj
        have a3 := HA2.out.cell 3 _ rfl
        cases k
        · have HN : Hid (¬ ROk R) := fun h => by have := HK.out.2 h.lics; cases this
          clear HK
          go_wp2_with fail
          go_ret
          exact says_no rfl HN.out HB2.out
        · have HLi : Hid (POk R.lic) := HK.out.1 rfl
          clear HK
          go_wp2_with fail
          clear a3
          go_loopw [37] (fun i wr => ∃ j : Nat, j ≤ R.pss.length ∧ i = .int .i64 j ∧ (∀ k ns, k < j → R.pss[k]? = some ns → POk ns) ∧ Below w.heap.size w wr) (fun i _ => R.pss.length - (intOf i).toNat)
          case atStart => exact ⟨0, Nat.zero_le _, rfl, fun k ns hk => by omega, HB2.out⟩
          case round =>
            obtain ⟨j, hj, rfl, hall, hb⟩ := hrel
            have HAl : Hid (∀ k ns, k < j → R.pss[k]? = some ns → POk ns) := hall
            have HB : Hid (Below w.heap.size w wr) := hb
            clear hall hb HB2 HA2
            by_cases hlt : j < R.pss.length
            · have hi0 : (0 : Int) ≤ (j : Int) := by omega
              have hi1 : (j : Int) < (R.pss.length : Int) := by omega
              have HE : Hid (R.pss[j]? = some R.pss[j]) := List.getElem?_eq_getElem hlt
              generalize R.pss[j] = ns at HE
              obtain ⟨p, q, c, hp, hpl, hc, hsq⟩ := (H.out.sQ.below HB.out).here j ns HE.out
              rw [hp]
              have HQ : Hid (Sq wr q (flat ns)) := hsq
              clear hsq
              go_wp2_with fail
              refine (implProfOk_c q c ns _ (HQ.out.below (low_alloc _ _))).mono ?_
              rintro e w5 ⟨k, rfl, hk, hb⟩
              have HB5 : Hid (Below w.heap.size w w5) := below_then (behind_alloc HB.out _) hb
              have HK : Hid (k = true ↔ POk ns) := hk
              clear hb hk hc
              cases k
              · have HN : Hid (¬ ROk R) := fun h => by have := HK.out.2 (h.each ns (List.mem_of_getElem? HE.out)); cases this
                clear HK
                go_wp2_with fail
                go_ret
                exact says_no rfl HN.out HB5.out
              · have HAn : Hid (∀ k ms, k < j + 1 → R.pss[k]? = some ms → POk ms) := fun k ms hk hm => by
                  by_cases e : k = j
                  · subst e
                    rw [HE.out] at hm
                    cases hm
                    exact HK.out.1 rfl
                  · exact HAl.out k ms (by omega) hm
                clear HK
                go_wp2_with fail
                exact ⟨⟨j + 1, by omega, by go_num, HAn.out, HB5.out⟩, by simp [intOf]; omega⟩
            · have HY : Hid (ROk R) := ⟨HT.out, HU.out, HP.out, HLi.out, fun ns hns => by
                obtain ⟨i, hi⟩ := List.getElem?_of_mem hns
                exact HAl.out i ns (by have := (List.getElem?_eq_some_iff.1 hi).1; omega) hi⟩
              go_wp2_with fail
              go_ret
              exact says_yes rfl HY.out HB.out
      · have HN : Hid (¬ ROk R) := fun h => hpl h.profs
        have hpi : ((R.pss.length : Int) == (R.ns.length : Int)) = false := by simp; omega
        have hpj : ((R.pss.length : Int) != (R.ns.length : Int)) = true := by simp; omega
        clear hul hpl
        go_wp2_with fail
        go_ret
        exact says_no rfl HN.out HB1.out
    · have HN : Hid (¬ ROk R) := fun h => hul h.ups
      have hui : ((R.up.length : Int) == (R.ns.length : Int)) = false := by simp; omega
      have huj : ((R.up.length : Int) != (R.ns.length : Int)) = true := by simp; omega
      clear hul
      go_wp2_with fail
      go_ret
      exact says_no rfl HN.out HB1.out
set_option maxHeartbeats 4000000 in
theorem specRoomOk_c (A : Ra) (R : Rm) (hs : RSmall R) (w : World) (h : RAt w A R) :
    Calls Try.prog 39 #[.agg #[.slice A.aP R.ps.length A.cP, .slice A.aN R.ns.length A.cN, .slice A.aU R.up.length A.cU, .slice A.aQ R.pss.length A.cQ, .slice A.aL R.lic.length A.cL]] w (Says w (ROk R)) := by
  have H : Hid (RAt w A R) := h
  have HM : Hid (RSmall R) := hs
  have hq := hs.q
  have hu := hs.u
  have hn := hs.n
  clear h hs
  go_enter Try.func39, Try.ntmps39
  go_wp2_with fail
  have HA0 : Hid (Row (w.alloc (.cells #[.slice A.aP R.ps.length A.cP, .slice A.aN R.ns.length A.cN, .slice A.aU R.up.length A.cU, .slice A.aQ R.pss.length A.cQ, .slice A.aL R.lic.length A.cL] 79)) w.heap.size [.slice A.aP R.ps.length A.cP, .slice A.aN R.ns.length A.cN, .slice A.aU R.up.length A.cU, .slice A.aQ R.pss.length A.cQ, .slice A.aL R.lic.length A.cL]) := row_fresh w [.slice A.aP R.ps.length A.cP, .slice A.aN R.ns.length A.cN, .slice A.aU R.up.length A.cU, .slice A.aQ R.pss.length A.cQ, .slice A.aL R.lic.length A.cL] 79
  have HB0 : Hid (Below w.heap.size w (w.alloc (.cells #[.slice A.aP R.ps.length A.cP, .slice A.aN R.ns.length A.cN, .slice A.aU R.up.length A.cU, .slice A.aQ R.pss.length A.cQ, .slice A.aL R.lic.length A.cL] 79))) := low_alloc _ _
  generalize w.alloc (.cells #[.slice A.aP R.ps.length A.cP, .slice A.aN R.ns.length A.cN, .slice A.aU R.up.length A.cU, .slice A.aQ R.pss.length A.cQ, .slice A.aL R.lic.length A.cL] 79) = w0 at *
  refine (specTopoOk_c A.aP A.aN A.cP A.cN R.ps R.ns HM.out.p HM.out.n _ (H.out.sP.below HB0.out) (H.out.sN.below HB0.out)).mono ?_
  rintro e w1 ⟨k, rfl, hk, hb⟩
  have HA1 : Hid (Row w1 w.heap.size [.slice A.aP R.ps.length A.cP, .slice A.aN R.ns.length A.cN, .slice A.aU R.up.length A.cU, .slice A.aQ R.pss.length A.cQ, .slice A.aL R.lic.length A.cL]) := HA0.out.below hb
  have HB1 : Hid (Below w.heap.size w w1) := below_then HB0.out hb
  have HK : Hid (k = true ↔ TopOk R.ps R.ns) := hk
  clear hb hk HA0 HB0
  have a1 := HA1.out.cell 1 _ rfl
  have a2 := HA1.out.cell 2 _ rfl
  have a3 := HA1.out.cell 3 _ rfl
  have a4 := HA1.out.cell 4 _ rfl
  cases k
  · have HN : Hid (¬ ROk R) := fun h => by have := HK.out.2 h.topo; cases this
    clear HK
    go_wp2_with fail
    go_ret
    exact says_no rfl HN.out HB1.out
  · have HT : Hid (TopOk R.ps R.ns) := HK.out.1 rfl
    clear HK
    by_cases hul : R.up.length = R.ns.length
    · have HU : Hid (R.up.length = R.ns.length) := hul
      have hui : ((R.up.length : Int) == (R.ns.length : Int)) = true := by simp [hul]
      have huj : ((R.up.length : Int) != (R.ns.length : Int)) = false := by simp [hul]
      by_cases hpl : R.pss.length = R.ns.length
      · have HP : Hid (R.pss.length = R.ns.length) := hpl
        have hpi : ((R.pss.length : Int) == (R.ns.length : Int)) = true := by simp [hpl]
        have hpj : ((R.pss.length : Int) != (R.ns.length : Int)) = false := by simp [hpl]
        clear hul hpl
        go_wp2_with fail
        refine (specProfOk_c A.aL A.cL R.lic _ (H.out.sL.below HB1.out)).mono ?_
        rintro e w2 ⟨k, rfl, hk, hb⟩
        have HA2 : Hid (Row w2 w.heap.size [.slice A.aP R.ps.length A.cP, .slice A.aN R.ns.length A.cN, .slice A.aU R.up.length A.cU, .slice A.aQ R.pss.length A.cQ, .slice A.aL R.lic.length A.cL]) := HA1.out.below hb
        have HB2 : Hid (Below w.heap.size w w2) := below_then HB1.out hb
        have HK : Hid (k = true ↔ POk R.lic) := hk
        clear hb hk HA1 HB1 a1 a2 a3 a4 hui huj hpi hpj
        have a3 := HA2.out.cell 3 _ rfl
        cases k
        · have HN : Hid (¬ ROk R) := fun h => by have := HK.out.2 h.lics; cases this
          clear HK
          go_wp2_with fail
          go_ret
          exact says_no rfl HN.out HB2.out
        · have HLi : Hid (POk R.lic) := HK.out.1 rfl
          clear HK
          go_wp2_with fail
          clear a3
          go_loopw [38] (fun i wr => ∃ j : Nat, j ≤ R.pss.length ∧ i = .int .i64 j ∧ (∀ k ns, k < j → R.pss[k]? = some ns → POk ns) ∧ Below w.heap.size w wr) (fun i _ => R.pss.length - (intOf i).toNat)
          case atStart => exact ⟨0, Nat.zero_le _, rfl, fun k ns hk => by omega, HB2.out⟩
          case round =>
            obtain ⟨j, hj, rfl, hall, hb⟩ := hrel
            have HAl : Hid (∀ k ns, k < j → R.pss[k]? = some ns → POk ns) := hall
            have HB : Hid (Below w.heap.size w wr) := hb
            clear hall hb HB2 HA2
            by_cases hlt : j < R.pss.length
            · have hi0 : (0 : Int) ≤ (j : Int) := by omega
              have hi1 : (j : Int) < (R.pss.length : Int) := by omega
              have HE : Hid (R.pss[j]? = some R.pss[j]) := List.getElem?_eq_getElem hlt
              generalize R.pss[j] = ns at HE
              obtain ⟨p, q, c, hp, hpl, hc, hsq⟩ := (H.out.sQ.below HB.out).here j ns HE.out
              rw [hp]
              have HQ : Hid (Sq wr q (flat ns)) := hsq
              clear hsq
              go_wp2_with fail
              refine (specProfOk_c q c ns _ (HQ.out.below (low_alloc _ _))).mono ?_
              rintro e w5 ⟨k, rfl, hk, hb⟩
              have HB5 : Hid (Below w.heap.size w w5) := below_then (behind_alloc HB.out _) hb
              have HK : Hid (k = true ↔ POk ns) := hk
              clear hb hk hc
              cases k
              · have HN : Hid (¬ ROk R) := fun h => by have := HK.out.2 (h.each ns (List.mem_of_getElem? HE.out)); cases this
                clear HK
                go_wp2_with fail
                go_ret
                exact says_no rfl HN.out HB5.out
              · have HAn : Hid (∀ k ms, k < j + 1 → R.pss[k]? = some ms → POk ms) := fun k ms hk hm => by
                  by_cases e : k = j
                  · subst e
                    rw [HE.out] at hm
                    cases hm
                    exact HK.out.1 rfl
                  · exact HAl.out k ms (by omega) hm
                clear HK
                go_wp2_with fail
                exact ⟨⟨j + 1, by omega, by go_num, HAn.out, HB5.out⟩, by simp [intOf]; omega⟩
            · have HY : Hid (ROk R) := ⟨HT.out, HU.out, HP.out, HLi.out, fun ns hns => by
                obtain ⟨i, hi⟩ := List.getElem?_of_mem hns
                exact HAl.out i ns (by have := (List.getElem?_eq_some_iff.1 hi).1; omega) hi⟩
              go_wp2_with fail
              go_ret
              exact says_yes rfl HY.out HB.out
      · have HN : Hid (¬ ROk R) := fun h => hpl h.profs
        have hpi : ((R.pss.length : Int) == (R.ns.length : Int)) = false := by simp; omega
        have hpj : ((R.pss.length : Int) != (R.ns.length : Int)) = true := by simp; omega
        clear hul hpl
        go_wp2_with fail
        go_ret
        exact says_no rfl HN.out HB1.out
    · have HN : Hid (¬ ROk R) := fun h => hul h.ups
      have hui : ((R.up.length : Int) == (R.ns.length : Int)) = false := by simp; omega
      have huj : ((R.up.length : Int) != (R.ns.length : Int)) = true := by simp; omega
      clear hul
      go_wp2_with fail
      go_ret
      exact says_no rfl HN.out HB1.out
end Go.Proofs.Ytgpogglaffehcaa
