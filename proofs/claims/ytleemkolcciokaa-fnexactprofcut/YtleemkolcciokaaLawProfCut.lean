/- FnExactProfCut: for every profile the program's ProfCut answers as the specification's, and its answer owns its memory; no condition. -/
import Derived.Test.YtleemkolcciokaaPCutC
import Derived.Deep.DeepCutAuto
import Derived.Deep.RegionWith
import Derived.Test.YtleemkolcciokaaPtP
import Derived.ProofKit
import Derived.OpenShut
namespace Go.Proofs.Ytleemkolcciokaa
namespace LawProfCut
open Go.ChangeShapes Go.WideShapes Go.ChangeAt Go.RowKit Go.Joins

set_option maxHeartbeats 8000000 in
theorem walk (b : Option Addr) (d : Nat) (ns : List Nd) (t : Int) (hn : ns.length ≤ maxLen) (w : World) (h' : Sq w b (flat ns)) :
    Calls Try.prog 12 #[.agg #[.slice b ns.length d], .int .i64 t] w fun e w' => e = .returned (.bool true) ∧ Below w.heap.size w w' := by
  have H' : Hid (Sq w b (flat ns)) := h'
  have Hn : Hid (ns.length ≤ maxLen) := hn
  have HCS : Hid (∀ (a' : Option Addr) (c' : Nat) (W : World), Sq W a' (flat ns) → Calls Try.prog 42 #[.agg #[.slice a' ns.length c'], .int .i64 t] W (RetQ W (cutR ns t))) := fun a' c' W hs => specProfCut_c a' c' ns t W hs
  have HCI : Hid (∀ (a' : Option Addr) (W : World), Sq W a' (flat ns) → Calls Try.prog 28 #[.agg #[.slice a' ns.length ns.length], .int .i64 t] W (RetQ W (cutR ns t))) := fun a' W hs => implProfCut_c a' ns.length ns t (Nat.le_refl _) W hs
  have hrl : (cutR ns t).length ≤ 1048576 := by have := cut_len ns t; omega
  generalize cutR ns t = r at HCS HCI hrl
  clear h' hn
  go_enter Try.func12, Try.ntmps12
  go_wp2_with fail
  generalize hV : w.alloc (.cells #[.slice b ns.length d] 51) = V
  have HA : Hid (Row V w.heap.size [.slice b ns.length d]) := by subst hV; exact row_fresh w [.slice b ns.length d] 51
  have HV : Hid (Below w.heap.size w V) := by subst hV; exact low_alloc _ _
  have HS0 : Hid (Sq V b (flat ns)) := by subst hV; exact H'.out.below (low_alloc _ _)
  clear hV H'
  refine (szProf_c b ns.length d Hn.out 1048576 (by omega) (by omega) V).mono ?_
  rintro e w1 ⟨rfl, hb⟩
  have B1 : Hid (Below V.heap.size V w1) := hb
  have t0 := (HA.out.below hb).cell 0 _ rfl
  clear hb
  by_cases hz : szP ns.length 1048576 < 0
  · generalize szP ns.length 1048576 = z at hz
    go_wp2_with fail
    go_ret
    exact ⟨rfl, below_then HV.out B1.out⟩
  · have hn := (szp_yes (Int.le_refl _) hz).1
    generalize szP ns.length 1048576 = z at hz
    go_wp2_with fail
    refine (toProf_c b d ns hn _ (HS0.out.below B1.out)).mono ?_
    rintro e w2 ⟨h, rfl, _, hr2, hb⟩
    have HH2 : Hid (Sq w2 (some ⟨h, 0, none⟩) (flat ns)) := Sq.of_row hr2
    have B2 : Hid (Below V.heap.size V w2) := below_then B1.out hb
    clear hb B1
    clear hr2 t0
    go_wp2_with fail
    refine (HCS.out _ _ _ HH2.out).mono ?_
    rintro e w3 ⟨v0, rfl, hans, hb⟩
    obtain ⟨a0, c0, hv0, _⟩ := hans.form
    subst hv0
    have P3 : Hid (AnsP w2.heap.size w3.heap.size w3 r.length (flat r) (.slice a0 r.length c0)) := hans
    have hV2 : V.heap.size ≤ w2.heap.size := B2.out.size
    have h23 : w2.heap.size ≤ w3.heap.size := hb.size
    have B3 : Hid (Below V.heap.size V w3) := below_then B2.out hb
    clear hb B2
    clear hans HH2
    have t0 := (HA.out.below B3.out).cell 0 _ rfl
    have hA3 := (HA.out.below B3.out).lt
    have hne3 : w.heap.size ≠ w3.heap.size := by omega
    go_wp2_with fail
    have B4 : Hid (Below V.heap.size V (w3.alloc (.cells #[.slice a0 r.length c0] 25))) := behind_alloc B3.out _
    have P4 : Hid (AnsP w2.heap.size w3.heap.size (w3.alloc (.cells #[.slice a0 r.length c0] 25)) r.length (flat r) (.slice a0 r.length c0)) := P3.out.below (low_alloc _ _)
    have X4 : Hid (Row (w3.alloc (.cells #[.slice a0 r.length c0] 25)) w3.heap.size [.slice a0 r.length c0]) := row_fresh w3 [.slice a0 r.length c0] 25
    generalize w3.alloc (.cells #[.slice a0 r.length c0] 25) = w4 at B4 P4 X4
    clear B3 P3 t0 hA3 hne3
    generalize w2.heap.size = B0 at *
    generalize w3.heap.size = X at *
    refine (toProf_c b d ns hn _ (HS0.out.below B4.out)).mono ?_
    rintro e w5 ⟨h4, rfl, hh4, hr2, hb⟩
    have hX4 : X < w4.heap.size := X4.out.lt
    have H5 : Hid (Row w5 h4 (flat ns)) := hr2
    have B5 : Hid (Below V.heap.size V w5) := below_then B4.out hb
    have P5 : Hid (AnsP B0 X w5 r.length (flat r) (.slice a0 r.length c0)) := P4.out.below hb
    have X5 : Hid (Row w5 X [.slice a0 r.length c0]) := X4.out.below hb
    clear hb B4 P4 X4
    clear hr2
    have hX5 := X5.out.lt
    go_wp2_with fail
    have B6 : Hid (Below V.heap.size V (w5.alloc (.cells #[.slice (some ⟨h4, 0, none⟩) ns.length ns.length] 25))) := behind_alloc B5.out _
    have P6 : Hid (AnsP B0 X (w5.alloc (.cells #[.slice (some ⟨h4, 0, none⟩) ns.length ns.length] 25)) r.length (flat r) (.slice a0 r.length c0)) := P5.out.below (low_alloc _ _)
    have X6 : Hid (Row (w5.alloc (.cells #[.slice (some ⟨h4, 0, none⟩) ns.length ns.length] 25)) X [.slice a0 r.length c0]) := X5.out.below (low_alloc _ _)
    have H6 : Hid (Row (w5.alloc (.cells #[.slice (some ⟨h4, 0, none⟩) ns.length ns.length] 25)) h4 (flat ns)) := H5.out.below (low_alloc _ _)
    have Y6 : Hid (Row (w5.alloc (.cells #[.slice (some ⟨h4, 0, none⟩) ns.length ns.length] 25)) w5.heap.size [.slice (some ⟨h4, 0, none⟩) ns.length ns.length]) := row_fresh w5 [.slice (some ⟨h4, 0, none⟩) ns.length ns.length] 25
    have hh5 : h4 < w5.heap.size := H5.out.lt
    generalize w5.alloc (.cells #[.slice (some ⟨h4, 0, none⟩) ns.length ns.length] 25) = w6 at B6 P6 X6 H6 Y6
    clear B5 P5 X5 H5
    have hXY : X < w5.heap.size := by omega
    generalize w5.heap.size = Y at *
    have hY6 : Y < w6.heap.size := Y6.out.lt
    refine (HCI.out _ _ (Sq.of_row H6.out)).mono ?_
    rintro e w7 ⟨v1, rfl, hans, hb⟩
    obtain ⟨a1, c1, hv1, _⟩ := hans.form
    subst hv1
    have Q7 : Hid (AnsP w6.heap.size w7.heap.size w7 r.length (flat r) (.slice a1 r.length c1)) := hans
    have h67 : w6.heap.size ≤ w7.heap.size := hb.size
    have B7 : Hid (Below V.heap.size V w7) := below_then B6.out hb
    have P7 : Hid (AnsP B0 X w7 r.length (flat r) (.slice a0 r.length c0)) := P6.out.below hb
    have X7 : Hid (Row w7 X [.slice a0 r.length c0]) := X6.out.below hb
    have H7 : Hid (Row w7 h4 (flat ns)) := H6.out.below hb
    have Y7 : Hid (Row w7 Y [.slice (some ⟨h4, 0, none⟩) ns.length ns.length]) := Y6.out.below hb
    clear hb B6 P6 X6 H6 Y6
    clear hans
    have x0 := X7.out.cell 0 _ rfl
    have hXn : X ≠ w7.heap.size := by have := X7.out.lt; omega
    have hXl : X < w7.heap.size := X7.out.lt
    go_wp2_with fail
    have B8 : Hid (Below V.heap.size V (w7.alloc (.cells #[.slice a1 r.length c1] 25))) := behind_alloc B7.out _
    have P8 : Hid (AnsP B0 X (w7.alloc (.cells #[.slice a1 r.length c1] 25)) r.length (flat r) (.slice a0 r.length c0)) := P7.out.below (low_alloc _ _)
    have X8 : Hid (Row (w7.alloc (.cells #[.slice a1 r.length c1] 25)) X [.slice a0 r.length c0]) := X7.out.below (low_alloc _ _)
    have H8 : Hid (Row (w7.alloc (.cells #[.slice a1 r.length c1] 25)) h4 (flat ns)) := H7.out.below (low_alloc _ _)
    have Y8 : Hid (Row (w7.alloc (.cells #[.slice a1 r.length c1] 25)) Y [.slice (some ⟨h4, 0, none⟩) ns.length ns.length]) := Y7.out.below (low_alloc _ _)
    have Q8 : Hid (AnsP w6.heap.size w7.heap.size (w7.alloc (.cells #[.slice a1 r.length c1] 25)) r.length (flat r) (.slice a1 r.length c1)) := Q7.out.below (low_alloc _ _)
    have Z8 : Hid (Row (w7.alloc (.cells #[.slice a1 r.length c1] 25)) w7.heap.size [.slice a1 r.length c1]) := row_fresh w7 [.slice a1 r.length c1] 25
    generalize w7.alloc (.cells #[.slice a1 r.length c1] 25) = w8 at B8 P8 X8 H8 Y8 Q8 Z8
    clear B7 P7 X7 H7 Y7 Q7 x0 hXn hXl
    generalize w6.heap.size = B1' at *
    generalize w7.heap.size = Z at *
    refine (eqProf_ans Q8.out P8.out hrl).mono ?_
    rintro e w9 ⟨rfl, hb⟩
    rw [decide_eq_true rfl]
    have B9 : Hid (Below V.heap.size V w9) := below_then B8.out hb
    have P9 : Hid (AnsP B0 X w9 r.length (flat r) (.slice a0 r.length c0)) := P8.out.below hb
    have X9 : Hid (Row w9 X [.slice a0 r.length c0]) := X8.out.below hb
    have H9 : Hid (Row w9 h4 (flat ns)) := H8.out.below hb
    have Y9 : Hid (Row w9 Y [.slice (some ⟨h4, 0, none⟩) ns.length ns.length]) := Y8.out.below hb
    have Q9 : Hid (AnsP B1' Z w9 r.length (flat r) (.slice a1 r.length c1)) := Q8.out.below hb
    have Z9 : Hid (Row w9 Z [.slice a1 r.length c1]) := Z8.out.below hb
    clear hb B8 P8 X8 H8 Y8 Q8 Z8
    go_wp2_with fail
    have hb := low_drew w9
    have t0 := (HA.out.below B9.out).cell 0 _ rfl
    have y0 := Y9.out.cell 0 _ rfl
    have Ba : Hid (Below V.heap.size V w9.drew) := below_then B9.out hb
    have Pa : Hid (AnsP B0 X w9.drew r.length (flat r) (.slice a0 r.length c0)) := P9.out.below hb
    have Xa : Hid (Row w9.drew X [.slice a0 r.length c0]) := X9.out.below hb
    have Ha : Hid (Row w9.drew h4 (flat ns)) := H9.out.below hb
    have Ya : Hid (Row w9.drew Y [.slice (some ⟨h4, 0, none⟩) ns.length ns.length]) := Y9.out.below hb
    have Qa : Hid (AnsP B1' Z w9.drew r.length (flat r) (.slice a1 r.length c1)) := Q9.out.below hb
    have Za : Hid (Row w9.drew Z [.slice a1 r.length c1]) := Z9.out.below hb
    clear hb B9 P9 X9 H9 Y9 Q9 Z9
    go_cut [35] (fun u wc => u = .bool false ∧ (Below V.heap.size V wc) ∧ (AnsP B0 X wc r.length (flat r) (.slice a0 r.length c0)) ∧ (Row wc X [.slice a0 r.length c0]) ∧ (Row wc h4 (flat ns)) ∧ (Row wc Y [.slice (some ⟨h4, 0, none⟩) ns.length ns.length]) ∧ (AnsP B1' Z wc r.length (flat r) (.slice a1 r.length c1)) ∧ (Row wc Z [.slice a1 r.length c1]))
    case first =>
      go_region_with (first
        | (go_at_call 32; refine (toProf_c b d ns hn w9.drew (HS0.out.below Ba.out)).mono ?_; rintro e wb ⟨h8, rfl, _, hr2, hb⟩; have y1 := (Ya.out.below hb).cell 0 _ rfl; have Bb : Hid (Below V.heap.size V wb) := below_then Ba.out hb; have Pb : Hid (AnsP B0 X wb r.length (flat r) (.slice a0 r.length c0)) := Pa.out.below hb; have Xb : Hid (Row wb X [.slice a0 r.length c0]) := Xa.out.below hb; have Hb : Hid (Row wb h4 (flat ns)) := Ha.out.below hb; have Yb : Hid (Row wb Y [.slice (some ⟨h4, 0, none⟩) ns.length ns.length]) := Ya.out.below hb; have Qb : Hid (AnsP B1' Z wb r.length (flat r) (.slice a1 r.length c1)) := Qa.out.below hb; have Zb : Hid (Row wb Z [.slice a1 r.length c1]) := Za.out.below hb; have K8 : Hid (Row wb h8 (flat ns)) := hr2; clear hb hr2)
        | (go_at_call 33; refine (eqProf_c _ _ _ _ ns ns hn wb (Sq.of_row Hb.out) (Sq.of_row K8.out)).mono ?_; rintro e wd ⟨rfl, hb⟩; have Bd : Hid (Below V.heap.size V wd) := below_then Bb.out hb; have Pd : Hid (AnsP B0 X wd r.length (flat r) (.slice a0 r.length c0)) := Pb.out.below hb; have Xd : Hid (Row wd X [.slice a0 r.length c0]) := Xb.out.below hb; have Hd : Hid (Row wd h4 (flat ns)) := Hb.out.below hb; have Yd : Hid (Row wd Y [.slice (some ⟨h4, 0, none⟩) ns.length ns.length]) := Yb.out.below hb; have Qd : Hid (AnsP B1' Z wd r.length (flat r) (.slice a1 r.length c1)) := Qb.out.below hb; have Zd : Hid (Row wd Z [.slice a1 r.length c1]) := Zb.out.below hb; clear hb))
      all_goals
        go_wp2_with fail
        go_meet
        case rel => exact ⟨rfl, Bd.out, Pd.out, Xd.out, Hd.out, Yd.out, Qd.out, Zd.out⟩
    case rest =>
    clear Ba Pa Xa Ha Ya Qa Za t0 y0
    obtain ⟨rfl, jB, jP, jX, jH, jY, jQ, jZ⟩ := hcut
    have Be : Hid (Below V.heap.size V wc) := jB
    have Pe : Hid (AnsP B0 X wc r.length (flat r) (.slice a0 r.length c0)) := jP
    have Xe : Hid (Row wc X [.slice a0 r.length c0]) := jX
    have He : Hid (Row wc h4 (flat ns)) := jH
    have Ye : Hid (Row wc Y [.slice (some ⟨h4, 0, none⟩) ns.length ns.length]) := jY
    have Qe : Hid (AnsP B1' Z wc r.length (flat r) (.slice a1 r.length c1)) := jQ
    have Ze : Hid (Row wc Z [.slice a1 r.length c1]) := jZ
    clear jB jP jX jH jY jQ jZ
    have y0 := Ye.out.cell 0 _ rfl
    go_wp2_with fail
    refine (markProf_ans (k0 := 1) (B := h4) (T := h4 + 1) (AnsP.of_row (cap := ns.length) (flat_len ns) He.out (Nat.le_refl _) (Nat.lt_succ_self _)) hn (by omega)).mono ?_
    rintro e wf ⟨rfl, _, hk, hbw, _⟩
    have Bf : Hid (Below V.heap.size V wf) := hbw V Be.out (by omega)
    have Pf : Hid (AnsP B0 X wf r.length (flat r) (.slice a0 r.length c0)) := Pe.out.keep fun g h1 h2 hr => hk g _ hr (by omega)
    have Qf : Hid (AnsP B1' Z wf r.length (flat r) (.slice a1 r.length c1)) := Qe.out.keep fun g h1 h2 hr => hk g _ hr (by omega)
    have Xf : Hid (Row wf X [.slice a0 r.length c0]) := hk _ _ Xe.out (by omega)
    have Yf : Hid (Row wf Y [.slice (some ⟨h4, 0, none⟩) ns.length ns.length]) := hk _ _ Ye.out (by omega)
    have Zf : Hid (Row wf Z [.slice a1 r.length c1]) := hk _ _ Ze.out (by omega)
    clear hk hbw y0 He Be Pe Xe Ye Qe Ze
    generalize 1 + 4 * ns.length = km
    have x0 := Xf.out.cell 0 _ rfl
    have z0 := Zf.out.cell 0 _ rfl
    go_wp2_with fail
    refine (eqProf_ans Qf.out Pf.out hrl).mono ?_
    rintro e wg ⟨rfl, hb⟩
    rw [decide_eq_true rfl]
    have Bg : Hid (Below V.heap.size V wg) := below_then Bf.out hb
    have Pg : Hid (AnsP B0 X wg r.length (flat r) (.slice a0 r.length c0)) := Pf.out.below hb
    have Xg : Hid (Row wg X [.slice a0 r.length c0]) := Xf.out.below hb
    have Yg : Hid (Row wg Y [.slice (some ⟨h4, 0, none⟩) ns.length ns.length]) := Yf.out.below hb
    have Qg : Hid (AnsP B1' Z wg r.length (flat r) (.slice a1 r.length c1)) := Qf.out.below hb
    have Zg : Hid (Row wg Z [.slice a1 r.length c1]) := Zf.out.below hb
    clear hb Bf Pf Xf Yf Qf Zf
    clear x0 z0
    have z0 := Zg.out.cell 0 _ rfl
    go_wp2_with fail
    refine (markProf_ans (k0 := 1) Qg.out hrl (by omega)).mono ?_
    rintro e wh ⟨rfl, hC, hk, hbw, _⟩
    have Bh : Hid (Below V.heap.size V wh) := hbw V Bg.out (by omega)
    have Ph : Hid (AnsP B0 X wh r.length (flat r) (.slice a0 r.length c0)) := Pg.out.keep fun g h1 h2 hr => hk g _ hr (by omega)
    have Xh : Hid (Row wh X [.slice a0 r.length c0]) := hk _ _ Xg.out (by omega)
    have Yh : Hid (Row wh Y [.slice (some ⟨h4, 0, none⟩) ns.length ns.length]) := hk _ _ Yg.out (by omega)
    have Zh : Hid (Row wh Z [.slice a1 r.length c1]) := hk _ _ Zg.out (by omega)
    have Qh : Hid (AnsP B1' Z wh r.length (upFrom 1 (4 * r.length)) (.slice a1 r.length c1)) := hC
    clear hC hk hbw z0 Bg Pg Xg Yg Qg Zg
    have z0 := Zh.out.cell 0 _ rfl
    go_wp2_with fail
    refine (heldProf_ans (k0 := 1) Qh.out hrl (by omega)).mono ?_
    rintro e wi ⟨rfl, hb⟩
    have Bi : Hid (Below V.heap.size V wi) := below_then Bh.out hb
    have Pi : Hid (AnsP B0 X wi r.length (flat r) (.slice a0 r.length c0)) := Ph.out.below hb
    have Xi : Hid (Row wi X [.slice a0 r.length c0]) := Xh.out.below hb
    have Yi : Hid (Row wi Y [.slice (some ⟨h4, 0, none⟩) ns.length ns.length]) := Yh.out.below hb
    have Qi : Hid (AnsP B1' Z wi r.length (upFrom 1 (4 * r.length)) (.slice a1 r.length c1)) := Qh.out.below hb
    have Zi : Hid (Row wi Z [.slice a1 r.length c1]) := Zh.out.below hb
    clear hb Bh Ph Xh Yh Qh Zh
    clear z0
    have t0 := (HA.out.below Bi.out).cell 0 _ rfl
    go_wp2_with fail
    refine (toProf_c b d ns hn _ (HS0.out.below Bi.out)).mono ?_
    rintro e wj ⟨hj, rfl, _, hr2, hb⟩
    have Hj : Hid (Row wj hj (flat ns)) := hr2
    have Bj : Hid (Below V.heap.size V wj) := below_then Bi.out hb
    have Pj : Hid (AnsP B0 X wj r.length (flat r) (.slice a0 r.length c0)) := Pi.out.below hb
    have Xj : Hid (Row wj X [.slice a0 r.length c0]) := Xi.out.below hb
    have Yj : Hid (Row wj Y [.slice (some ⟨h4, 0, none⟩) ns.length ns.length]) := Yi.out.below hb
    have Qj : Hid (AnsP B1' Z wj r.length (upFrom 1 (4 * r.length)) (.slice a1 r.length c1)) := Qi.out.below hb
    have Zj : Hid (Row wj Z [.slice a1 r.length c1]) := Zi.out.below hb
    clear hb Bi Pi Xi Yi Qi Zi
    clear hr2 t0
    go_wp2_with fail
    refine (HCI.out _ _ (Sq.of_row Hj.out)).mono ?_
    rintro e wk ⟨v2, rfl, hans, hb⟩
    obtain ⟨a2, c2, hv2, _⟩ := hans.form
    subst hv2
    have Rk : Hid (AnsP wj.heap.size wk.heap.size wk r.length (flat r) (.slice a2 r.length c2)) := hans
    have Bk : Hid (Below V.heap.size V wk) := below_then Bj.out hb
    have Pk : Hid (AnsP B0 X wk r.length (flat r) (.slice a0 r.length c0)) := Pj.out.below hb
    have Xk : Hid (Row wk X [.slice a0 r.length c0]) := Xj.out.below hb
    have Yk : Hid (Row wk Y [.slice (some ⟨h4, 0, none⟩) ns.length ns.length]) := Yj.out.below hb
    have Qk : Hid (AnsP B1' Z wk r.length (upFrom 1 (4 * r.length)) (.slice a1 r.length c1)) := Qj.out.below hb
    have Zk : Hid (Row wk Z [.slice a1 r.length c1]) := Zj.out.below hb
    clear hb Bj Pj Xj Yj Qj Zj
    clear hans Hj
    have x0 := Xk.out.cell 0 _ rfl
    have hXn : X ≠ wk.heap.size := by have := Xk.out.lt; omega
    have hXl : X < wk.heap.size := Xk.out.lt
    go_wp2_with fail
    have Bm : Hid (Below V.heap.size V (wk.alloc (.cells #[.slice a2 r.length c2] 25))) := behind_alloc Bk.out _
    have Pm : Hid (AnsP B0 X (wk.alloc (.cells #[.slice a2 r.length c2] 25)) r.length (flat r) (.slice a0 r.length c0)) := Pk.out.below (low_alloc _ _)
    have Xm : Hid (Row (wk.alloc (.cells #[.slice a2 r.length c2] 25)) X [.slice a0 r.length c0]) := Xk.out.below (low_alloc _ _)
    have Ym : Hid (Row (wk.alloc (.cells #[.slice a2 r.length c2] 25)) Y [.slice (some ⟨h4, 0, none⟩) ns.length ns.length]) := Yk.out.below (low_alloc _ _)
    have Qm : Hid (AnsP B1' Z (wk.alloc (.cells #[.slice a2 r.length c2] 25)) r.length (upFrom 1 (4 * r.length)) (.slice a1 r.length c1)) := Qk.out.below (low_alloc _ _)
    have Zm : Hid (Row (wk.alloc (.cells #[.slice a2 r.length c2] 25)) Z [.slice a1 r.length c1]) := Zk.out.below (low_alloc _ _)
    have Rm : Hid (AnsP wj.heap.size wk.heap.size (wk.alloc (.cells #[.slice a2 r.length c2] 25)) r.length (flat r) (.slice a2 r.length c2)) := Rk.out.below (low_alloc _ _)
    generalize wk.alloc (.cells #[.slice a2 r.length c2] 25) = wm at Bm Pm Xm Ym Qm Zm Rm
    clear Rk x0 hXn hXl Bk Pk Xk Yk Qk Zk
    refine (eqProf_ans Rm.out Pm.out hrl).mono ?_
    rintro e wn ⟨rfl, hb⟩
    rw [decide_eq_true rfl]
    clear Rm
    have Bn : Hid (Below V.heap.size V wn) := below_then Bm.out hb
    have Pn : Hid (AnsP B0 X wn r.length (flat r) (.slice a0 r.length c0)) := Pm.out.below hb
    have Xn : Hid (Row wn X [.slice a0 r.length c0]) := Xm.out.below hb
    have Yn : Hid (Row wn Y [.slice (some ⟨h4, 0, none⟩) ns.length ns.length]) := Ym.out.below hb
    have Qn : Hid (AnsP B1' Z wn r.length (upFrom 1 (4 * r.length)) (.slice a1 r.length c1)) := Qm.out.below hb
    have Zn : Hid (Row wn Z [.slice a1 r.length c1]) := Zm.out.below hb
    clear hb Bm Pm Xm Ym Qm Zm
    have z0 := Zn.out.cell 0 _ rfl
    go_wp2_with fail
    refine (heldProf_ans (k0 := 1) Qn.out hrl (by omega)).mono ?_
    rintro e wo ⟨rfl, hb⟩
    have Bo : Hid (Below V.heap.size V wo) := below_then Bn.out hb
    have Po : Hid (AnsP B0 X wo r.length (flat r) (.slice a0 r.length c0)) := Pn.out.below hb
    have Xo : Hid (Row wo X [.slice a0 r.length c0]) := Xn.out.below hb
    have Yo : Hid (Row wo Y [.slice (some ⟨h4, 0, none⟩) ns.length ns.length]) := Yn.out.below hb
    have Qo : Hid (AnsP B1' Z wo r.length (upFrom 1 (4 * r.length)) (.slice a1 r.length c1)) := Qn.out.below hb
    have Zo : Hid (Row wo Z [.slice a1 r.length c1]) := Zn.out.below hb
    clear hb Bn Pn Xn Yn Qn Zn
    clear z0
    go_wp2_with fail
    go_ret
    exact ⟨rfl, below_then HV.out Bo.out⟩

set_option maxRecDepth 100000 in
theorem lifted (os : Os) (started : os.Started) (H : Type) (enc : TypeId × Value → H) :
    ReturnsInHanded {} Try.checked os 12 .any (Rows.fnExactProfCutSpec.pre6 enc Try.prog Try.f12 Rows.fnExactProfCutRow.domain false) (Rows.fnExactProfCutSpec.post enc Try.prog Try.f12 false true false false) := by
  refine returnsInHanded_of_change (C := Try.checked) own started (by kernel_rfl) Try.func12
    (ChangeSpec.witness6 (enc := enc) (C := Try.checked) false ⟨#[], #[.agg #[.slice none 0 0], .int .i64 0], []⟩ 8 (by kernel_rfl) (by kernel_rfl) (by kernel_rfl) (by kernel_rfl)) ?_
  intro W base args ds gs before hval0 hW _ _
  have hval : ∀ (j : Nat) t v, Try.f12.params[j]? = some t → args[j]? = some v → Value.okWide Try.prog W .any base t v := hval0
  have hW' := hW
  obtain ⟨p, q, hA0, hV, rfl, _, _⟩ := hW
  have hA : DataW.TrodAll enc Try.prog W 0 (fun _ => true) true Try.f12.params.toList args.toList ds p := hA0
  rw [Try.params12] at hA hval
  obtain ⟨v0, v1, d0, d1, p0, p1, rfl, rfl, rfl, h0, h1⟩ := trodAll_two hA
  obtain ⟨rfl, rfl⟩ := trodVars_none hV
  obtain ⟨b, d, ns, rfl, hn, hs'⟩ := prof_opened (hval 0 51 v0 rfl rfl) h0
  obtain ⟨t, rfl⟩ := okWide_int Try.underlying3 (hval 1 3 v1 rfl rfl)
  clear hA0 hval0
  simp only [List.append_nil] at hW'
  refine (walk b d ns t hn W hs').mono fun e W' ⟨he, hg⟩ => ?_
  subst he
  have hlt : ∀ x ∈ p0 ++ p1, x.block < W.heap.size := fun x hx => by simpa using hW'.lt x hx
  have harg := Below.trod laidOutAll (by kernel_rfl) (of_decide_eq_true (by kernel_rfl)) h0 hg (fun x hx => hlt x (List.mem_append_left _ hx))
  have harg1 := Below.trod laidOutAll (by kernel_rfl) (of_decide_eq_true (by kernel_rfl)) h1 hg (fun x hx => hlt x (List.mem_append_right _ hx))
  exact ⟨_, rfl, _, _, _, [], _, [], hW', trodAll_mk1 (shut_bool Try.underlying4 _), trodAll_mk2 harg harg1, rfl, hg.frame _, fun h => by cases h⟩
end LawProfCut

/-- For every profile: the law returns true, and it reads as it did. -/
theorem fnExactProfCut_holds : Rows.FnExactProfCutSaid :=
  OpenClaim.holds_of_wide 12 Try.f12 rfl rfl rfl rfl rfl rfl rfl ⟨rfl, rfl, rfl, rfl, rfl⟩ rfl rfl rfl rfl rfl (by kernel_rfl) Try.func12 (by kernel_rfl)
    (of_decide_eq_true (by kernel_rfl)) (by unfold Func.isWrapper; rw [if_neg (of_decide_eq_false (by kernel_rfl))]; exact ⟨rfl, rfl⟩)
    (fun os started H enc _ => LawProfCut.lifted os started H enc)
#print axioms fnExactProfCut_holds
end Go.Proofs.Ytleemkolcciokaa
