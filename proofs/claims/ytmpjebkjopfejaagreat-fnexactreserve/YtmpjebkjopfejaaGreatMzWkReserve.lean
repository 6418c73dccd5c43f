/- The walk of FnExactReserve: for every room, job, time and nodes the program's Reserve answers as the specification's, and its answer owns its memory; no condition. -/
import Derived.Test.YtmpjebkjopfejaaGreatMgRm
import Derived.Test.YtmpjebkjopfejaaGreatMgRp
import Derived.Test.YtmpjebkjopfejaaGreatMzSpR
import Derived.Test.YtmpjebkjopfejaaGreatMgRd
import Derived.Test.YtmpjebkjopfejaaGreatMgRl
import Derived.Test.YtmpjebkjopfejaaGreatMzJbP
import Derived.Test.YtmpjebkjopfejaaGreatMgRn
import Derived.ProofKit
import Derived.OpenShut
import Derived.Deep.DeepCutAuto
import Derived.Deep.RegionWith
namespace Go.Proofs.YtmpjebkjopfejaaGreat
namespace LawReserve
open Go.ChangeShapes Go.WideShapes Go.ChangeAt Go.RowKit Go.Joins

set_option maxHeartbeats 16000000 in
set_option maxRecDepth 100000 in
theorem walk (hcopy : CopyC) (A : Ra) (R : Rm) (j : Jb) (f : Int) (x : Option Addr) (cx : Nat) (xs : List Int) (hw : RWide R) (hx : xs.length ≤ maxLen) (w : World) (h : RAt w A R) (hs2 : Sq w x (ints xs)) :
    Calls Tryz.prog 3 #[.agg #[.slice A.aP R.ps.length A.cP, .slice A.aN R.ns.length A.cN, .slice A.aU R.up.length A.cU, .slice A.aQ R.pss.length A.cQ, .slice A.aL R.lic.length A.cL], .agg #[.int .i64 j.id, .int .i64 j.pr, .int .i64 j.nd, .int .i64 j.na, .int .i64 j.nb, .int .i64 j.nc, .int .i64 j.la, .int .i64 j.lb, .int .i64 j.lc, .int .i64 j.wl, .int .i64 j.lv], .int .i64 f, .slice x xs.length cx] w fun e w' => e = .returned (.bool true) ∧ Below w.heap.size w w' := by
  have H : Hid (RAt w A R) := h
  have H2 : Hid (Sq w x (ints xs)) := hs2
  have HW0 : Hid (RWide R) := hw
  unfold maxLen at hx
  clear h hw hs2
  by_cases hxl : 1048576 < xs.length
  · have hxi : 1048576 < (xs.length : Int) := by omega
    go_enter Tryz.func3, Tryz.ntmps3
    go_wp2_with fail
    go_ret
    exact ⟨rfl, behind_alloc (low_alloc _ _) _⟩
  have hxi : ¬ 1048576 < (xs.length : Int) := by omega
  have hx2 : xs.length ≤ 1048576 := by omega
  clear hx hxl
  go_enter Tryz.func3, Tryz.ntmps3
  go_wp2_with fail
  generalize hV : (w.alloc (.cells #[.slice A.aP R.ps.length A.cP, .slice A.aN R.ns.length A.cN, .slice A.aU R.up.length A.cU, .slice A.aQ R.pss.length A.cQ, .slice A.aL R.lic.length A.cL] 32)).alloc (.cells #[.int .i64 j.id, .int .i64 j.pr, .int .i64 j.nd, .int .i64 j.na, .int .i64 j.nb, .int .i64 j.nc, .int .i64 j.la, .int .i64 j.lb, .int .i64 j.lc, .int .i64 j.wl, .int .i64 j.lv] 36) = V
  have HA : Hid (Row V w.heap.size [.slice A.aP R.ps.length A.cP, .slice A.aN R.ns.length A.cN, .slice A.aU R.up.length A.cU, .slice A.aQ R.pss.length A.cQ, .slice A.aL R.lic.length A.cL]) := by subst hV; exact (row_fresh w [.slice A.aP R.ps.length A.cP, .slice A.aN R.ns.length A.cN, .slice A.aU R.up.length A.cU, .slice A.aQ R.pss.length A.cQ, .slice A.aL R.lic.length A.cL] 32).below (low_alloc _ _)
  have HW : Hid (Row V (w.heap.size + 1) [.int .i64 j.id, .int .i64 j.pr, .int .i64 j.nd, .int .i64 j.na, .int .i64 j.nb, .int .i64 j.nc, .int .i64 j.la, .int .i64 j.lb, .int .i64 j.lc, .int .i64 j.wl, .int .i64 j.lv]) := by
    subst hV
    have h := row_fresh (w.alloc (.cells #[.slice A.aP R.ps.length A.cP, .slice A.aN R.ns.length A.cN, .slice A.aU R.up.length A.cU, .slice A.aQ R.pss.length A.cQ, .slice A.aL R.lic.length A.cL] 32)) [.int .i64 j.id, .int .i64 j.pr, .int .i64 j.nd, .int .i64 j.na, .int .i64 j.nb, .int .i64 j.nc, .int .i64 j.la, .int .i64 j.lb, .int .i64 j.lc, .int .i64 j.wl, .int .i64 j.lv] 36
    rw [show (w.alloc (.cells #[.slice A.aP R.ps.length A.cP, .slice A.aN R.ns.length A.cN, .slice A.aU R.up.length A.cU, .slice A.aQ R.pss.length A.cQ, .slice A.aL R.lic.length A.cL] 32)).heap.size = w.heap.size + 1 by simp [go_sem]] at h
    exact h
  have HV : Hid (Below w.heap.size w V) := by subst hV; exact behind_alloc (low_alloc _ _) _
  clear hV hxi
  have HS : Hid (RAt V A R) := H.out.below HV.out
  have HL : Hid (Sq V x (ints xs)) := H2.out.below HV.out
  clear H H2
  generalize w.heap.size = A0 at HA HW
  refine (szRoom_c A R HW0.out V HS.out).mono ?_
  rintro e w1 ⟨z, rfl, hz, hb⟩
  have HZ : Hid (0 ≤ z → RSmall R ∧ RTot R) := hz
  have B1 : Hid (Below V.heap.size V w1) := hb
  clear hb hz
  by_cases hzn : z < 0
  · go_wp2_with fail
    go_ret
    exact ⟨rfl, below_then HV.out B1.out⟩
  · have HM : Hid (RSmall R) := (HZ.out (by omega)).1
    have HT : Hid (RTot R) := (HZ.out (by omega)).2
    clear HZ
    have HCS : Hid (∀ (gP gN gU gQ gL : Nat) (hs : List Nat) (B gx : Nat) (W : World), RO W B R gP gN gU gQ gL hs → Row W gx (ints xs) → Calls Tryz.prog 6 #[.agg #[.slice (some ⟨gP, 0, none⟩) R.ps.length R.ps.length, .slice (some ⟨gN, 0, none⟩) R.ns.length R.ns.length, .slice (some ⟨gU, 0, none⟩) R.up.length R.up.length, .slice (some ⟨gQ, 0, none⟩) R.pss.length R.pss.length, .slice (some ⟨gL, 0, none⟩) R.lic.length R.lic.length], .agg #[.int .i64 j.id, .int .i64 j.pr, .int .i64 j.nd, .int .i64 j.na, .int .i64 j.nb, .int .i64 j.nc, .int .i64 j.la, .int .i64 j.lb, .int .i64 j.lc, .int .i64 j.wl, .int .i64 j.lv], .int .i64 f, .slice (some ⟨gx, 0, none⟩) xs.length xs.length] W fun e w' => ∃ (ca0 ca1 ca2 ca3 ca4 : Option Addr) (cn0 cn1 cn2 cn3 cn4 cm0 cm1 cm2 cm3 cm4 : Nat), e = .returned (.tuple #[.agg #[.slice ca0 cn0 cm0, .slice ca1 cn1 cm1, .slice ca2 cn2 cm2, .slice ca3 cn3 cm3, .slice ca4 cn4 cm4], .bool (mvR false R j f (wrap64 (f + j.wl)) xs).isSome]) ∧ RmV W.heap.size w'.heap.size w' (mvR false R j f (wrap64 (f + j.wl)) xs) (.slice ca0 cn0 cm0) (.slice ca1 cn1 cm1) (.slice ca2 cn2 cm2) (.slice ca3 cn3 cm3) (.slice ca4 cn4 cm4) ∧ Below W.heap.size W w') := fun gP gN gU gQ gL _ _ gx W h hr => (specReserve_h hcopy (ownRa R gP gN gU gQ gL) R j f (some ⟨gx, 0, none⟩) xs.length xs HM.out hx2 (Nat.le_refl _) W h.rat (Sq.of_row hr)).mono fun _ _ hret => hret.vals
    have HCI : Hid (∀ (gP gN gU gQ gL : Nat) (hs : List Nat) (B gx : Nat) (W : World), RO W B R gP gN gU gQ gL hs → Row W gx (ints xs) → Calls Tryz.prog 10 #[.agg #[.slice (some ⟨gP, 0, none⟩) R.ps.length R.ps.length, .slice (some ⟨gN, 0, none⟩) R.ns.length R.ns.length, .slice (some ⟨gU, 0, none⟩) R.up.length R.up.length, .slice (some ⟨gQ, 0, none⟩) R.pss.length R.pss.length, .slice (some ⟨gL, 0, none⟩) R.lic.length R.lic.length], .agg #[.int .i64 j.id, .int .i64 j.pr, .int .i64 j.nd, .int .i64 j.na, .int .i64 j.nb, .int .i64 j.nc, .int .i64 j.la, .int .i64 j.lb, .int .i64 j.lc, .int .i64 j.wl, .int .i64 j.lv], .int .i64 f, .slice (some ⟨gx, 0, none⟩) xs.length xs.length] W fun e w' => ∃ (ca0 ca1 ca2 ca3 ca4 : Option Addr) (cn0 cn1 cn2 cn3 cn4 cm0 cm1 cm2 cm3 cm4 : Nat), e = .returned (.tuple #[.agg #[.slice ca0 cn0 cm0, .slice ca1 cn1 cm1, .slice ca2 cn2 cm2, .slice ca3 cn3 cm3, .slice ca4 cn4 cm4], .bool (mvR false R j f (wrap64 (f + j.wl)) xs).isSome]) ∧ RmV W.heap.size w'.heap.size w' (mvR false R j f (wrap64 (f + j.wl)) xs) (.slice ca0 cn0 cm0) (.slice ca1 cn1 cm1) (.slice ca2 cn2 cm2) (.slice ca3 cn3 cm3) (.slice ca4 cn4 cm4) ∧ Below W.heap.size W w') := fun gP gN gU gQ gL _ _ gx W h hr => (implReserve_c (ownRa R gP gN gU gQ gL) R j f (some ⟨gx, 0, none⟩) xs.length xs HM.out hx2 W h.rat (Sq.of_row hr)).mono fun _ _ hret => hret.vals
    have HO : Hid (OSm (mvR false R j f (wrap64 (f + j.wl)) xs)) := mvR_small _ _ _ _ _ _
    generalize mvR false R j f (wrap64 (f + j.wl)) xs = o at HCS HCI HO
    generalize o.isSome = k at HCS HCI
    go_wp2_with fail
    have hAV := HA.out.lt
    have hWV := HW.out.lt
    have HSU : Hid (RAt w1 A R) := HS.out.below B1.out
    have HAU : Hid (Row w1 A0 [.slice A.aP R.ps.length A.cP, .slice A.aN R.ns.length A.cN, .slice A.aU R.up.length A.cU, .slice A.aQ R.pss.length A.cQ, .slice A.aL R.lic.length A.cL]) := HA.out.below B1.out
    have HWU : Hid (Row w1 (A0 + 1) [.int .i64 j.id, .int .i64 j.pr, .int .i64 j.nd, .int .i64 j.na, .int .i64 j.nb, .int .i64 j.nc, .int .i64 j.la, .int .i64 j.lb, .int .i64 j.lc, .int .i64 j.wl, .int .i64 j.lv]) := HW.out.below B1.out
    have HLU : Hid (Sq w1 x (ints xs)) := HL.out.below B1.out
    have hVU : V.heap.size ≤ w1.heap.size := B1.out.size
    generalize hU : w1 = U at *
    have HK : Hid (∀ W : World, Below U.heap.size U W → Below U.heap.size U W ∧ U.heap.size ≤ W.heap.size ∧ W.cell? ⟨A0, 0, none⟩ = some (.slice A.aP R.ps.length A.cP) ∧ W.cell? ⟨A0, 1, none⟩ = some (.slice A.aN R.ns.length A.cN) ∧ W.cell? ⟨A0, 2, none⟩ = some (.slice A.aU R.up.length A.cU) ∧ W.cell? ⟨A0, 3, none⟩ = some (.slice A.aQ R.pss.length A.cQ) ∧ W.cell? ⟨A0, 4, none⟩ = some (.slice A.aL R.lic.length A.cL) ∧ W.cell? ⟨A0 + 1, 0, none⟩ = some (.int .i64 j.id) ∧ W.cell? ⟨A0 + 1, 1, none⟩ = some (.int .i64 j.pr) ∧ W.cell? ⟨A0 + 1, 2, none⟩ = some (.int .i64 j.nd) ∧ W.cell? ⟨A0 + 1, 3, none⟩ = some (.int .i64 j.na) ∧ W.cell? ⟨A0 + 1, 4, none⟩ = some (.int .i64 j.nb) ∧ W.cell? ⟨A0 + 1, 5, none⟩ = some (.int .i64 j.nc) ∧ W.cell? ⟨A0 + 1, 6, none⟩ = some (.int .i64 j.la) ∧ W.cell? ⟨A0 + 1, 7, none⟩ = some (.int .i64 j.lb) ∧ W.cell? ⟨A0 + 1, 8, none⟩ = some (.int .i64 j.lc) ∧ W.cell? ⟨A0 + 1, 9, none⟩ = some (.int .i64 j.wl) ∧ W.cell? ⟨A0 + 1, 10, none⟩ = some (.int .i64 j.lv)) := fun W h => ⟨h, h.size, (HAU.out.below h).cell 0 _ rfl, (HAU.out.below h).cell 1 _ rfl, (HAU.out.below h).cell 2 _ rfl, (HAU.out.below h).cell 3 _ rfl, (HAU.out.below h).cell 4 _ rfl, (HWU.out.below h).cell 0 _ rfl, (HWU.out.below h).cell 1 _ rfl, (HWU.out.below h).cell 2 _ rfl, (HWU.out.below h).cell 3 _ rfl, (HWU.out.below h).cell 4 _ rfl, (HWU.out.below h).cell 5 _ rfl, (HWU.out.below h).cell 6 _ rfl, (HWU.out.below h).cell 7 _ rfl, (HWU.out.below h).cell 8 _ rfl, (HWU.out.below h).cell 9 _ rfl, (HWU.out.below h).cell 10 _ rfl⟩
    have D1 : Hid (Below U.heap.size U U.drew) := low_drew U
    have z1 : U.heap.size ≤ U.heap.size := Nat.le_refl _
    have z2 : U.heap.size ≤ U.drew.heap.size := Nat.le_refl _
    go_cut [10, 11] (fun p q wc => ∃ (Z : Nat) (ca0 ca1 ca2 ca3 ca4 : Option Addr) (cn0 cn1 cn2 cn3 cn4 cm0 cm1 cm2 cm3 cm4 : Nat), p = .pointer (some ⟨Z, 0, none⟩) ∧ q = .bool k ∧ BoxR U wc Z o (.slice ca0 cn0 cm0) (.slice ca1 cn1 cm1) (.slice ca2 cn2 cm2) (.slice ca3 cn3 cm3) (.slice ca4 cn4 cm4))
    case first =>
      go_region_held3 (fun W => Below U.heap.size U W ∧ U.heap.size ≤ W.heap.size ∧ W.cell? ⟨A0, 0, none⟩ = some (.slice A.aP R.ps.length A.cP) ∧ W.cell? ⟨A0, 1, none⟩ = some (.slice A.aN R.ns.length A.cN) ∧ W.cell? ⟨A0, 2, none⟩ = some (.slice A.aU R.up.length A.cU) ∧ W.cell? ⟨A0, 3, none⟩ = some (.slice A.aQ R.pss.length A.cQ) ∧ W.cell? ⟨A0, 4, none⟩ = some (.slice A.aL R.lic.length A.cL) ∧ W.cell? ⟨A0 + 1, 0, none⟩ = some (.int .i64 j.id) ∧ W.cell? ⟨A0 + 1, 1, none⟩ = some (.int .i64 j.pr) ∧ W.cell? ⟨A0 + 1, 2, none⟩ = some (.int .i64 j.nd) ∧ W.cell? ⟨A0 + 1, 3, none⟩ = some (.int .i64 j.na) ∧ W.cell? ⟨A0 + 1, 4, none⟩ = some (.int .i64 j.nb) ∧ W.cell? ⟨A0 + 1, 5, none⟩ = some (.int .i64 j.nc) ∧ W.cell? ⟨A0 + 1, 6, none⟩ = some (.int .i64 j.la) ∧ W.cell? ⟨A0 + 1, 7, none⟩ = some (.int .i64 j.lb) ∧ W.cell? ⟨A0 + 1, 8, none⟩ = some (.int .i64 j.lc) ∧ W.cell? ⟨A0 + 1, 9, none⟩ = some (.int .i64 j.wl) ∧ W.cell? ⟨A0 + 1, 10, none⟩ = some (.int .i64 j.lv)) ((go_split_ands; refine HK.out _ ?_; first | (exact Hid.out (by with_reducible assumption)) | (exact behind_alloc (Hid.out (by with_reducible assumption)) _) | (with_reducible assumption) | (exact behind (by with_reducible assumption) (by with_reducible assumption)) | (exact behind_alloc (by with_reducible assumption) _) | (repeat (refine Below.setCell ?_ (by with_reducible assumption) _)); (exact Hid.out (by with_reducible assumption)) | (go_grown; done)))
        (first
        | (go_at_call 7; refine (toRoom_c A R HM.out _ (HSU.out.below (And.left (by with_reducible assumption)))).mono ?_; rintro e wk ⟨fP, fN, fU, fQ, fL, fs, rfl, hro, hbk⟩; have HR1 : Hid (RO wk _ R fP fN fU fQ fL fs) := hro; clear hro; (try (first | have HX : Hid (Row wk _ [.slice none 0 0, .slice none 0 0, .slice none 0 0, .slice none 0 0, .slice none 0 0]) := (row_fresh _ [.slice none 0 0, .slice none 0 0, .slice none 0 0, .slice none 0 0, .slice none 0 0] 46).below hbk | have HX : Hid (Row wk _ [.slice none 0 0, .slice none 0 0, .slice none 0 0, .slice none 0 0, .slice none 0 0]) := ((row_fresh _ [.slice none 0 0, .slice none 0 0, .slice none 0 0, .slice none 0 0, .slice none 0 0] 46).below (low_drew _)).below hbk)); have Bk : Hid (Below U.heap.size U wk) := behind hbk (And.left (by with_reducible assumption)); have zk := Bk.out.size; (first | have C := behind hbk (by with_reducible assumption) | have C := hbk); obtain ⟨hck, hfk, hzk⟩ := bfacts C)
        | (go_at_call 8; refine (toJob_c j _).mono ?_; rintro e wk ⟨rfl, hbk⟩; (first | (have HR2 : Hid (RO wk _ R fP fN fU fQ fL fs) := HR1.out.below hbk) | (have HR2 : Hid (RO wk _ R fP fN fU fQ fL fs) := (HR1.out.below (low_alloc _ _)).below hbk)); (try have HX : Hid (Row wk _ [.slice none 0 0, .slice none 0 0, .slice none 0 0, .slice none 0 0, .slice none 0 0]) := HX.out.below hbk); (try (first | have HX : Hid (Row wk _ [.slice none 0 0, .slice none 0 0, .slice none 0 0, .slice none 0 0, .slice none 0 0]) := (row_fresh _ [.slice none 0 0, .slice none 0 0, .slice none 0 0, .slice none 0 0, .slice none 0 0] 46).below hbk | have HX : Hid (Row wk _ [.slice none 0 0, .slice none 0 0, .slice none 0 0, .slice none 0 0, .slice none 0 0]) := ((row_fresh _ [.slice none 0 0, .slice none 0 0, .slice none 0 0, .slice none 0 0, .slice none 0 0] 46).below (low_drew _)).below hbk)); have Bk : Hid (Below U.heap.size U wk) := behind hbk (And.left (by with_reducible assumption)); have zk := Bk.out.size; (first | have C := behind hbk (by with_reducible assumption) | have C := hbk); obtain ⟨hck, hfk, hzk⟩ := bfacts C)
        | (go_at_call 9; refine (toIntS_c x cx xs hx2 _ (HLU.out.below (And.left (by with_reducible assumption)))).mono ?_; rintro e wk ⟨fx, rfl, hfx, hrx, hbk⟩; (first | (have HR3 : Hid (RO wk _ R fP fN fU fQ fL fs) := HR2.out.below hbk) | (have HR3 : Hid (RO wk _ R fP fN fU fQ fL fs) := (HR2.out.below (low_alloc _ _)).below hbk)); have HY3 : Hid (Row wk fx (ints xs)) := hrx; clear hrx hfx; (try have HX : Hid (Row wk _ [.slice none 0 0, .slice none 0 0, .slice none 0 0, .slice none 0 0, .slice none 0 0]) := HX.out.below hbk); (try (first | have HX : Hid (Row wk _ [.slice none 0 0, .slice none 0 0, .slice none 0 0, .slice none 0 0, .slice none 0 0]) := (row_fresh _ [.slice none 0 0, .slice none 0 0, .slice none 0 0, .slice none 0 0, .slice none 0 0] 46).below hbk | have HX : Hid (Row wk _ [.slice none 0 0, .slice none 0 0, .slice none 0 0, .slice none 0 0, .slice none 0 0]) := ((row_fresh _ [.slice none 0 0, .slice none 0 0, .slice none 0 0, .slice none 0 0, .slice none 0 0] 46).below (low_drew _)).below hbk)); have Bk : Hid (Below U.heap.size U wk) := behind hbk (And.left (by with_reducible assumption)); have zk := Bk.out.size; (first | have C := behind hbk (by with_reducible assumption) | have C := hbk); obtain ⟨hck, hfk, hzk⟩ := bfacts C)
        | (go_at_call 6; (first | refine (HCS.out _ _ _ _ _ _ _ _ _ HR3.out HY3.out).mono ?_ | refine (HCS.out _ _ _ _ _ _ _ _ _ (HR3.out.below (low_alloc _ _)) (HY3.out.below (low_alloc _ _))).mono ?_); rintro e wk ⟨ca0, ca1, ca2, ca3, ca4, cn0, cn1, cn2, cn3, cn4, cm0, cm1, cm2, cm3, cm4, rfl, hans, hbk⟩;
            have Bk : Hid (Below U.heap.size U wk) := behind hbk (And.left (by with_reducible assumption));
            (try have FB : Hid (BoxR U (setL wk _ 0 [.slice ca0 cn0 cm0, .slice ca1 cn1 cm1, .slice ca2 cn2 cm2, .slice ca3 cn3 cm3, .slice ca4 cn4 cm4]) _ o (.slice ca0 cn0 cm0) (.slice ca1 cn1 cm1) (.slice ca2 cn2 cm2) (.slice ca3 cn3 cm3) (.slice ca4 cn4 cm4)) := fin_boxR HX.out hans hbk Bk.out (by first | exact Nat.le_refl _ | omega | (simp [go_sem]; omega)));
            (try have FB : Hid (BoxR U (setL wk _ 0 [.slice ca0 cn0 cm0, .slice ca1 cn1 cm1, .slice ca2 cn2 cm2, .slice ca3 cn3 cm3, .slice ca4 cn4 cm4]) _ o (.slice ca0 cn0 cm0) (.slice ca1 cn1 cm1) (.slice ca2 cn2 cm2) (.slice ca3 cn3 cm3) (.slice ca4 cn4 cm4)) := fin_boxR (row_fresh _ [.slice none 0 0, .slice none 0 0, .slice none 0 0, .slice none 0 0, .slice none 0 0] 46) hans hbk Bk.out (by first | exact Nat.le_refl _ | omega | (simp [go_sem]; omega)));
            have FN : Hid (BoxR U (wk.alloc (.cells #[.slice ca0 cn0 cm0, .slice ca1 cn1 cm1, .slice ca2 cn2 cm2, .slice ca3 cn3 cm3, .slice ca4 cn4 cm4] 46)) wk.heap.size o (.slice ca0 cn0 cm0) (.slice ca1 cn1 cm1) (.slice ca2 cn2 cm2) (.slice ca3 cn3 cm3) (.slice ca4 cn4 cm4)) := fin_newR hans (by first | exact Nat.le_refl _ | omega | (simp [go_sem]; omega)) Bk.out; clear hans;
            (first | have C := behind hbk (by with_reducible assumption) | have C := hbk); obtain ⟨hck, hfk, hzk⟩ := bfacts C))
      all_goals
        go_split_ands
        go_wp2_with fail
        go_meet
        case rel =>
          first
            | exact ⟨_, _, _, _, _, _, _, _, _, _, _, _, _, _, _, _, rfl, rfl, FB.out⟩
            | exact ⟨U.heap.size, _, _, _, _, _, _, _, _, _, _, _, _, _, _, _, rfl, rfl, FB.out⟩
            | exact ⟨_, _, _, _, _, _, _, _, _, _, _, _, _, _, _, _, rfl, rfl, FN.out⟩
    case rest =>
    obtain ⟨Za, aa0, aa1, aa2, aa3, aa4, an0, an1, an2, an3, an4, am0, am1, am2, am3, am4, rfl, rfl, hZ, hFB, hUZ, Ba, Ta, hFA, hUB, hTW, hapa⟩ := hcut
    subst hU
    have B3 : Hid (Below V.heap.size V wc) := below_then B1.out hFB
    have W3 : Hid (Row wc Za [.slice aa0 an0 am0, .slice aa1 an1 am1, .slice aa2 an2 am2, .slice aa3 an3 am3, .slice aa4 an4 am4]) := hZ
    have P3 : Hid (RmV Ba Ta wc o (.slice aa0 an0 am0) (.slice aa1 an1 am1) (.slice aa2 an2 am2) (.slice aa3 an3 am3) (.slice aa4 an4 am4)) := hFA
    have hV3 : V.heap.size ≤ wc.heap.size := B3.out.size
    have hZa1 : V.heap.size ≤ Za := by omega
    have hZa2 : Za < wc.heap.size := hZ.lt
    have hBa : V.heap.size ≤ Ba := by omega
    clear hFA hFB hZ D1 z1 z2 HK HSU HAU HWU HLU B1 HCS hVU hUZ hUB hapa
    generalize hT : wc.heap.size = T0 at hTW hV3 hZa2
    generalize wc = w3 at *
    have q0 := (HA.out.below B3.out).cell 0 _ rfl
    have q1 := (HA.out.below B3.out).cell 1 _ rfl
    have q2 := (HA.out.below B3.out).cell 2 _ rfl
    have q3 := (HA.out.below B3.out).cell 3 _ rfl
    have q4 := (HA.out.below B3.out).cell 4 _ rfl
    go_wp2_with fail
    refine (toRoom_c A R HM.out _ (HS.out.below B3.out)).mono ?_
    rintro e w4 ⟨gP, gN, gU, gQ, gL, hs, rfl, hro, hb⟩
    have hT4 : T0 ≤ w4.heap.size := by have := hb.size; omega
    have hTP : T0 ≤ gP := by have := hro.ord.1; omega
    have lPL : gP < gL := by have := hro.ord; omega
    have lL : gL < w4.heap.size := hro.rL.lt
    have O4 : Hid (RO w4 _ R gP gN gU gQ gL hs) := hro
    have B4 : Hid (Below V.heap.size V w4) := below_then B3.out hb
    have W4 : Hid (Row w4 Za [.slice aa0 an0 am0, .slice aa1 an1 am1, .slice aa2 an2 am2, .slice aa3 an3 am3, .slice aa4 an4 am4]) := W3.out.below hb
    have P4 : Hid (RmV Ba Ta w4 o (.slice aa0 an0 am0) (.slice aa1 an1 am1) (.slice aa2 an2 am2) (.slice aa3 an3 am3) (.slice aa4 an4 am4)) := P3.out.below hb
    clear hb B3 W3 P3
    clear hro hT q0 q1 q2 q3 q4
    generalize hTB : w3.heap.size = TB at O4
    have B5 : Hid (Below V.heap.size V (w4.alloc (.cells #[.slice (some ⟨gP, 0, none⟩) R.ps.length R.ps.length, .slice (some ⟨gN, 0, none⟩) R.ns.length R.ns.length, .slice (some ⟨gU, 0, none⟩) R.up.length R.up.length, .slice (some ⟨gQ, 0, none⟩) R.pss.length R.pss.length, .slice (some ⟨gL, 0, none⟩) R.lic.length R.lic.length] 46))) := behind_alloc B4.out _
    have W5 : Hid (Row (w4.alloc (.cells #[.slice (some ⟨gP, 0, none⟩) R.ps.length R.ps.length, .slice (some ⟨gN, 0, none⟩) R.ns.length R.ns.length, .slice (some ⟨gU, 0, none⟩) R.up.length R.up.length, .slice (some ⟨gQ, 0, none⟩) R.pss.length R.pss.length, .slice (some ⟨gL, 0, none⟩) R.lic.length R.lic.length] 46)) Za [.slice aa0 an0 am0, .slice aa1 an1 am1, .slice aa2 an2 am2, .slice aa3 an3 am3, .slice aa4 an4 am4]) := W4.out.below (low_alloc _ _)
    have P5 : Hid (RmV Ba Ta (w4.alloc (.cells #[.slice (some ⟨gP, 0, none⟩) R.ps.length R.ps.length, .slice (some ⟨gN, 0, none⟩) R.ns.length R.ns.length, .slice (some ⟨gU, 0, none⟩) R.up.length R.up.length, .slice (some ⟨gQ, 0, none⟩) R.pss.length R.pss.length, .slice (some ⟨gL, 0, none⟩) R.lic.length R.lic.length] 46)) o (.slice aa0 an0 am0) (.slice aa1 an1 am1) (.slice aa2 an2 am2) (.slice aa3 an3 am3) (.slice aa4 an4 am4)) := P4.out.below (low_alloc _ _)
    have O5 : Hid (RO (w4.alloc (.cells #[.slice (some ⟨gP, 0, none⟩) R.ps.length R.ps.length, .slice (some ⟨gN, 0, none⟩) R.ns.length R.ns.length, .slice (some ⟨gU, 0, none⟩) R.up.length R.up.length, .slice (some ⟨gQ, 0, none⟩) R.pss.length R.pss.length, .slice (some ⟨gL, 0, none⟩) R.lic.length R.lic.length] 46)) TB R gP gN gU gQ gL hs) := O4.out.below (low_alloc _ _)
    have X5 : Hid (Row (w4.alloc (.cells #[.slice (some ⟨gP, 0, none⟩) R.ps.length R.ps.length, .slice (some ⟨gN, 0, none⟩) R.ns.length R.ns.length, .slice (some ⟨gU, 0, none⟩) R.up.length R.up.length, .slice (some ⟨gQ, 0, none⟩) R.pss.length R.pss.length, .slice (some ⟨gL, 0, none⟩) R.lic.length R.lic.length] 46)) w4.heap.size [.slice (some ⟨gP, 0, none⟩) R.ps.length R.ps.length, .slice (some ⟨gN, 0, none⟩) R.ns.length R.ns.length, .slice (some ⟨gU, 0, none⟩) R.up.length R.up.length, .slice (some ⟨gQ, 0, none⟩) R.pss.length R.pss.length, .slice (some ⟨gL, 0, none⟩) R.lic.length R.lic.length]) := row_fresh w4 [.slice (some ⟨gP, 0, none⟩) R.ps.length R.ps.length, .slice (some ⟨gN, 0, none⟩) R.ns.length R.ns.length, .slice (some ⟨gU, 0, none⟩) R.up.length R.up.length, .slice (some ⟨gQ, 0, none⟩) R.pss.length R.pss.length, .slice (some ⟨gL, 0, none⟩) R.lic.length R.lic.length] 46
    clear B4 W4 P4 O4 hTB
    go_wp2_with fail
    generalize w4.alloc (.cells #[.slice (some ⟨gP, 0, none⟩) R.ps.length R.ps.length, .slice (some ⟨gN, 0, none⟩) R.ns.length R.ns.length, .slice (some ⟨gU, 0, none⟩) R.up.length R.up.length, .slice (some ⟨gQ, 0, none⟩) R.pss.length R.pss.length, .slice (some ⟨gL, 0, none⟩) R.lic.length R.lic.length] 46) = w5 at *
    generalize w4.heap.size = X at *
    have hX5 : X < w5.heap.size := X5.out.lt
    refine (toIntS_c x cx xs hx2 _ (HL.out.below B5.out)).mono ?_
    rintro e w6 ⟨gx, rfl, hgx, hrx, hb⟩
    have Y6 : Hid (Row w6 gx (ints xs)) := hrx
    have hgx6 : gx < w6.heap.size := hrx.lt
    have hXg : X < gx := by omega
    have B6 : Hid (Below V.heap.size V w6) := below_then B5.out hb
    have W6 : Hid (Row w6 Za [.slice aa0 an0 am0, .slice aa1 an1 am1, .slice aa2 an2 am2, .slice aa3 an3 am3, .slice aa4 an4 am4]) := W5.out.below hb
    have P6 : Hid (RmV Ba Ta w6 o (.slice aa0 an0 am0) (.slice aa1 an1 am1) (.slice aa2 an2 am2) (.slice aa3 an3 am3) (.slice aa4 an4 am4)) := P5.out.below hb
    have O6 : Hid (RO w6 TB R gP gN gU gQ gL hs) := O5.out.below hb
    have X6 : Hid (Row w6 X [.slice (some ⟨gP, 0, none⟩) R.ps.length R.ps.length, .slice (some ⟨gN, 0, none⟩) R.ns.length R.ns.length, .slice (some ⟨gU, 0, none⟩) R.up.length R.up.length, .slice (some ⟨gQ, 0, none⟩) R.pss.length R.pss.length, .slice (some ⟨gL, 0, none⟩) R.lic.length R.lic.length]) := X5.out.below hb
    clear hb B5 W5 P5 O5 X5
    clear hrx hgx hX5
    go_wp2_with fail
    have HOU : Hid (RO w6 TB R gP gN gU gQ gL hs) := O6
    have HXU : Hid (Row w6 X [.slice (some ⟨gP, 0, none⟩) R.ps.length R.ps.length, .slice (some ⟨gN, 0, none⟩) R.ns.length R.ns.length, .slice (some ⟨gU, 0, none⟩) R.up.length R.up.length, .slice (some ⟨gQ, 0, none⟩) R.pss.length R.pss.length, .slice (some ⟨gL, 0, none⟩) R.lic.length R.lic.length]) := X6
    have HYU : Hid (Row w6 gx (ints xs)) := Y6
    have HWU : Hid (Row w6 (A0 + 1) [.int .i64 j.id, .int .i64 j.pr, .int .i64 j.nd, .int .i64 j.na, .int .i64 j.nb, .int .i64 j.nc, .int .i64 j.la, .int .i64 j.lb, .int .i64 j.lc, .int .i64 j.wl, .int .i64 j.lv]) := HW.out.below B6.out
    generalize hU : w6 = U at *
    have HK : Hid (∀ W : World, Below U.heap.size U W → Below U.heap.size U W ∧ U.heap.size ≤ W.heap.size ∧ W.cell? ⟨X, 0, none⟩ = some (.slice (some ⟨gP, 0, none⟩) R.ps.length R.ps.length) ∧ W.cell? ⟨X, 1, none⟩ = some (.slice (some ⟨gN, 0, none⟩) R.ns.length R.ns.length) ∧ W.cell? ⟨X, 2, none⟩ = some (.slice (some ⟨gU, 0, none⟩) R.up.length R.up.length) ∧ W.cell? ⟨X, 3, none⟩ = some (.slice (some ⟨gQ, 0, none⟩) R.pss.length R.pss.length) ∧ W.cell? ⟨X, 4, none⟩ = some (.slice (some ⟨gL, 0, none⟩) R.lic.length R.lic.length) ∧ W.cell? ⟨A0 + 1, 0, none⟩ = some (.int .i64 j.id) ∧ W.cell? ⟨A0 + 1, 1, none⟩ = some (.int .i64 j.pr) ∧ W.cell? ⟨A0 + 1, 2, none⟩ = some (.int .i64 j.nd) ∧ W.cell? ⟨A0 + 1, 3, none⟩ = some (.int .i64 j.na) ∧ W.cell? ⟨A0 + 1, 4, none⟩ = some (.int .i64 j.nb) ∧ W.cell? ⟨A0 + 1, 5, none⟩ = some (.int .i64 j.nc) ∧ W.cell? ⟨A0 + 1, 6, none⟩ = some (.int .i64 j.la) ∧ W.cell? ⟨A0 + 1, 7, none⟩ = some (.int .i64 j.lb) ∧ W.cell? ⟨A0 + 1, 8, none⟩ = some (.int .i64 j.lc) ∧ W.cell? ⟨A0 + 1, 9, none⟩ = some (.int .i64 j.wl) ∧ W.cell? ⟨A0 + 1, 10, none⟩ = some (.int .i64 j.lv)) := fun W h => ⟨h, h.size, (HXU.out.below h).cell 0 _ rfl, (HXU.out.below h).cell 1 _ rfl, (HXU.out.below h).cell 2 _ rfl, (HXU.out.below h).cell 3 _ rfl, (HXU.out.below h).cell 4 _ rfl, (HWU.out.below h).cell 0 _ rfl, (HWU.out.below h).cell 1 _ rfl, (HWU.out.below h).cell 2 _ rfl, (HWU.out.below h).cell 3 _ rfl, (HWU.out.below h).cell 4 _ rfl, (HWU.out.below h).cell 5 _ rfl, (HWU.out.below h).cell 6 _ rfl, (HWU.out.below h).cell 7 _ rfl, (HWU.out.below h).cell 8 _ rfl, (HWU.out.below h).cell 9 _ rfl, (HWU.out.below h).cell 10 _ rfl⟩
    have D1 : Hid (Below U.heap.size U U.drew) := low_drew U
    have z1 : U.heap.size ≤ U.heap.size := Nat.le_refl _
    have z2 : U.heap.size ≤ U.drew.heap.size := Nat.le_refl _
    go_cut [14, 15] (fun p q wc => ∃ (Z : Nat) (ca0 ca1 ca2 ca3 ca4 : Option Addr) (cn0 cn1 cn2 cn3 cn4 cm0 cm1 cm2 cm3 cm4 : Nat), p = .pointer (some ⟨Z, 0, none⟩) ∧ q = .bool k ∧ BoxR U wc Z o (.slice ca0 cn0 cm0) (.slice ca1 cn1 cm1) (.slice ca2 cn2 cm2) (.slice ca3 cn3 cm3) (.slice ca4 cn4 cm4))
    case first =>
      go_region_held3 (fun W => Below U.heap.size U W ∧ U.heap.size ≤ W.heap.size ∧ W.cell? ⟨X, 0, none⟩ = some (.slice (some ⟨gP, 0, none⟩) R.ps.length R.ps.length) ∧ W.cell? ⟨X, 1, none⟩ = some (.slice (some ⟨gN, 0, none⟩) R.ns.length R.ns.length) ∧ W.cell? ⟨X, 2, none⟩ = some (.slice (some ⟨gU, 0, none⟩) R.up.length R.up.length) ∧ W.cell? ⟨X, 3, none⟩ = some (.slice (some ⟨gQ, 0, none⟩) R.pss.length R.pss.length) ∧ W.cell? ⟨X, 4, none⟩ = some (.slice (some ⟨gL, 0, none⟩) R.lic.length R.lic.length) ∧ W.cell? ⟨A0 + 1, 0, none⟩ = some (.int .i64 j.id) ∧ W.cell? ⟨A0 + 1, 1, none⟩ = some (.int .i64 j.pr) ∧ W.cell? ⟨A0 + 1, 2, none⟩ = some (.int .i64 j.nd) ∧ W.cell? ⟨A0 + 1, 3, none⟩ = some (.int .i64 j.na) ∧ W.cell? ⟨A0 + 1, 4, none⟩ = some (.int .i64 j.nb) ∧ W.cell? ⟨A0 + 1, 5, none⟩ = some (.int .i64 j.nc) ∧ W.cell? ⟨A0 + 1, 6, none⟩ = some (.int .i64 j.la) ∧ W.cell? ⟨A0 + 1, 7, none⟩ = some (.int .i64 j.lb) ∧ W.cell? ⟨A0 + 1, 8, none⟩ = some (.int .i64 j.lc) ∧ W.cell? ⟨A0 + 1, 9, none⟩ = some (.int .i64 j.wl) ∧ W.cell? ⟨A0 + 1, 10, none⟩ = some (.int .i64 j.lv)) ((go_split_ands; refine HK.out _ ?_; first | (exact Hid.out (by with_reducible assumption)) | (exact behind_alloc (Hid.out (by with_reducible assumption)) _) | (with_reducible assumption) | (exact behind (by with_reducible assumption) (by with_reducible assumption)) | (exact behind_alloc (by with_reducible assumption) _) | (repeat (refine Below.setCell ?_ (by with_reducible assumption) _)); (exact Hid.out (by with_reducible assumption)) | (go_grown; done)))
        (first
        | (go_at_call 8; refine (toJob_c j _).mono ?_; rintro e wk ⟨rfl, hbk⟩; (try (first | have HX : Hid (Row wk _ [.slice none 0 0, .slice none 0 0, .slice none 0 0, .slice none 0 0, .slice none 0 0]) := (row_fresh _ [.slice none 0 0, .slice none 0 0, .slice none 0 0, .slice none 0 0, .slice none 0 0] 46).below hbk | have HX : Hid (Row wk _ [.slice none 0 0, .slice none 0 0, .slice none 0 0, .slice none 0 0, .slice none 0 0]) := ((row_fresh _ [.slice none 0 0, .slice none 0 0, .slice none 0 0, .slice none 0 0, .slice none 0 0] 46).below (low_drew _)).below hbk)); have Bk : Hid (Below U.heap.size U wk) := behind hbk (And.left (by with_reducible assumption)); have zk := Bk.out.size; (first | have C := behind hbk (by with_reducible assumption) | have C := hbk); obtain ⟨hck, hfk, hzk⟩ := bfacts C)
        | (go_at_call 10; refine (HCI.out _ _ _ _ _ _ _ _ _ (HOU.out.below (And.left (by with_reducible assumption))) (HYU.out.below (And.left (by with_reducible assumption)))).mono ?_; rintro e wk ⟨ca0, ca1, ca2, ca3, ca4, cn0, cn1, cn2, cn3, cn4, cm0, cm1, cm2, cm3, cm4, rfl, hans, hbk⟩;
            have Bk : Hid (Below U.heap.size U wk) := behind hbk (And.left (by with_reducible assumption));
            (try have FB : Hid (BoxR U (setL wk _ 0 [.slice ca0 cn0 cm0, .slice ca1 cn1 cm1, .slice ca2 cn2 cm2, .slice ca3 cn3 cm3, .slice ca4 cn4 cm4]) _ o (.slice ca0 cn0 cm0) (.slice ca1 cn1 cm1) (.slice ca2 cn2 cm2) (.slice ca3 cn3 cm3) (.slice ca4 cn4 cm4)) := fin_boxR HX.out hans hbk Bk.out (by first | exact Nat.le_refl _ | omega | (simp [go_sem]; omega)));
            (try have FB : Hid (BoxR U (setL wk _ 0 [.slice ca0 cn0 cm0, .slice ca1 cn1 cm1, .slice ca2 cn2 cm2, .slice ca3 cn3 cm3, .slice ca4 cn4 cm4]) _ o (.slice ca0 cn0 cm0) (.slice ca1 cn1 cm1) (.slice ca2 cn2 cm2) (.slice ca3 cn3 cm3) (.slice ca4 cn4 cm4)) := fin_boxR (row_fresh _ [.slice none 0 0, .slice none 0 0, .slice none 0 0, .slice none 0 0, .slice none 0 0] 46) hans hbk Bk.out (by first | exact Nat.le_refl _ | omega | (simp [go_sem]; omega)));
            have FN : Hid (BoxR U (wk.alloc (.cells #[.slice ca0 cn0 cm0, .slice ca1 cn1 cm1, .slice ca2 cn2 cm2, .slice ca3 cn3 cm3, .slice ca4 cn4 cm4] 46)) wk.heap.size o (.slice ca0 cn0 cm0) (.slice ca1 cn1 cm1) (.slice ca2 cn2 cm2) (.slice ca3 cn3 cm3) (.slice ca4 cn4 cm4)) := fin_newR hans (by first | exact Nat.le_refl _ | omega | (simp [go_sem]; omega)) Bk.out; clear hans;
            (first | have C := behind hbk (by with_reducible assumption) | have C := hbk); obtain ⟨hck, hfk, hzk⟩ := bfacts C))
      all_goals
        go_split_ands
        go_wp2_with fail
        go_meet
        case rel =>
          first
            | exact ⟨_, _, _, _, _, _, _, _, _, _, _, _, _, _, _, _, rfl, rfl, FB.out⟩
            | exact ⟨U.heap.size, _, _, _, _, _, _, _, _, _, _, _, _, _, _, _, rfl, rfl, FB.out⟩
            | exact ⟨_, _, _, _, _, _, _, _, _, _, _, _, _, _, _, _, rfl, rfl, FN.out⟩
    case rest =>
    obtain ⟨Zb, ba0, ba1, ba2, ba3, ba4, bn0, bn1, bn2, bn3, bn4, bm0, bm1, bm2, bm3, bm4, rfl, rfl, hZ, hFB, hUZ, Bb, Tb, hFA, hUB, hTW, hapb⟩ := hcut
    subst hU
    have hb := hFB
    have G7 : Hid (Row wc Zb [.slice ba0 bn0 bm0, .slice ba1 bn1 bm1, .slice ba2 bn2 bm2, .slice ba3 bn3 bm3, .slice ba4 bn4 bm4]) := hZ
    have Q7 : Hid (RmV Bb Tb wc o (.slice ba0 bn0 bm0) (.slice ba1 bn1 bm1) (.slice ba2 bn2 bm2) (.slice ba3 bn3 bm3) (.slice ba4 bn4 bm4)) := hFA
    have B7 : Hid (Below V.heap.size V wc) := below_then B6.out hb
    have W7 : Hid (Row wc Za [.slice aa0 an0 am0, .slice aa1 an1 am1, .slice aa2 an2 am2, .slice aa3 an3 am3, .slice aa4 an4 am4]) := W6.out.below hb
    have P7 : Hid (RmV Ba Ta wc o (.slice aa0 an0 am0) (.slice aa1 an1 am1) (.slice aa2 an2 am2) (.slice aa3 an3 am3) (.slice aa4 an4 am4)) := P6.out.below hb
    have O7 : Hid (RO wc TB R gP gN gU gQ gL hs) := O6.out.below hb
    have X7 : Hid (Row wc X [.slice (some ⟨gP, 0, none⟩) R.ps.length R.ps.length, .slice (some ⟨gN, 0, none⟩) R.ns.length R.ns.length, .slice (some ⟨gU, 0, none⟩) R.up.length R.up.length, .slice (some ⟨gQ, 0, none⟩) R.pss.length R.pss.length, .slice (some ⟨gL, 0, none⟩) R.lic.length R.lic.length]) := X6.out.below hb
    have Y7 : Hid (Row wc gx (ints xs)) := Y6.out.below hb
    have hZb : gx < Zb := by omega
    have hBb : gx < Bb := by omega
    clear hb hFA hFB hZ D1 z1 z2 HK HOU HXU HYU HWU hUZ hUB B6 W6 P6 O6 X6 Y6
    clear hgx6
    generalize hTC : wc.heap.size = TC at hTW
    generalize wc = w7 at *
    have gv0 := G7.out.cell 0 _ rfl
    have gv1 := G7.out.cell 1 _ rfl
    have gv2 := G7.out.cell 2 _ rfl
    have gv3 := G7.out.cell 3 _ rfl
    have gv4 := G7.out.cell 4 _ rfl
    have wv0 := W7.out.cell 0 _ rfl
    have wv1 := W7.out.cell 1 _ rfl
    have wv2 := W7.out.cell 2 _ rfl
    have wv3 := W7.out.cell 3 _ rfl
    have wv4 := W7.out.cell 4 _ rfl
    go_wp2_with fail
    refine (eqRoom_v HO.out Q7.out P7.out).mono ?_
    rintro e w8 ⟨rfl, hb⟩
    clear gv0 gv1 gv2 gv3 gv4 wv0 wv1 wv2 wv3 wv4
    have hT8 : TC ≤ w8.heap.size := by have := hb.size; omega
    clear hTC
    have B8 : Hid (Below V.heap.size V w8) := below_then B7.out hb
    have W8 : Hid (Row w8 Za [.slice aa0 an0 am0, .slice aa1 an1 am1, .slice aa2 an2 am2, .slice aa3 an3 am3, .slice aa4 an4 am4]) := W7.out.below hb
    have P8 : Hid (RmV Ba Ta w8 o (.slice aa0 an0 am0) (.slice aa1 an1 am1) (.slice aa2 an2 am2) (.slice aa3 an3 am3) (.slice aa4 an4 am4)) := P7.out.below hb
    have O8 : Hid (RO w8 TB R gP gN gU gQ gL hs) := O7.out.below hb
    have X8 : Hid (Row w8 X [.slice (some ⟨gP, 0, none⟩) R.ps.length R.ps.length, .slice (some ⟨gN, 0, none⟩) R.ns.length R.ns.length, .slice (some ⟨gU, 0, none⟩) R.up.length R.up.length, .slice (some ⟨gQ, 0, none⟩) R.pss.length R.pss.length, .slice (some ⟨gL, 0, none⟩) R.lic.length R.lic.length]) := X7.out.below hb
    have Y8 : Hid (Row w8 gx (ints xs)) := Y7.out.below hb
    have G8 : Hid (Row w8 Zb [.slice ba0 bn0 bm0, .slice ba1 bn1 bm1, .slice ba2 bn2 bm2, .slice ba3 bn3 bm3, .slice ba4 bn4 bm4]) := G7.out.below hb
    have Q8 : Hid (RmV Bb Tb w8 o (.slice ba0 bn0 bm0) (.slice ba1 bn1 bm1) (.slice ba2 bn2 bm2) (.slice ba3 bn3 bm3) (.slice ba4 bn4 bm4)) := Q7.out.below hb
    clear hb B7 W7 P7 O7 X7 Y7 G7 Q7
    go_wp2_with fail
    have B9 : Hid (Below V.heap.size V w8.drew) := below_then B8.out (low_drew _)
    have W9 : Hid (Row w8.drew Za [.slice aa0 an0 am0, .slice aa1 an1 am1, .slice aa2 an2 am2, .slice aa3 an3 am3, .slice aa4 an4 am4]) := W8.out.below (low_drew _)
    have P9 : Hid (RmV Ba Ta w8.drew o (.slice aa0 an0 am0) (.slice aa1 an1 am1) (.slice aa2 an2 am2) (.slice aa3 an3 am3) (.slice aa4 an4 am4)) := P8.out.below (low_drew _)
    have O9 : Hid (RO w8.drew TB R gP gN gU gQ gL hs) := O8.out.below (low_drew _)
    have X9 : Hid (Row w8.drew X [.slice (some ⟨gP, 0, none⟩) R.ps.length R.ps.length, .slice (some ⟨gN, 0, none⟩) R.ns.length R.ns.length, .slice (some ⟨gU, 0, none⟩) R.up.length R.up.length, .slice (some ⟨gQ, 0, none⟩) R.pss.length R.pss.length, .slice (some ⟨gL, 0, none⟩) R.lic.length R.lic.length]) := X8.out.below (low_drew _)
    have Y9 : Hid (Row w8.drew gx (ints xs)) := Y8.out.below (low_drew _)
    have G9 : Hid (Row w8.drew Zb [.slice ba0 bn0 bm0, .slice ba1 bn1 bm1, .slice ba2 bn2 bm2, .slice ba3 bn3 bm3, .slice ba4 bn4 bm4]) := G8.out.below (low_drew _)
    have Q9 : Hid (RmV Bb Tb w8.drew o (.slice ba0 bn0 bm0) (.slice ba1 bn1 bm1) (.slice ba2 bn2 bm2) (.slice ba3 bn3 bm3) (.slice ba4 bn4 bm4)) := Q8.out.below (low_drew _)
    have q0 := (HA.out.below B8.out).cell 0 _ rfl
    have x0 := X8.out.cell 0 _ rfl
    have q1 := (HA.out.below B8.out).cell 1 _ rfl
    have x1 := X8.out.cell 1 _ rfl
    have q2 := (HA.out.below B8.out).cell 2 _ rfl
    have x2 := X8.out.cell 2 _ rfl
    have q3 := (HA.out.below B8.out).cell 3 _ rfl
    have x3 := X8.out.cell 3 _ rfl
    have q4 := (HA.out.below B8.out).cell 4 _ rfl
    have x4 := X8.out.cell 4 _ rfl
    clear B8 W8 P8 O8 X8 Y8 G8 Q8
    go_cut [66] (fun u wc => u = .bool false ∧ w8.heap.size ≤ wc.heap.size ∧ (Below V.heap.size V wc) ∧ (Row wc Za [.slice aa0 an0 am0, .slice aa1 an1 am1, .slice aa2 an2 am2, .slice aa3 an3 am3, .slice aa4 an4 am4]) ∧ (RmV Ba Ta wc o (.slice aa0 an0 am0) (.slice aa1 an1 am1) (.slice aa2 an2 am2) (.slice aa3 an3 am3) (.slice aa4 an4 am4)) ∧ (RO wc TB R gP gN gU gQ gL hs) ∧ (Row wc X [.slice (some ⟨gP, 0, none⟩) R.ps.length R.ps.length, .slice (some ⟨gN, 0, none⟩) R.ns.length R.ns.length, .slice (some ⟨gU, 0, none⟩) R.up.length R.up.length, .slice (some ⟨gQ, 0, none⟩) R.pss.length R.pss.length, .slice (some ⟨gL, 0, none⟩) R.lic.length R.lic.length]) ∧ (Row wc gx (ints xs)) ∧ (Row wc Zb [.slice ba0 bn0 bm0, .slice ba1 bn1 bm1, .slice ba2 bn2 bm2, .slice ba3 bn3 bm3, .slice ba4 bn4 bm4]) ∧ (RmV Bb Tb wc o (.slice ba0 bn0 bm0) (.slice ba1 bn1 bm1) (.slice ba2 bn2 bm2) (.slice ba3 bn3 bm3) (.slice ba4 bn4 bm4)))
    case first =>
      go_region_with (first
        | (go_at_call 7; refine (toRoom_c A R HM.out w8.drew (HS.out.below B9.out)).mono ?_; rintro e wb ⟨g1, g2, g3, g4, g5, hs8, rfl, hro, hb⟩; have sb : w8.heap.size ≤ wb.heap.size := hb.size; have y0 := (X9.out.below hb).cell 0 _ rfl; have y1 := (X9.out.below hb).cell 1 _ rfl; have y2 := (X9.out.below hb).cell 2 _ rfl; have y3 := (X9.out.below hb).cell 3 _ rfl; have y4 := (X9.out.below hb).cell 4 _ rfl; have By : Hid (Below V.heap.size V wb) := below_then B9.out hb; have Wy : Hid (Row wb Za [.slice aa0 an0 am0, .slice aa1 an1 am1, .slice aa2 an2 am2, .slice aa3 an3 am3, .slice aa4 an4 am4]) := W9.out.below hb; have Py : Hid (RmV Ba Ta wb o (.slice aa0 an0 am0) (.slice aa1 an1 am1) (.slice aa2 an2 am2) (.slice aa3 an3 am3) (.slice aa4 an4 am4)) := P9.out.below hb; have Oy : Hid (RO wb TB R gP gN gU gQ gL hs) := O9.out.below hb; have Xy : Hid (Row wb X [.slice (some ⟨gP, 0, none⟩) R.ps.length R.ps.length, .slice (some ⟨gN, 0, none⟩) R.ns.length R.ns.length, .slice (some ⟨gU, 0, none⟩) R.up.length R.up.length, .slice (some ⟨gQ, 0, none⟩) R.pss.length R.pss.length, .slice (some ⟨gL, 0, none⟩) R.lic.length R.lic.length]) := X9.out.below hb; have Yy : Hid (Row wb gx (ints xs)) := Y9.out.below hb; have Gy : Hid (Row wb Zb [.slice ba0 bn0 bm0, .slice ba1 bn1 bm1, .slice ba2 bn2 bm2, .slice ba3 bn3 bm3, .slice ba4 bn4 bm4]) := G9.out.below hb; have Qy : Hid (RmV Bb Tb wb o (.slice ba0 bn0 bm0) (.slice ba1 bn1 bm1) (.slice ba2 bn2 bm2) (.slice ba3 bn3 bm3) (.slice ba4 bn4 bm4)) := Q9.out.below hb; have K8 : Hid (RAt wb (ownRa R g1 g2 g3 g4 g5) R) := hro.rat; clear hb hro)
        | (go_at_call 11; refine (eqRoom_c (ownRa R gP gN gU gQ gL) (ownRa R g1 g2 g3 g4 g5) R HM.out wb Oy.out.rat K8.out).mono ?_; rintro e wd ⟨rfl, hb⟩; have sd : w8.heap.size ≤ wd.heap.size := Nat.le_trans sb hb.size; have Bd : Hid (Below V.heap.size V wd) := below_then By.out hb; have Wd : Hid (Row wd Za [.slice aa0 an0 am0, .slice aa1 an1 am1, .slice aa2 an2 am2, .slice aa3 an3 am3, .slice aa4 an4 am4]) := Wy.out.below hb; have Pd : Hid (RmV Ba Ta wd o (.slice aa0 an0 am0) (.slice aa1 an1 am1) (.slice aa2 an2 am2) (.slice aa3 an3 am3) (.slice aa4 an4 am4)) := Py.out.below hb; have Od : Hid (RO wd TB R gP gN gU gQ gL hs) := Oy.out.below hb; have Xd : Hid (Row wd X [.slice (some ⟨gP, 0, none⟩) R.ps.length R.ps.length, .slice (some ⟨gN, 0, none⟩) R.ns.length R.ns.length, .slice (some ⟨gU, 0, none⟩) R.up.length R.up.length, .slice (some ⟨gQ, 0, none⟩) R.pss.length R.pss.length, .slice (some ⟨gL, 0, none⟩) R.lic.length R.lic.length]) := Xy.out.below hb; have Yd : Hid (Row wd gx (ints xs)) := Yy.out.below hb; have Gd : Hid (Row wd Zb [.slice ba0 bn0 bm0, .slice ba1 bn1 bm1, .slice ba2 bn2 bm2, .slice ba3 bn3 bm3, .slice ba4 bn4 bm4]) := Gy.out.below hb; have Qd : Hid (RmV Bb Tb wd o (.slice ba0 bn0 bm0) (.slice ba1 bn1 bm1) (.slice ba2 bn2 bm2) (.slice ba3 bn3 bm3) (.slice ba4 bn4 bm4)) := Qy.out.below hb; clear hb))
      all_goals
        go_wp2_with fail
        go_meet
        case rel => exact ⟨rfl, sd, Bd.out, Wd.out, Pd.out, Od.out, Xd.out, Yd.out, Gd.out, Qd.out⟩
    case rest =>
    clear B9 W9 P9 O9 X9 Y9 G9 Q9 q0 q1 q2 q3 q4 x0 x1 x2 x3 x4
    obtain ⟨rfl, hsc, jB, jW, jP, jO, jX, jY, jG, jQ⟩ := hcut
    have Bc : Hid (Below V.heap.size V wc) := jB
    have Wc : Hid (Row wc Za [.slice aa0 an0 am0, .slice aa1 an1 am1, .slice aa2 an2 am2, .slice aa3 an3 am3, .slice aa4 an4 am4]) := jW
    have Pc : Hid (RmV Ba Ta wc o (.slice aa0 an0 am0) (.slice aa1 an1 am1) (.slice aa2 an2 am2) (.slice aa3 an3 am3) (.slice aa4 an4 am4)) := jP
    have Oc : Hid (RO wc TB R gP gN gU gQ gL hs) := jO
    have Xc : Hid (Row wc X [.slice (some ⟨gP, 0, none⟩) R.ps.length R.ps.length, .slice (some ⟨gN, 0, none⟩) R.ns.length R.ns.length, .slice (some ⟨gU, 0, none⟩) R.up.length R.up.length, .slice (some ⟨gQ, 0, none⟩) R.pss.length R.pss.length, .slice (some ⟨gL, 0, none⟩) R.lic.length R.lic.length]) := jX
    have Yc : Hid (Row wc gx (ints xs)) := jY
    have Gc : Hid (Row wc Zb [.slice ba0 bn0 bm0, .slice ba1 bn1 bm1, .slice ba2 bn2 bm2, .slice ba3 bn3 bm3, .slice ba4 bn4 bm4]) := jG
    have Qc : Hid (RmV Bb Tb wc o (.slice ba0 bn0 bm0) (.slice ba1 bn1 bm1) (.slice ba2 bn2 bm2) (.slice ba3 bn3 bm3) (.slice ba4 bn4 bm4)) := jQ
    clear jB jW jP jO jX jY jG jQ
    have hTc : TC ≤ wc.heap.size := by omega
    clear hsc hT8
    go_wp2_with fail
    refine (toIntS_c x cx xs hx2 _ (HL.out.below Bc.out)).mono ?_
    rintro e wd ⟨ga, rfl, hga, hr, hb⟩
    have hTd : TC ≤ wd.heap.size := by have := hb.size; omega
    have Rd : Hid (Row wd ga (ints xs)) := hr
    have Bd : Hid (Below V.heap.size V wd) := below_then Bc.out hb
    have Wd : Hid (Row wd Za [.slice aa0 an0 am0, .slice aa1 an1 am1, .slice aa2 an2 am2, .slice aa3 an3 am3, .slice aa4 an4 am4]) := Wc.out.below hb
    have Pd : Hid (RmV Ba Ta wd o (.slice aa0 an0 am0) (.slice aa1 an1 am1) (.slice aa2 an2 am2) (.slice aa3 an3 am3) (.slice aa4 an4 am4)) := Pc.out.below hb
    have Od : Hid (RO wd TB R gP gN gU gQ gL hs) := Oc.out.below hb
    have Xd : Hid (Row wd X [.slice (some ⟨gP, 0, none⟩) R.ps.length R.ps.length, .slice (some ⟨gN, 0, none⟩) R.ns.length R.ns.length, .slice (some ⟨gU, 0, none⟩) R.up.length R.up.length, .slice (some ⟨gQ, 0, none⟩) R.pss.length R.pss.length, .slice (some ⟨gL, 0, none⟩) R.lic.length R.lic.length]) := Xc.out.below hb
    have Yd : Hid (Row wd gx (ints xs)) := Yc.out.below hb
    have Gd : Hid (Row wd Zb [.slice ba0 bn0 bm0, .slice ba1 bn1 bm1, .slice ba2 bn2 bm2, .slice ba3 bn3 bm3, .slice ba4 bn4 bm4]) := Gc.out.below hb
    have Qd : Hid (RmV Bb Tb wd o (.slice ba0 bn0 bm0) (.slice ba1 bn1 bm1) (.slice ba2 bn2 bm2) (.slice ba3 bn3 bm3) (.slice ba4 bn4 bm4)) := Qc.out.below hb
    clear hb Bc Wc Pc Oc Xc Yc Gc Qc
    clear hr hga hTc
    go_wp2_with fail
    refine (eqIntS_c _ _ _ _ xs xs hx2 _ (Sq.of_row Yd.out) (Sq.of_row Rd.out)).mono ?_
    rintro e we ⟨rfl, hb⟩
    rw [show decide (xs = xs) = true by simp]
    have hTe : TC ≤ we.heap.size := by have := hb.size; omega
    have Be : Hid (Below V.heap.size V we) := below_then Bd.out hb
    have We : Hid (Row we Za [.slice aa0 an0 am0, .slice aa1 an1 am1, .slice aa2 an2 am2, .slice aa3 an3 am3, .slice aa4 an4 am4]) := Wd.out.below hb
    have Pe : Hid (RmV Ba Ta we o (.slice aa0 an0 am0) (.slice aa1 an1 am1) (.slice aa2 an2 am2) (.slice aa3 an3 am3) (.slice aa4 an4 am4)) := Pd.out.below hb
    have Oe : Hid (RO we TB R gP gN gU gQ gL hs) := Od.out.below hb
    have Xe : Hid (Row we X [.slice (some ⟨gP, 0, none⟩) R.ps.length R.ps.length, .slice (some ⟨gN, 0, none⟩) R.ns.length R.ns.length, .slice (some ⟨gU, 0, none⟩) R.up.length R.up.length, .slice (some ⟨gQ, 0, none⟩) R.pss.length R.pss.length, .slice (some ⟨gL, 0, none⟩) R.lic.length R.lic.length]) := Xd.out.below hb
    have Ye : Hid (Row we gx (ints xs)) := Yd.out.below hb
    have Ge : Hid (Row we Zb [.slice ba0 bn0 bm0, .slice ba1 bn1 bm1, .slice ba2 bn2 bm2, .slice ba3 bn3 bm3, .slice ba4 bn4 bm4]) := Gd.out.below hb
    have Qe : Hid (RmV Bb Tb we o (.slice ba0 bn0 bm0) (.slice ba1 bn1 bm1) (.slice ba2 bn2 bm2) (.slice ba3 bn3 bm3) (.slice ba4 bn4 bm4)) := Qd.out.below hb
    clear hb Bd Wd Pd Od Xd Yd Gd Qd
    clear Rd hTd
    have x0 := Xe.out.cell 0 _ rfl
    have x1 := Xe.out.cell 1 _ rfl
    have x2 := Xe.out.cell 2 _ rfl
    have x3 := Xe.out.cell 3 _ rfl
    have x4 := Xe.out.cell 4 _ rfl
    go_wp2_with fail
    refine (markRoom_c R gP gN gU gQ gL hs HM.out HT.out _ _ Oe.out).mono ?_
    rintro e wf ⟨km, rfl, hkm, hap⟩
    have Bf : Hid (Below V.heap.size V wf) := hap.2.1 _ Be.out (by omega)
    have Wf : Hid (Row wf Za [.slice aa0 an0 am0, .slice aa1 an1 am1, .slice aa2 an2 am2, .slice aa3 an3 am3, .slice aa4 an4 am4]) := hap.1 _ _ We.out (.inl (by omega))
    have Pf : Hid (RmV Ba Ta wf o (.slice aa0 an0 am0) (.slice aa1 an1 am1) (.slice aa2 an2 am2) (.slice aa3 an3 am3) (.slice aa4 an4 am4)) := Pe.out.keep fun g ys h1 h2 hr => hap.1 g _ hr (.inl (by omega))
    have Yf : Hid (Row wf gx (ints xs)) := hap.1 _ _ Ye.out (.inr (by omega))
    have Gf : Hid (Row wf Zb [.slice ba0 bn0 bm0, .slice ba1 bn1 bm1, .slice ba2 bn2 bm2, .slice ba3 bn3 bm3, .slice ba4 bn4 bm4]) := hap.1 _ _ Ge.out (.inr (by omega))
    have Qf : Hid (RmV Bb Tb wf o (.slice ba0 bn0 bm0) (.slice ba1 bn1 bm1) (.slice ba2 bn2 bm2) (.slice ba3 bn3 bm3) (.slice ba4 bn4 bm4)) := Qe.out.keep fun g ys h1 h2 hr => hap.1 g _ hr (.inr (by omega))
    have hTf : TC ≤ wf.heap.size := by have := hap.2.2; omega
    clear hap x0 x1 x2 x3 x4 Be We Pe Oe Xe Ye Ge Qe hTe
    have HMI := markIntS_c gx xs.length km (ints xs) (by rw [ints_len]; omega) (by omega) wf Yf.out
    rw [ints_len] at HMI
    go_wp2_with fail
    refine HMI.mono ?_
    rintro e wg ⟨rfl, hgr, hr⟩
    clear HMI
    have Bg : Hid (Below V.heap.size V wg) := Bf.out.grown hgr Bf.out.size (fun b e => by cases e; omega)
    have Wg : Hid (Row wg Za [.slice aa0 an0 am0, .slice aa1 an1 am1, .slice aa2 an2 am2, .slice aa3 an3 am3, .slice aa4 an4 am4]) := Wf.out.far hgr (fun e => by have := Option.some.inj e; omega)
    have Pg : Hid (RmV Ba Ta wg o (.slice aa0 an0 am0) (.slice aa1 an1 am1) (.slice aa2 an2 am2) (.slice aa3 an3 am3) (.slice aa4 an4 am4)) := Pf.out.keep fun g ys h1 h2 hr => hr.far hgr (fun e => by have := Option.some.inj e; omega)
    have Gg : Hid (Row wg Zb [.slice ba0 bn0 bm0, .slice ba1 bn1 bm1, .slice ba2 bn2 bm2, .slice ba3 bn3 bm3, .slice ba4 bn4 bm4]) := Gf.out.far hgr (fun e => by have := Option.some.inj e; omega)
    have Qg : Hid (RmV Bb Tb wg o (.slice ba0 bn0 bm0) (.slice ba1 bn1 bm1) (.slice ba2 bn2 bm2) (.slice ba3 bn3 bm3) (.slice ba4 bn4 bm4)) := Qf.out.keep fun g ys h1 h2 hr => hr.far hgr (fun e => by have := Option.some.inj e; omega)
    have hTg : TC ≤ wg.heap.size := by have := hgr.size; omega
    clear hgr hr Bf Wf Pf Yf Gf Qf hTf
    have hkk : (0 : Int) ≤ ((km + xs.length : Nat) : Int) := by omega
    generalize ((km + xs.length : Nat) : Int) = kk at hkk ⊢
    have gv0 := Gg.out.cell 0 _ rfl
    have gv1 := Gg.out.cell 1 _ rfl
    have gv2 := Gg.out.cell 2 _ rfl
    have gv3 := Gg.out.cell 3 _ rfl
    have gv4 := Gg.out.cell 4 _ rfl
    have wv0 := Wg.out.cell 0 _ rfl
    have wv1 := Wg.out.cell 1 _ rfl
    have wv2 := Wg.out.cell 2 _ rfl
    have wv3 := Wg.out.cell 3 _ rfl
    have wv4 := Wg.out.cell 4 _ rfl
    go_wp2_with fail
    refine (eqRoom_v HO.out Qg.out Pg.out).mono ?_
    rintro e wh ⟨rfl, hb⟩
    have hTh : TC ≤ wh.heap.size := by have := hb.size; omega
    clear gv0 gv1 gv2 gv3 gv4 wv0 wv1 wv2 wv3 wv4
    have Bh : Hid (Below V.heap.size V wh) := below_then Bg.out hb
    have Wh : Hid (Row wh Za [.slice aa0 an0 am0, .slice aa1 an1 am1, .slice aa2 an2 am2, .slice aa3 an3 am3, .slice aa4 an4 am4]) := Wg.out.below hb
    have Ph : Hid (RmV Ba Ta wh o (.slice aa0 an0 am0) (.slice aa1 an1 am1) (.slice aa2 an2 am2) (.slice aa3 an3 am3) (.slice aa4 an4 am4)) := Pg.out.below hb
    have Gh : Hid (Row wh Zb [.slice ba0 bn0 bm0, .slice ba1 bn1 bm1, .slice ba2 bn2 bm2, .slice ba3 bn3 bm3, .slice ba4 bn4 bm4]) := Gg.out.below hb
    have Qh : Hid (RmV Bb Tb wh o (.slice ba0 bn0 bm0) (.slice ba1 bn1 bm1) (.slice ba2 bn2 bm2) (.slice ba3 bn3 bm3) (.slice ba4 bn4 bm4)) := Qg.out.below hb
    clear hb Bg Wg Pg Gg Qg
    clear hTg
    have gv0 := Gh.out.cell 0 _ rfl
    have gv1 := Gh.out.cell 1 _ rfl
    have gv2 := Gh.out.cell 2 _ rfl
    have gv3 := Gh.out.cell 3 _ rfl
    have gv4 := Gh.out.cell 4 _ rfl
    go_wp2_with fail
    refine (markRoom_v HO.out Qh.out).mono ?_
    rintro e wi ⟨rfl, hC, hap⟩
    have Bi : Hid (Below V.heap.size V wi) := hap.2.1 _ Bh.out (by omega)
    have Wi : Hid (Row wi Za [.slice aa0 an0 am0, .slice aa1 an1 am1, .slice aa2 an2 am2, .slice aa3 an3 am3, .slice aa4 an4 am4]) := hap.1 _ _ Wh.out (.inl (by omega))
    have Pi : Hid (RmV Ba Ta wi o (.slice aa0 an0 am0) (.slice aa1 an1 am1) (.slice aa2 an2 am2) (.slice aa3 an3 am3) (.slice aa4 an4 am4)) := Ph.out.keep fun g ys h1 h2 hr => hap.1 g _ hr (.inl (by omega))
    have Gi : Hid (Row wi Zb [.slice ba0 bn0 bm0, .slice ba1 bn1 bm1, .slice ba2 bn2 bm2, .slice ba3 bn3 bm3, .slice ba4 bn4 bm4]) := hap.1 _ _ Gh.out hapb
    have Qi : Hid (RmM Bb Tb wi o (.slice ba0 bn0 bm0) (.slice ba1 bn1 bm1) (.slice ba2 bn2 bm2) (.slice ba3 bn3 bm3) (.slice ba4 bn4 bm4)) := hC
    clear gv0 gv1 gv2 gv3 gv4
    clear hC hap Bh Wh Ph Gh Qh hTh hapb
    have hm1 := (mkE_le HO.out).1
    have hm2 := (mkE_le HO.out).2
    have HH : Hid (∀ W : World, RmM Bb Tb W o (.slice ba0 bn0 bm0) (.slice ba1 bn1 bm1) (.slice ba2 bn2 bm2) (.slice ba3 bn3 bm3) (.slice ba4 bn4 bm4) → Calls Tryz.prog 15 #[.agg #[.slice ba0 bn0 bm0, .slice ba1 bn1 bm1, .slice ba2 bn2 bm2, .slice ba3 bn3 bm3, .slice ba4 bn4 bm4], .int .i64 1] W fun e w' => e = .returned (.int .i64 ((mkE o : Nat) : Int)) ∧ Below W.heap.size W w') := fun W h => heldRoom_v HO.out h
    have hm3 : (0 : Int) ≤ ((mkE o : Nat) : Int) := by omega
    generalize ((mkE o : Nat) : Int) = mm at HH hm3 ⊢
    clear hm1 hm2
    have gv0 := Gi.out.cell 0 _ rfl
    have gv1 := Gi.out.cell 1 _ rfl
    have gv2 := Gi.out.cell 2 _ rfl
    have gv3 := Gi.out.cell 3 _ rfl
    have gv4 := Gi.out.cell 4 _ rfl
    go_wp2_with fail
    refine (HH.out _ Qi.out).mono ?_
    rintro e wj ⟨rfl, hb⟩
    clear gv0 gv1 gv2 gv3 gv4
    have Bj : Hid (Below V.heap.size V wj) := below_then Bi.out hb
    have Wj : Hid (Row wj Za [.slice aa0 an0 am0, .slice aa1 an1 am1, .slice aa2 an2 am2, .slice aa3 an3 am3, .slice aa4 an4 am4]) := Wi.out.below hb
    have Pj : Hid (RmV Ba Ta wj o (.slice aa0 an0 am0) (.slice aa1 an1 am1) (.slice aa2 an2 am2) (.slice aa3 an3 am3) (.slice aa4 an4 am4)) := Pi.out.below hb
    have Gj : Hid (Row wj Zb [.slice ba0 bn0 bm0, .slice ba1 bn1 bm1, .slice ba2 bn2 bm2, .slice ba3 bn3 bm3, .slice ba4 bn4 bm4]) := Gi.out.below hb
    have Qj : Hid (RmM Bb Tb wj o (.slice ba0 bn0 bm0) (.slice ba1 bn1 bm1) (.slice ba2 bn2 bm2) (.slice ba3 bn3 bm3) (.slice ba4 bn4 bm4)) := Qi.out.below hb
    clear hb Bi Wi Pi Gi Qi
    go_wp2_with fail
    have HSU : Hid (RAt wj A R) := HS.out.below Bj.out
    have HAU : Hid (Row wj A0 [.slice A.aP R.ps.length A.cP, .slice A.aN R.ns.length A.cN, .slice A.aU R.up.length A.cU, .slice A.aQ R.pss.length A.cQ, .slice A.aL R.lic.length A.cL]) := HA.out.below Bj.out
    have HWU : Hid (Row wj (A0 + 1) [.int .i64 j.id, .int .i64 j.pr, .int .i64 j.nd, .int .i64 j.na, .int .i64 j.nb, .int .i64 j.nc, .int .i64 j.la, .int .i64 j.lb, .int .i64 j.lc, .int .i64 j.wl, .int .i64 j.lv]) := HW.out.below Bj.out
    have HLU : Hid (Sq wj x (ints xs)) := HL.out.below Bj.out
    have hVU : V.heap.size ≤ wj.heap.size := Bj.out.size
    generalize hU : wj = U at *
    have HK : Hid (∀ W : World, Below U.heap.size U W → Below U.heap.size U W ∧ U.heap.size ≤ W.heap.size ∧ W.cell? ⟨A0, 0, none⟩ = some (.slice A.aP R.ps.length A.cP) ∧ W.cell? ⟨A0, 1, none⟩ = some (.slice A.aN R.ns.length A.cN) ∧ W.cell? ⟨A0, 2, none⟩ = some (.slice A.aU R.up.length A.cU) ∧ W.cell? ⟨A0, 3, none⟩ = some (.slice A.aQ R.pss.length A.cQ) ∧ W.cell? ⟨A0, 4, none⟩ = some (.slice A.aL R.lic.length A.cL) ∧ W.cell? ⟨A0 + 1, 0, none⟩ = some (.int .i64 j.id) ∧ W.cell? ⟨A0 + 1, 1, none⟩ = some (.int .i64 j.pr) ∧ W.cell? ⟨A0 + 1, 2, none⟩ = some (.int .i64 j.nd) ∧ W.cell? ⟨A0 + 1, 3, none⟩ = some (.int .i64 j.na) ∧ W.cell? ⟨A0 + 1, 4, none⟩ = some (.int .i64 j.nb) ∧ W.cell? ⟨A0 + 1, 5, none⟩ = some (.int .i64 j.nc) ∧ W.cell? ⟨A0 + 1, 6, none⟩ = some (.int .i64 j.la) ∧ W.cell? ⟨A0 + 1, 7, none⟩ = some (.int .i64 j.lb) ∧ W.cell? ⟨A0 + 1, 8, none⟩ = some (.int .i64 j.lc) ∧ W.cell? ⟨A0 + 1, 9, none⟩ = some (.int .i64 j.wl) ∧ W.cell? ⟨A0 + 1, 10, none⟩ = some (.int .i64 j.lv)) := fun W h => ⟨h, h.size, (HAU.out.below h).cell 0 _ rfl, (HAU.out.below h).cell 1 _ rfl, (HAU.out.below h).cell 2 _ rfl, (HAU.out.below h).cell 3 _ rfl, (HAU.out.below h).cell 4 _ rfl, (HWU.out.below h).cell 0 _ rfl, (HWU.out.below h).cell 1 _ rfl, (HWU.out.below h).cell 2 _ rfl, (HWU.out.below h).cell 3 _ rfl, (HWU.out.below h).cell 4 _ rfl, (HWU.out.below h).cell 5 _ rfl, (HWU.out.below h).cell 6 _ rfl, (HWU.out.below h).cell 7 _ rfl, (HWU.out.below h).cell 8 _ rfl, (HWU.out.below h).cell 9 _ rfl, (HWU.out.below h).cell 10 _ rfl⟩
    have D1 : Hid (Below U.heap.size U U.drew) := low_drew U
    have z1 : U.heap.size ≤ U.heap.size := Nat.le_refl _
    have z2 : U.heap.size ≤ U.drew.heap.size := Nat.le_refl _
    go_cut [19, 20] (fun p q wc => ∃ (Z : Nat) (ca0 ca1 ca2 ca3 ca4 : Option Addr) (cn0 cn1 cn2 cn3 cn4 cm0 cm1 cm2 cm3 cm4 : Nat), p = .pointer (some ⟨Z, 0, none⟩) ∧ q = .bool k ∧ BoxR U wc Z o (.slice ca0 cn0 cm0) (.slice ca1 cn1 cm1) (.slice ca2 cn2 cm2) (.slice ca3 cn3 cm3) (.slice ca4 cn4 cm4))
    case first =>
      go_region_held3 (fun W => Below U.heap.size U W ∧ U.heap.size ≤ W.heap.size ∧ W.cell? ⟨A0, 0, none⟩ = some (.slice A.aP R.ps.length A.cP) ∧ W.cell? ⟨A0, 1, none⟩ = some (.slice A.aN R.ns.length A.cN) ∧ W.cell? ⟨A0, 2, none⟩ = some (.slice A.aU R.up.length A.cU) ∧ W.cell? ⟨A0, 3, none⟩ = some (.slice A.aQ R.pss.length A.cQ) ∧ W.cell? ⟨A0, 4, none⟩ = some (.slice A.aL R.lic.length A.cL) ∧ W.cell? ⟨A0 + 1, 0, none⟩ = some (.int .i64 j.id) ∧ W.cell? ⟨A0 + 1, 1, none⟩ = some (.int .i64 j.pr) ∧ W.cell? ⟨A0 + 1, 2, none⟩ = some (.int .i64 j.nd) ∧ W.cell? ⟨A0 + 1, 3, none⟩ = some (.int .i64 j.na) ∧ W.cell? ⟨A0 + 1, 4, none⟩ = some (.int .i64 j.nb) ∧ W.cell? ⟨A0 + 1, 5, none⟩ = some (.int .i64 j.nc) ∧ W.cell? ⟨A0 + 1, 6, none⟩ = some (.int .i64 j.la) ∧ W.cell? ⟨A0 + 1, 7, none⟩ = some (.int .i64 j.lb) ∧ W.cell? ⟨A0 + 1, 8, none⟩ = some (.int .i64 j.lc) ∧ W.cell? ⟨A0 + 1, 9, none⟩ = some (.int .i64 j.wl) ∧ W.cell? ⟨A0 + 1, 10, none⟩ = some (.int .i64 j.lv)) ((go_split_ands; refine HK.out _ ?_; first | (exact Hid.out (by with_reducible assumption)) | (exact behind_alloc (Hid.out (by with_reducible assumption)) _) | (with_reducible assumption) | (exact behind (by with_reducible assumption) (by with_reducible assumption)) | (exact behind_alloc (by with_reducible assumption) _) | (repeat (refine Below.setCell ?_ (by with_reducible assumption) _)); (exact Hid.out (by with_reducible assumption)) | (go_grown; done)))
        (first
        | (go_at_call 7; refine (toRoom_c A R HM.out _ (HSU.out.below (And.left (by with_reducible assumption)))).mono ?_; rintro e wk ⟨fP, fN, fU, fQ, fL, fs, rfl, hro, hbk⟩; have HR1 : Hid (RO wk _ R fP fN fU fQ fL fs) := hro; clear hro; (try (first | have HX : Hid (Row wk _ [.slice none 0 0, .slice none 0 0, .slice none 0 0, .slice none 0 0, .slice none 0 0]) := (row_fresh _ [.slice none 0 0, .slice none 0 0, .slice none 0 0, .slice none 0 0, .slice none 0 0] 46).below hbk | have HX : Hid (Row wk _ [.slice none 0 0, .slice none 0 0, .slice none 0 0, .slice none 0 0, .slice none 0 0]) := ((row_fresh _ [.slice none 0 0, .slice none 0 0, .slice none 0 0, .slice none 0 0, .slice none 0 0] 46).below (low_drew _)).below hbk)); have Bk : Hid (Below U.heap.size U wk) := behind hbk (And.left (by with_reducible assumption)); have zk := Bk.out.size; (first | have C := behind hbk (by with_reducible assumption) | have C := hbk); obtain ⟨hck, hfk, hzk⟩ := bfacts C)
        | (go_at_call 8; refine (toJob_c j _).mono ?_; rintro e wk ⟨rfl, hbk⟩; (first | (have HR2 : Hid (RO wk _ R fP fN fU fQ fL fs) := HR1.out.below hbk) | (have HR2 : Hid (RO wk _ R fP fN fU fQ fL fs) := (HR1.out.below (low_alloc _ _)).below hbk)); (try have HX : Hid (Row wk _ [.slice none 0 0, .slice none 0 0, .slice none 0 0, .slice none 0 0, .slice none 0 0]) := HX.out.below hbk); (try (first | have HX : Hid (Row wk _ [.slice none 0 0, .slice none 0 0, .slice none 0 0, .slice none 0 0, .slice none 0 0]) := (row_fresh _ [.slice none 0 0, .slice none 0 0, .slice none 0 0, .slice none 0 0, .slice none 0 0] 46).below hbk | have HX : Hid (Row wk _ [.slice none 0 0, .slice none 0 0, .slice none 0 0, .slice none 0 0, .slice none 0 0]) := ((row_fresh _ [.slice none 0 0, .slice none 0 0, .slice none 0 0, .slice none 0 0, .slice none 0 0] 46).below (low_drew _)).below hbk)); have Bk : Hid (Below U.heap.size U wk) := behind hbk (And.left (by with_reducible assumption)); have zk := Bk.out.size; (first | have C := behind hbk (by with_reducible assumption) | have C := hbk); obtain ⟨hck, hfk, hzk⟩ := bfacts C)
        | (go_at_call 9; refine (toIntS_c x cx xs hx2 _ (HLU.out.below (And.left (by with_reducible assumption)))).mono ?_; rintro e wk ⟨fx, rfl, hfx, hrx, hbk⟩; (first | (have HR3 : Hid (RO wk _ R fP fN fU fQ fL fs) := HR2.out.below hbk) | (have HR3 : Hid (RO wk _ R fP fN fU fQ fL fs) := (HR2.out.below (low_alloc _ _)).below hbk)); have HY3 : Hid (Row wk fx (ints xs)) := hrx; clear hrx hfx; (try have HX : Hid (Row wk _ [.slice none 0 0, .slice none 0 0, .slice none 0 0, .slice none 0 0, .slice none 0 0]) := HX.out.below hbk); (try (first | have HX : Hid (Row wk _ [.slice none 0 0, .slice none 0 0, .slice none 0 0, .slice none 0 0, .slice none 0 0]) := (row_fresh _ [.slice none 0 0, .slice none 0 0, .slice none 0 0, .slice none 0 0, .slice none 0 0] 46).below hbk | have HX : Hid (Row wk _ [.slice none 0 0, .slice none 0 0, .slice none 0 0, .slice none 0 0, .slice none 0 0]) := ((row_fresh _ [.slice none 0 0, .slice none 0 0, .slice none 0 0, .slice none 0 0, .slice none 0 0] 46).below (low_drew _)).below hbk)); have Bk : Hid (Below U.heap.size U wk) := behind hbk (And.left (by with_reducible assumption)); have zk := Bk.out.size; (first | have C := behind hbk (by with_reducible assumption) | have C := hbk); obtain ⟨hck, hfk, hzk⟩ := bfacts C)
        | (go_at_call 10; (first | refine (HCI.out _ _ _ _ _ _ _ _ _ HR3.out HY3.out).mono ?_ | refine (HCI.out _ _ _ _ _ _ _ _ _ (HR3.out.below (low_alloc _ _)) (HY3.out.below (low_alloc _ _))).mono ?_); rintro e wk ⟨ca0, ca1, ca2, ca3, ca4, cn0, cn1, cn2, cn3, cn4, cm0, cm1, cm2, cm3, cm4, rfl, hans, hbk⟩;
            have Bk : Hid (Below U.heap.size U wk) := behind hbk (And.left (by with_reducible assumption));
            (try have FB : Hid (BoxR U (setL wk _ 0 [.slice ca0 cn0 cm0, .slice ca1 cn1 cm1, .slice ca2 cn2 cm2, .slice ca3 cn3 cm3, .slice ca4 cn4 cm4]) _ o (.slice ca0 cn0 cm0) (.slice ca1 cn1 cm1) (.slice ca2 cn2 cm2) (.slice ca3 cn3 cm3) (.slice ca4 cn4 cm4)) := fin_boxR HX.out hans hbk Bk.out (by first | exact Nat.le_refl _ | omega | (simp [go_sem]; omega)));
            (try have FB : Hid (BoxR U (setL wk _ 0 [.slice ca0 cn0 cm0, .slice ca1 cn1 cm1, .slice ca2 cn2 cm2, .slice ca3 cn3 cm3, .slice ca4 cn4 cm4]) _ o (.slice ca0 cn0 cm0) (.slice ca1 cn1 cm1) (.slice ca2 cn2 cm2) (.slice ca3 cn3 cm3) (.slice ca4 cn4 cm4)) := fin_boxR (row_fresh _ [.slice none 0 0, .slice none 0 0, .slice none 0 0, .slice none 0 0, .slice none 0 0] 46) hans hbk Bk.out (by first | exact Nat.le_refl _ | omega | (simp [go_sem]; omega)));
            have FN : Hid (BoxR U (wk.alloc (.cells #[.slice ca0 cn0 cm0, .slice ca1 cn1 cm1, .slice ca2 cn2 cm2, .slice ca3 cn3 cm3, .slice ca4 cn4 cm4] 46)) wk.heap.size o (.slice ca0 cn0 cm0) (.slice ca1 cn1 cm1) (.slice ca2 cn2 cm2) (.slice ca3 cn3 cm3) (.slice ca4 cn4 cm4)) := fin_newR hans (by first | exact Nat.le_refl _ | omega | (simp [go_sem]; omega)) Bk.out; clear hans;
            (first | have C := behind hbk (by with_reducible assumption) | have C := hbk); obtain ⟨hck, hfk, hzk⟩ := bfacts C))
      all_goals
        go_split_ands
        go_wp2_with fail
        go_meet
        case rel =>
          first
            | exact ⟨_, _, _, _, _, _, _, _, _, _, _, _, _, _, _, _, rfl, rfl, FB.out⟩
            | exact ⟨U.heap.size, _, _, _, _, _, _, _, _, _, _, _, _, _, _, _, rfl, rfl, FB.out⟩
            | exact ⟨_, _, _, _, _, _, _, _, _, _, _, _, _, _, _, _, rfl, rfl, FN.out⟩
    case rest =>
    obtain ⟨Zh, ha0, ha1, ha2, ha3, ha4, hn0, hn1, hn2, hn3, hn4, hm0, hm1, hm2, hm3, hm4, rfl, rfl, hZ, hFB, hUZ, Bh, Th, hFA, hUB, hTW, haph⟩ := hcut
    subst hU
    have hb := hFB
    have E9 : Hid (RmV Bh Th wc o (.slice ha0 hn0 hm0) (.slice ha1 hn1 hm1) (.slice ha2 hn2 hm2) (.slice ha3 hn3 hm3) (.slice ha4 hn4 hm4)) := hFA
    have F9 : Hid (Row wc Zh [.slice ha0 hn0 hm0, .slice ha1 hn1 hm1, .slice ha2 hn2 hm2, .slice ha3 hn3 hm3, .slice ha4 hn4 hm4]) := hZ
    have Bk : Hid (Below V.heap.size V wc) := below_then Bj.out hb
    have Wk : Hid (Row wc Za [.slice aa0 an0 am0, .slice aa1 an1 am1, .slice aa2 an2 am2, .slice aa3 an3 am3, .slice aa4 an4 am4]) := Wj.out.below hb
    have Pk : Hid (RmV Ba Ta wc o (.slice aa0 an0 am0) (.slice aa1 an1 am1) (.slice aa2 an2 am2) (.slice aa3 an3 am3) (.slice aa4 an4 am4)) := Pj.out.below hb
    have Gk : Hid (Row wc Zb [.slice ba0 bn0 bm0, .slice ba1 bn1 bm1, .slice ba2 bn2 bm2, .slice ba3 bn3 bm3, .slice ba4 bn4 bm4]) := Gj.out.below hb
    have Qk : Hid (RmM Bb Tb wc o (.slice ba0 bn0 bm0) (.slice ba1 bn1 bm1) (.slice ba2 bn2 bm2) (.slice ba3 bn3 bm3) (.slice ba4 bn4 bm4)) := Qj.out.below hb
    clear hb hFA hFB hZ D1 z1 z2 HK HSU HAU HWU HLU hVU hUZ hUB hTW haph Bj Wj Pj Gj Qj
    have ev0 := F9.out.cell 0 _ rfl
    have ev1 := F9.out.cell 1 _ rfl
    have ev2 := F9.out.cell 2 _ rfl
    have ev3 := F9.out.cell 3 _ rfl
    have ev4 := F9.out.cell 4 _ rfl
    have wv0 := Wk.out.cell 0 _ rfl
    have wv1 := Wk.out.cell 1 _ rfl
    have wv2 := Wk.out.cell 2 _ rfl
    have wv3 := Wk.out.cell 3 _ rfl
    have wv4 := Wk.out.cell 4 _ rfl
    go_wp2_with fail
    refine (eqRoom_v HO.out E9.out Pk.out).mono ?_
    rintro e wn ⟨rfl, hb⟩
    clear E9 F9 ev0 ev1 ev2 ev3 ev4
    clear wv0 wv1 wv2 wv3 wv4
    have Bn : Hid (Below V.heap.size V wn) := below_then Bk.out hb
    have Wn : Hid (Row wn Za [.slice aa0 an0 am0, .slice aa1 an1 am1, .slice aa2 an2 am2, .slice aa3 an3 am3, .slice aa4 an4 am4]) := Wk.out.below hb
    have Pn : Hid (RmV Ba Ta wn o (.slice aa0 an0 am0) (.slice aa1 an1 am1) (.slice aa2 an2 am2) (.slice aa3 an3 am3) (.slice aa4 an4 am4)) := Pk.out.below hb
    have Gn : Hid (Row wn Zb [.slice ba0 bn0 bm0, .slice ba1 bn1 bm1, .slice ba2 bn2 bm2, .slice ba3 bn3 bm3, .slice ba4 bn4 bm4]) := Gk.out.below hb
    have Qn : Hid (RmM Bb Tb wn o (.slice ba0 bn0 bm0) (.slice ba1 bn1 bm1) (.slice ba2 bn2 bm2) (.slice ba3 bn3 bm3) (.slice ba4 bn4 bm4)) := Qk.out.below hb
    clear hb Bk Wk Pk Gk Qk
    have gv0 := Gn.out.cell 0 _ rfl
    have gv1 := Gn.out.cell 1 _ rfl
    have gv2 := Gn.out.cell 2 _ rfl
    have gv3 := Gn.out.cell 3 _ rfl
    have gv4 := Gn.out.cell 4 _ rfl
    go_wp2_with fail
    refine (HH.out _ Qn.out).mono ?_
    rintro e wo ⟨rfl, hb⟩
    clear gv0 gv1 gv2 gv3 gv4
    have Bo : Hid (Below V.heap.size V wo) := below_then Bn.out hb
    have Wo : Hid (Row wo Za [.slice aa0 an0 am0, .slice aa1 an1 am1, .slice aa2 an2 am2, .slice aa3 an3 am3, .slice aa4 an4 am4]) := Wn.out.below hb
    have Po : Hid (RmV Ba Ta wo o (.slice aa0 an0 am0) (.slice aa1 an1 am1) (.slice aa2 an2 am2) (.slice aa3 an3 am3) (.slice aa4 an4 am4)) := Pn.out.below hb
    have Go : Hid (Row wo Zb [.slice ba0 bn0 bm0, .slice ba1 bn1 bm1, .slice ba2 bn2 bm2, .slice ba3 bn3 bm3, .slice ba4 bn4 bm4]) := Gn.out.below hb
    have Qo : Hid (RmM Bb Tb wo o (.slice ba0 bn0 bm0) (.slice ba1 bn1 bm1) (.slice ba2 bn2 bm2) (.slice ba3 bn3 bm3) (.slice ba4 bn4 bm4)) := Qn.out.below hb
    clear hb Bn Wn Pn Gn Qn
    go_wp2_with fail
    go_ret
    exact ⟨rfl, below_then HV.out Bo.out⟩
end LawReserve
end Go.Proofs.YtmpjebkjopfejaaGreat
