/- FnExactRoomOk: for every room the program's RoomOk answers as the specification's; no condition. -/
import Derived.Test.YtgpogglaffehcaaRmF
import Derived.Test.YtgpogglaffehcaaRmP
import Derived.ProofKit
import Derived.OpenShut
import Derived.Deep.DeepCutAuto
import Derived.Deep.RegionWith
namespace Go.Proofs.Ytgpogglaffehcaa
namespace LawRoomOk
open Go.ChangeShapes Go.WideShapes Go.ChangeAt Go.RowKit Go.Joins

set_option maxHeartbeats 8000000 in
set_option maxRecDepth 100000 in
theorem walk (A : Ra) (R : Rm) (hw : RWide R) (w : World) (h : RAt w A R) :
    Calls Try.prog 9 #[.agg #[.slice A.aP R.ps.length A.cP, .slice A.aN R.ns.length A.cN, .slice A.aU R.up.length A.cU, .slice A.aQ R.pss.length A.cQ, .slice A.aL R.lic.length A.cL]] w fun e w' => e = .returned (.bool true) ∧ Below w.heap.size w w' := by
  have H : Hid (RAt w A R) := h
  have HW : Hid (RWide R) := hw
  clear h hw
  go_enter Try.func9, Try.ntmps9
  go_wp2_with fail
  generalize hV : w.alloc (.cells #[.slice A.aP R.ps.length A.cP, .slice A.aN R.ns.length A.cN, .slice A.aU R.up.length A.cU, .slice A.aQ R.pss.length A.cQ, .slice A.aL R.lic.length A.cL] 71) = V
  have HA : Hid (Row V w.heap.size [.slice A.aP R.ps.length A.cP, .slice A.aN R.ns.length A.cN, .slice A.aU R.up.length A.cU, .slice A.aQ R.pss.length A.cQ, .slice A.aL R.lic.length A.cL]) := by subst hV; exact row_fresh w [.slice A.aP R.ps.length A.cP, .slice A.aN R.ns.length A.cN, .slice A.aU R.up.length A.cU, .slice A.aQ R.pss.length A.cQ, .slice A.aL R.lic.length A.cL] 71
  have HV : Hid (Below w.heap.size w V) := by subst hV; exact low_alloc _ _
  clear hV
  have HS : Hid (RAt V A R) := H.out.below HV.out
  refine (szRoom_c A R HW.out V HS.out).mono ?_
  rintro e w1 ⟨z, rfl, hz, hb⟩
  have HZ : Hid (0 ≤ z → RSmall R ∧ RTot R) := hz
  have B1 : Hid (Below V.heap.size V w1) := hb
  clear hb hz
  by_cases hzn : z < 0
  · go_wp2_with fail
    go_ret
    exact ⟨rfl, below_then HV.out B1.out⟩
  · have HM : Hid (RSmall R) := (HZ.out (by omega)).1
    clear HZ
    have a0 := (HA.out.below B1.out).cell 0 _ rfl
    have a1 := (HA.out.below B1.out).cell 1 _ rfl
    have a2 := (HA.out.below B1.out).cell 2 _ rfl
    have a3 := (HA.out.below B1.out).cell 3 _ rfl
    have a4 := (HA.out.below B1.out).cell 4 _ rfl
    go_wp2_with fail
    refine (toRoom_c A R HM.out _ (HS.out.below B1.out)).mono ?_
    rintro e w2 ⟨fP, fN, fU, fQ, fL, fs, rfl, hro, hb⟩
    have T2 : Hid (RAt w2 (ownRa R fP fN fU fQ fL) R) := hro.rat
    have B2 : Hid (Below V.heap.size V w2) := below_then B1.out hb
    clear hb hro B1 a0 a1 a2 a3 a4
    go_wp2_with fail
    refine (specRoomOk_c (ownRa R fP fN fU fQ fL) R HM.out _ T2.out).mono ?_
    rintro e w3 ⟨k, rfl, hk, hb⟩
    have HK : Hid (k = true ↔ ROk R) := hk
    have B3 : Hid (Below V.heap.size V w3) := below_then B2.out hb
    clear hb hk T2 B2
    have a0 := (HA.out.below B3.out).cell 0 _ rfl
    have a1 := (HA.out.below B3.out).cell 1 _ rfl
    have a2 := (HA.out.below B3.out).cell 2 _ rfl
    have a3 := (HA.out.below B3.out).cell 3 _ rfl
    have a4 := (HA.out.below B3.out).cell 4 _ rfl
    go_wp2_with fail
    refine (toRoom_c A R HM.out _ (HS.out.below B3.out)).mono ?_
    rintro e w4 ⟨gP, gN, gU, gQ, gL, hs, rfl, hro, hb⟩
    have B5 : Hid (Below V.heap.size V (w4.alloc (.cells #[.slice (some ⟨gP, 0, none⟩) R.ps.length R.ps.length, .slice (some ⟨gN, 0, none⟩) R.ns.length R.ns.length, .slice (some ⟨gU, 0, none⟩) R.up.length R.up.length, .slice (some ⟨gQ, 0, none⟩) R.pss.length R.pss.length, .slice (some ⟨gL, 0, none⟩) R.lic.length R.lic.length] 79))) := behind_alloc (below_then B3.out hb) _
    have T5 : Hid (RAt (w4.alloc (.cells #[.slice (some ⟨gP, 0, none⟩) R.ps.length R.ps.length, .slice (some ⟨gN, 0, none⟩) R.ns.length R.ns.length, .slice (some ⟨gU, 0, none⟩) R.up.length R.up.length, .slice (some ⟨gQ, 0, none⟩) R.pss.length R.pss.length, .slice (some ⟨gL, 0, none⟩) R.lic.length R.lic.length] 79)) (ownRa R gP gN gU gQ gL) R) := hro.rat.below (low_alloc _ _)
    have X5 : Hid (Row (w4.alloc (.cells #[.slice (some ⟨gP, 0, none⟩) R.ps.length R.ps.length, .slice (some ⟨gN, 0, none⟩) R.ns.length R.ns.length, .slice (some ⟨gU, 0, none⟩) R.up.length R.up.length, .slice (some ⟨gQ, 0, none⟩) R.pss.length R.pss.length, .slice (some ⟨gL, 0, none⟩) R.lic.length R.lic.length] 79)) w4.heap.size [.slice (some ⟨gP, 0, none⟩) R.ps.length R.ps.length, .slice (some ⟨gN, 0, none⟩) R.ns.length R.ns.length, .slice (some ⟨gU, 0, none⟩) R.up.length R.up.length, .slice (some ⟨gQ, 0, none⟩) R.pss.length R.pss.length, .slice (some ⟨gL, 0, none⟩) R.lic.length R.lic.length]) := row_fresh w4 [.slice (some ⟨gP, 0, none⟩) R.ps.length R.ps.length, .slice (some ⟨gN, 0, none⟩) R.ns.length R.ns.length, .slice (some ⟨gU, 0, none⟩) R.up.length R.up.length, .slice (some ⟨gQ, 0, none⟩) R.pss.length R.pss.length, .slice (some ⟨gL, 0, none⟩) R.lic.length R.lic.length] 79
    clear hb hro B3 a0 a1 a2 a3 a4
    go_wp2_with fail
    generalize w4.alloc (.cells #[.slice (some ⟨gP, 0, none⟩) R.ps.length R.ps.length, .slice (some ⟨gN, 0, none⟩) R.ns.length R.ns.length, .slice (some ⟨gU, 0, none⟩) R.up.length R.up.length, .slice (some ⟨gQ, 0, none⟩) R.pss.length R.pss.length, .slice (some ⟨gL, 0, none⟩) R.lic.length R.lic.length] 79) = w5 at *
    generalize w4.heap.size = X at *
    refine (implRoomOk_c (ownRa R gP gN gU gQ gL) R HM.out _ T5.out).mono ?_
    rintro e w6 ⟨k', rfl, hk, hb⟩
    obtain rfl : k' = k := by
      have h1 := HK.out
      cases k <;> cases k' <;> simp_all
    have B6 : Hid (Below V.heap.size V w6) := below_then B5.out hb
    have T6 : Hid (RAt w6 (ownRa R gP gN gU gQ gL) R) := T5.out.below hb
    have X6 : Hid (Row w6 X [.slice (some ⟨gP, 0, none⟩) R.ps.length R.ps.length, .slice (some ⟨gN, 0, none⟩) R.ns.length R.ns.length, .slice (some ⟨gU, 0, none⟩) R.up.length R.up.length, .slice (some ⟨gQ, 0, none⟩) R.pss.length R.pss.length, .slice (some ⟨gL, 0, none⟩) R.lic.length R.lic.length]) := X5.out.below hb
    clear hb hk B5 T5 X5 HK
    have B7 : Hid (Below V.heap.size V w6.drew) := below_then B6.out (low_drew _)
    have T7 : Hid (RAt w6.drew (ownRa R gP gN gU gQ gL) R) := T6.out.below (low_drew _)
    have X7 : Hid (Row w6.drew X [.slice (some ⟨gP, 0, none⟩) R.ps.length R.ps.length, .slice (some ⟨gN, 0, none⟩) R.ns.length R.ns.length, .slice (some ⟨gU, 0, none⟩) R.up.length R.up.length, .slice (some ⟨gQ, 0, none⟩) R.pss.length R.pss.length, .slice (some ⟨gL, 0, none⟩) R.lic.length R.lic.length]) := X6.out.below (low_drew _)
    have a0 := (HA.out.below B6.out).cell 0 _ rfl
    have x0 := X6.out.cell 0 _ rfl
    have a1 := (HA.out.below B6.out).cell 1 _ rfl
    have x1 := X6.out.cell 1 _ rfl
    have a2 := (HA.out.below B6.out).cell 2 _ rfl
    have x2 := X6.out.cell 2 _ rfl
    have a3 := (HA.out.below B6.out).cell 3 _ rfl
    have x3 := X6.out.cell 3 _ rfl
    have a4 := (HA.out.below B6.out).cell 4 _ rfl
    have x4 := X6.out.cell 4 _ rfl
    go_wp2_with fail
    go_region_with (first
      | (go_at_call 40; refine (toRoom_c A R HM.out w6.drew (HS.out.below B7.out)).mono ?_; rintro e w8 ⟨g1, g2, g3, g4, g5, hs8, rfl, hro, hb⟩; have y0 := (X7.out.below hb).cell 0 _ rfl; have y1 := (X7.out.below hb).cell 1 _ rfl; have y2 := (X7.out.below hb).cell 2 _ rfl; have y3 := (X7.out.below hb).cell 3 _ rfl; have y4 := (X7.out.below hb).cell 4 _ rfl; have B8 : Hid (Below V.heap.size V w8) := below_then B7.out hb; have T8 : Hid (RAt w8 (ownRa R gP gN gU gQ gL) R) := T7.out.below hb; have K8 : Hid (RAt w8 (ownRa R g1 g2 g3 g4 g5) R) := hro.rat; clear hb hro)
      | (go_at_call 42; refine (eqRoom_c (ownRa R gP gN gU gQ gL) (ownRa R g1 g2 g3 g4 g5) R HM.out w8 T8.out K8.out).mono ?_; rintro e w9 ⟨rfl, hb⟩; have B9 : Hid (Below V.heap.size V w9) := below_then B8.out hb; clear hb))
    all_goals
      go_wp2_with fail
      go_ret
      exact ⟨rfl, below_then HV.out B9.out⟩

set_option maxRecDepth 100000 in
theorem lifted (os : Os) (started : os.Started) (H : Type) (enc : TypeId × Value → H) :
    ReturnsInHanded {} Try.checked os 9 .any (Rows.fnExactRoomOkSpec.pre6 enc Try.prog Try.f9 Rows.fnExactRoomOkRow.domain false) (Rows.fnExactRoomOkSpec.post enc Try.prog Try.f9 false true false false) := by
  refine returnsInHanded_of_change (C := Try.checked) own started (by kernel_rfl) Try.func9
    (ChangeSpec.witness6 (enc := enc) (C := Try.checked) false ⟨#[], #[.agg #[.slice none 0 0, .slice none 0 0, .slice none 0 0, .slice none 0 0, .slice none 0 0]], []⟩ 8 (by kernel_rfl) (by kernel_rfl) (by kernel_rfl) (by kernel_rfl)) ?_
  intro W base args ds gs before hval0 hW _ _
  have hval : ∀ (j : Nat) t v, Try.f9.params[j]? = some t → args[j]? = some v → Value.okWide Try.prog W .any base t v := hval0
  have hW' := hW
  obtain ⟨p, q, hA0, hV, rfl, _, _⟩ := hW
  have hA : DataW.TrodAll enc Try.prog W 0 (fun _ => true) true Try.f9.params.toList args.toList ds p := hA0
  rw [Try.params9] at hA hval
  obtain ⟨v0, d0, rfl, rfl, h0⟩ := trodAll_one hA
  obtain ⟨rfl, rfl⟩ := trodVars_none hV
  obtain ⟨A, R, rfl, hwd, hat⟩ := room_opened (hval 0 71 v0 rfl rfl) h0
  clear hA0 hval0
  simp only [List.append_nil] at hW'
  refine (walk A R hwd W hat).mono fun e W' ⟨he, hg⟩ => ?_
  subst he
  have hlt : ∀ x ∈ p, x.block < W.heap.size := fun x hx => by simpa using hW'.lt x hx
  have harg := Below.trod laidOutAll (by kernel_rfl) (of_decide_eq_true (by kernel_rfl)) h0 hg hlt
  exact ⟨_, rfl, _, _, _, [], _, [], hW', trodAll_mk1 (shut_bool Try.underlying4 _), trodAll_mk1 harg, rfl, hg.frame _, fun h => by cases h⟩
end LawRoomOk

/-- For every room: the law returns true, and it reads as it did. -/
theorem fnExactRoomOk_holds : Rows.FnExactRoomOkSaid :=
  OpenClaim.holds_of_wide 9 Try.f9 rfl rfl rfl rfl rfl rfl rfl ⟨rfl, rfl, rfl, rfl, rfl⟩ rfl rfl rfl rfl rfl (by kernel_rfl) Try.func9 (by kernel_rfl)
    (of_decide_eq_true (by kernel_rfl)) (by unfold Func.isWrapper; rw [if_neg (of_decide_eq_false (by kernel_rfl))]; exact ⟨rfl, rfl⟩)
    (fun os started H enc _ => LawRoomOk.lifted os started H enc)
#print axioms fnExactRoomOk_holds
end Go.Proofs.Ytgpogglaffehcaa
