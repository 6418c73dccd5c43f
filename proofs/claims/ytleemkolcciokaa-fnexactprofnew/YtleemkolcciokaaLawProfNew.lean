/- FnExactProfNew: for every vector the program's ProfNew answers as the specification's, and its answer owns its memory; no condition. -/
import Derived.Test.YtleemkolcciokaaPNew
import Derived.Test.YtleemkolcciokaaPtP
import Derived.ProofKit
import Derived.OpenShut
namespace Go.Proofs.Ytleemkolcciokaa
namespace LawProfNew
open Go.ChangeShapes Go.WideShapes Go.ChangeAt Go.RowKit Go.Joins

set_option maxHeartbeats 4000000 in
theorem walk (a b c : Int) (w : World) :
    Calls Try.prog 7 #[.agg #[.int .i64 a, .int .i64 b, .int .i64 c]] w fun e w' => e = .returned (.bool true) ∧ Below w.heap.size w w' := by
  have HS : Hid (∀ W, Calls Try.prog 34 #[.agg #[.int .i64 a, .int .i64 b, .int .i64 c]] W (RetP W (newR a b c) (vokB a b c))) := fun W => specProfNew_c a b c W
  have HI : Hid (∀ W, Calls Try.prog 36 #[.agg #[.int .i64 a, .int .i64 b, .int .i64 c]] W (RetP W (newR a b c) (vokB a b c))) := fun W => implProfNew_c a b c W
  have hrl : (newR a b c).length ≤ 1048576 := by unfold newR; cases vokB a b c <;> simp
  generalize newR a b c = r at *
  generalize vokB a b c = k at *
  go_enter Try.func7, Try.ntmps7
  go_wp2_with fail
  generalize hV : w.alloc (.cells #[.int .i64 a, .int .i64 b, .int .i64 c] 55) = V
  have HA : Hid (Row V w.heap.size [.int .i64 a, .int .i64 b, .int .i64 c]) := by subst hV; exact row_fresh w [.int .i64 a, .int .i64 b, .int .i64 c] 55
  have HV : Hid (Below w.heap.size w V) := by subst hV; exact low_alloc _ _
  clear hV
  generalize w.heap.size = A at HA
  refine (toVec_c a b c _).mono ?_
  rintro e w1 ⟨rfl, hb⟩
  have HB1 : Hid (Below V.heap.size V w1) := hb
  clear hb
  go_wp2_with fail
  refine (HS.out _).mono ?_
  rintro e w2 ⟨v0, rfl, hans, hb⟩
  have HB2 : Hid (Below V.heap.size V w2) := below_then HB1.out hb
  have HP2 : Hid (AnsP w1.heap.size w2.heap.size w2 r.length (flat r) v0) := hans
  have hV2 : V.heap.size ≤ w1.heap.size := HB1.out.size
  obtain ⟨a0, c0, hv0, _⟩ := hans.form
  subst hv0
  have a0' := (HA.out.below HB2.out).cell 0 _ rfl
  have a1' := (HA.out.below HB2.out).cell 1 _ rfl
  have a2' := (HA.out.below HB2.out).cell 2 _ rfl
  have hAl := (HA.out.below HB2.out).lt
  clear hans hb HB1
  go_wp2_with fail
  have HB3 : Hid (Below V.heap.size V (w2.alloc (.cells #[.slice a0 r.length c0] 25))) := behind_alloc HB2.out _
  have HX3 : Hid (Row (w2.alloc (.cells #[.slice a0 r.length c0] 25)) w2.heap.size [.slice a0 r.length c0]) := row_fresh w2 [.slice a0 r.length c0] 25
  have HP3 : Hid (AnsP w1.heap.size w2.heap.size (w2.alloc (.cells #[.slice a0 r.length c0] 25)) r.length (flat r) (.slice a0 r.length c0)) := HP2.out.below (low_alloc _ _)
  have hX3 : w2.heap.size < (w2.alloc (.cells #[.slice a0 r.length c0] 25)).heap.size := HX3.out.lt
  generalize w2.alloc (.cells #[.slice a0 r.length c0] 25) = w3 at HB3 HX3 HP3 hX3
  clear HB2 HP2 a0' a1' a2' hAl
  generalize w1.heap.size = B0 at *
  generalize w2.heap.size = X at *
  refine (toVec_c a b c _).mono ?_
  rintro e w4 ⟨rfl, hb⟩
  have HB4 : Hid (Below V.heap.size V w4) := below_then HB3.out hb
  have HX4 : Hid (Row w4 X [.slice a0 r.length c0]) := HX3.out.below hb
  have HP4 : Hid (AnsP B0 X w4 r.length (flat r) (.slice a0 r.length c0)) := HP3.out.below hb
  clear hb HB3 HX3 HP3
  have hX4 : X < w4.heap.size := HX4.out.lt
  go_wp2_with fail
  refine (HI.out _).mono ?_
  rintro e w5 ⟨v1, rfl, hans, hb⟩
  have HB5 : Hid (Below V.heap.size V w5) := below_then HB4.out hb
  have HX5 : Hid (Row w5 X [.slice a0 r.length c0]) := HX4.out.below hb
  have HP5 : Hid (AnsP B0 X w5 r.length (flat r) (.slice a0 r.length c0)) := HP4.out.below hb
  have HQ5 : Hid (AnsP w4.heap.size w5.heap.size w5 r.length (flat r) v1) := hans
  obtain ⟨a1, c1, hv1, _⟩ := hans.form
  subst hv1
  have a0' := (HA.out.below HB5.out).cell 0 _ rfl
  have x5 := HX5.out.cell 0 _ rfl
  have hX5 := HX5.out.lt
  have hV4 : V.heap.size ≤ w4.heap.size := HB4.out.size
  have h45 : w4.heap.size ≤ w5.heap.size := hb.size
  clear hans hb HB4 HX4 HP4
  have hne5 : X ≠ w5.heap.size := by omega
  go_wp2_with fail
  have HB6 : Hid (Below V.heap.size V (w5.alloc (.cells #[.slice a1 r.length c1] 25))) := behind_alloc HB5.out _
  have HX6 : Hid (Row (w5.alloc (.cells #[.slice a1 r.length c1] 25)) X [.slice a0 r.length c0]) := HX5.out.below (low_alloc _ _)
  have HY6 : Hid (Row (w5.alloc (.cells #[.slice a1 r.length c1] 25)) w5.heap.size [.slice a1 r.length c1]) := row_fresh w5 [.slice a1 r.length c1] 25
  have HP6 : Hid (AnsP B0 X (w5.alloc (.cells #[.slice a1 r.length c1] 25)) r.length (flat r) (.slice a0 r.length c0)) := HP5.out.below (low_alloc _ _)
  have HQ6 : Hid (AnsP w4.heap.size w5.heap.size (w5.alloc (.cells #[.slice a1 r.length c1] 25)) r.length (flat r) (.slice a1 r.length c1)) := HQ5.out.below (low_alloc _ _)
  generalize w5.alloc (.cells #[.slice a1 r.length c1] 25) = w6 at HB6 HX6 HY6 HP6 HQ6
  clear HB5 HX5 HP5 HQ5 a0' x5
  generalize w4.heap.size = B1 at *
  generalize w5.heap.size = Y at *
  refine (eqProf_ans HQ6.out HP6.out hrl).mono ?_
  rintro e w7 ⟨rfl, hb⟩
  rw [decide_eq_true rfl]
  have HB7 : Hid (Below V.heap.size V w7) := below_then HB6.out hb
  have HX7 : Hid (Row w7 X [.slice a0 r.length c0]) := HX6.out.below hb
  have HY7 : Hid (Row w7 Y [.slice a1 r.length c1]) := HY6.out.below hb
  have HP7 : Hid (AnsP B0 X w7 r.length (flat r) (.slice a0 r.length c0)) := HP6.out.below hb
  have HQ7 : Hid (AnsP B1 Y w7 r.length (flat r) (.slice a1 r.length c1)) := HQ6.out.below hb
  have y0 := HY7.out.cell 0 _ rfl
  clear hb HB6 HX6 HY6 HP6 HQ6
  go_wp2_with fail
  refine (markProf_ans (k0 := 1) HQ7.out hrl (by omega)).mono ?_
  rintro e w8 ⟨rfl, hC, hk, hbw, _⟩
  have HB8 : Hid (Below V.heap.size V w8) := hbw V HB7.out (by omega)
  have HX8 : Hid (Row w8 X [.slice a0 r.length c0]) := hk _ _ HX7.out (by omega)
  have HY8 : Hid (Row w8 Y [.slice a1 r.length c1]) := hk _ _ HY7.out (by omega)
  have HP8 : Hid (AnsP B0 X w8 r.length (flat r) (.slice a0 r.length c0)) := HP7.out.keep fun g _ h1 hr => hk g _ hr (by omega)
  have HQ8 : Hid (AnsP B1 Y w8 r.length (upFrom 1 (4 * r.length)) (.slice a1 r.length c1)) := hC
  clear hC hk hbw HB7 HX7 HY7 HP7 HQ7 y0
  have y0 := HY8.out.cell 0 _ rfl
  go_wp2_with fail
  refine (heldProf_ans (k0 := 1) HQ8.out hrl (by omega)).mono ?_
  rintro e w9 ⟨rfl, hb⟩
  have HB9 : Hid (Below V.heap.size V w9) := below_then HB8.out hb
  have HX9 : Hid (Row w9 X [.slice a0 r.length c0]) := HX8.out.below hb
  have HY9 : Hid (Row w9 Y [.slice a1 r.length c1]) := HY8.out.below hb
  have HP9 : Hid (AnsP B0 X w9 r.length (flat r) (.slice a0 r.length c0)) := HP8.out.below hb
  have HQ9 : Hid (AnsP B1 Y w9 r.length (upFrom 1 (4 * r.length)) (.slice a1 r.length c1)) := HQ8.out.below hb
  clear hb y0 HB8 HX8 HY8 HP8 HQ8
  have a0' := (HA.out.below HB9.out).cell 0 _ rfl
  have a1' := (HA.out.below HB9.out).cell 1 _ rfl
  have a2' := (HA.out.below HB9.out).cell 2 _ rfl
  go_wp2_with fail
  refine (toVec_c a b c _).mono ?_
  rintro e wa ⟨rfl, hb⟩
  have HBa : Hid (Below V.heap.size V wa) := below_then HB9.out hb
  have HXa : Hid (Row wa X [.slice a0 r.length c0]) := HX9.out.below hb
  have HYa : Hid (Row wa Y [.slice a1 r.length c1]) := HY9.out.below hb
  have HPa : Hid (AnsP B0 X wa r.length (flat r) (.slice a0 r.length c0)) := HP9.out.below hb
  have HQa : Hid (AnsP B1 Y wa r.length (upFrom 1 (4 * r.length)) (.slice a1 r.length c1)) := HQ9.out.below hb
  clear hb HB9 HX9 HY9 HP9 HQ9 a0' a1' a2'
  go_wp2_with fail
  refine (HI.out _).mono ?_
  rintro e wb ⟨v2, rfl, hans, hb⟩
  have HBb : Hid (Below V.heap.size V wb) := below_then HBa.out hb
  have HXb : Hid (Row wb X [.slice a0 r.length c0]) := HXa.out.below hb
  have HYb : Hid (Row wb Y [.slice a1 r.length c1]) := HYa.out.below hb
  have HPb : Hid (AnsP B0 X wb r.length (flat r) (.slice a0 r.length c0)) := HPa.out.below hb
  have HQb : Hid (AnsP B1 Y wb r.length (upFrom 1 (4 * r.length)) (.slice a1 r.length c1)) := HQa.out.below hb
  have HRb : Hid (AnsP wa.heap.size wb.heap.size wb r.length (flat r) v2) := hans
  obtain ⟨a2, c2, hv2, _⟩ := hans.form
  subst hv2
  have x0 := HXb.out.cell 0 _ rfl
  have hXb := HXb.out.lt
  have hYb := HYb.out.lt
  have hneX : X ≠ wb.heap.size := by omega
  clear hans hb HBa HXa HYa HPa HQa
  go_wp2_with fail
  have HBc : Hid (Below V.heap.size V (wb.alloc (.cells #[.slice a2 r.length c2] 25))) := behind_alloc HBb.out _
  have HYc : Hid (Row (wb.alloc (.cells #[.slice a2 r.length c2] 25)) Y [.slice a1 r.length c1]) := HYb.out.below (low_alloc _ _)
  have HPc : Hid (AnsP B0 X (wb.alloc (.cells #[.slice a2 r.length c2] 25)) r.length (flat r) (.slice a0 r.length c0)) := HPb.out.below (low_alloc _ _)
  have HQc : Hid (AnsP B1 Y (wb.alloc (.cells #[.slice a2 r.length c2] 25)) r.length (upFrom 1 (4 * r.length)) (.slice a1 r.length c1)) := HQb.out.below (low_alloc _ _)
  have HRc : Hid (AnsP wa.heap.size wb.heap.size (wb.alloc (.cells #[.slice a2 r.length c2] 25)) r.length (flat r) (.slice a2 r.length c2)) := HRb.out.below (low_alloc _ _)
  generalize wb.alloc (.cells #[.slice a2 r.length c2] 25) = wc at HBc HYc HPc HQc HRc
  clear HBb HXb HYb HPb HQb HRb x0
  refine (eqProf_ans HRc.out HPc.out hrl).mono ?_
  rintro e wd ⟨rfl, hb⟩
  rw [decide_eq_true rfl]
  have HBd : Hid (Below V.heap.size V wd) := below_then HBc.out hb
  have HYd : Hid (Row wd Y [.slice a1 r.length c1]) := HYc.out.below hb
  have HQd : Hid (AnsP B1 Y wd r.length (upFrom 1 (4 * r.length)) (.slice a1 r.length c1)) := HQc.out.below hb
  clear hb HBc HYc HPc HQc HRc
  have y0 := HYd.out.cell 0 _ rfl
  go_wp2_with fail
  refine (heldProf_ans (k0 := 1) HQd.out hrl (by omega)).mono ?_
  rintro e we ⟨rfl, hb⟩
  have HBe : Hid (Below V.heap.size V we) := below_then HBd.out hb
  clear hb y0 HBd HYd HQd
  go_wp2_with fail
  go_ret
  exact ⟨rfl, below_then HV.out HBe.out⟩

set_option maxRecDepth 100000 in
theorem lifted (os : Os) (started : os.Started) (H : Type) (enc : TypeId × Value → H) :
    ReturnsInHanded {} Try.checked os 7 .any (Rows.fnExactProfNewSpec.pre6 enc Try.prog Try.f7 Rows.fnExactProfNewRow.domain false) (Rows.fnExactProfNewSpec.post enc Try.prog Try.f7 false true false false) := by
  refine returnsInHanded_of_change (C := Try.checked) own started (by kernel_rfl) Try.func7
    (ChangeSpec.witness6 (enc := enc) (C := Try.checked) false ⟨#[], #[.agg #[.int .i64 0, .int .i64 0, .int .i64 0]], []⟩ 8 (by kernel_rfl) (by kernel_rfl) (by kernel_rfl) (by kernel_rfl)) ?_
  intro W base args ds gs before hval0 hW _ _
  have hval : ∀ (j : Nat) t v, Try.f7.params[j]? = some t → args[j]? = some v → Value.okWide Try.prog W .any base t v := hval0
  have hW' := hW
  obtain ⟨p, q, hA0, hV, rfl, _, _⟩ := hW
  have hA : DataW.TrodAll enc Try.prog W 0 (fun _ => true) true Try.f7.params.toList args.toList ds p := hA0
  rw [Try.params7] at hA hval
  obtain ⟨v0, d0, rfl, rfl, h0⟩ := trodAll_one hA
  obtain ⟨rfl, rfl⟩ := trodVars_none hV
  obtain ⟨a, b, c, rfl⟩ := vec_opened (hval 0 55 v0 rfl rfl) h0
  clear hA0 hval0
  simp only [List.append_nil] at hW'
  refine (walk a b c W).mono fun e W' ⟨he, hg⟩ => ?_
  subst he
  have hlt : ∀ x ∈ p, x.block < W.heap.size := fun x hx => by simpa using hW'.lt x hx
  have harg := Below.trod laidOutAll (by kernel_rfl) (of_decide_eq_true (by kernel_rfl)) h0 hg hlt
  exact ⟨_, rfl, _, _, _, [], _, [], hW', trodAll_mk1 (shut_bool Try.underlying4 _), trodAll_mk1 harg, rfl, hg.frame _, fun h => by cases h⟩
end LawProfNew

/-- For every vector: the law returns true, and it reads as it did. -/
theorem fnExactProfNew_holds : Rows.FnExactProfNewSaid :=
  OpenClaim.holds_of_wide 7 Try.f7 rfl rfl rfl rfl rfl rfl rfl ⟨rfl, rfl, rfl, rfl, rfl⟩ rfl rfl rfl rfl rfl (by kernel_rfl) Try.func7 (by kernel_rfl)
    (of_decide_eq_true (by kernel_rfl)) (by unfold Func.isWrapper; rw [if_neg (of_decide_eq_false (by kernel_rfl))]; exact ⟨rfl, rfl⟩)
    (fun os started H enc _ => LawProfNew.lifted os started H enc)
#print axioms fnExactProfNew_holds
end Go.Proofs.Ytleemkolcciokaa
