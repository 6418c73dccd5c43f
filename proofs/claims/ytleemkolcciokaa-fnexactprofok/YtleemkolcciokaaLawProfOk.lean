/- FnExactProfOk: for every profile the program's ProfOk answers as the specification's; no condition. -/
import Derived.Test.YtleemkolcciokaaPrfB
import Derived.Test.YtleemkolcciokaaPtP
import Derived.ProofKit
import Derived.OpenShut
namespace Go.Proofs.Ytleemkolcciokaa
namespace LawProfOk
open Go.ChangeShapes Go.WideShapes Go.ChangeAt Go.RowKit Go.Joins

set_option maxHeartbeats 4000000 in
theorem walk (b : Option Addr) (d : Nat) (ns : List Nd) (hn : ns.length ≤ maxLen) (w : World) (h' : Sq w b (flat ns)) :
    Calls Try.prog 6 #[.agg #[.slice b ns.length d]] w fun e w' => e = .returned (.bool true) ∧ Below w.heap.size w w' := by
  have H' : Hid (Sq w b (flat ns)) := h'
  have Hn : Hid (ns.length ≤ maxLen) := hn
  clear h' hn
  go_enter Try.func6, Try.ntmps6
  go_wp2_with fail
  generalize hV : w.alloc (.cells #[.slice b ns.length d] 51) = V
  have HA : Hid (Row V w.heap.size [.slice b ns.length d]) := by subst hV; exact row_fresh w [.slice b ns.length d] 51
  have HV : Hid (Below w.heap.size w V) := by subst hV; exact low_alloc _ _
  clear hV
  refine (szProf_c b ns.length d Hn.out 1048576 (by omega) (by omega) V).mono ?_
  rintro e w1 ⟨rfl, hb⟩
  have HB1 : Hid (Below V.heap.size V w1) := hb
  have t0 := (HA.out.below hb).cell 0 _ rfl
  clear hb
  by_cases hz : szP ns.length 1048576 < 0
  · generalize szP ns.length 1048576 = z at hz
    go_wp2_with fail
    go_ret
    exact ⟨rfl, below_then HV.out HB1.out⟩
  · have hn := (szp_yes (Int.le_refl _) hz).1
    generalize szP ns.length 1048576 = z at hz
    go_wp2_with fail
    refine (toProf_c b d ns hn _ ((H'.out.below HV.out).below HB1.out)).mono ?_
    rintro e w2 ⟨h, rfl, _, hr2, hb⟩
    have HB2 : Hid (Below V.heap.size V w2) := below_then HB1.out hb
    have HH2 : Hid (Sq w2 (some ⟨h, 0, none⟩) (flat ns)) := Sq.of_row hr2
    clear hb hr2 t0 HB1
    go_wp2_with fail
    refine (specProfOk_c _ _ ns _ HH2.out).mono ?_
    rintro e w3 ⟨k, rfl, hk, hb⟩
    have HK : Hid (k = true ↔ POk ns) := hk
    have HB3 : Hid (Below V.heap.size V w3) := below_then HB2.out hb
    have t0 := (HA.out.below HB3.out).cell 0 _ rfl
    clear hb hk HH2 HB2
    go_wp2_with fail
    refine (toProf_c b d ns hn _ ((H'.out.below HV.out).below HB3.out)).mono ?_
    rintro e w4 ⟨h4, rfl, _, hr2, hb⟩
    have HB4 : Hid (Below V.heap.size V w4) := below_then HB3.out hb
    have HH4 : Hid (Row w4 h4 (flat ns)) := hr2
    clear hb hr2 t0 HB3
    go_wp2_with fail
    have HB5 : Hid (Below V.heap.size V (w4.alloc (.cells #[.slice (some ⟨h4, 0, none⟩) ns.length ns.length] 25))) := behind_alloc HB4.out _
    have HX5 : Hid (Row (w4.alloc (.cells #[.slice (some ⟨h4, 0, none⟩) ns.length ns.length] 25)) w4.heap.size [.slice (some ⟨h4, 0, none⟩) ns.length ns.length]) := row_fresh w4 [.slice (some ⟨h4, 0, none⟩) ns.length ns.length] 25
    have HH5 : Hid (Row (w4.alloc (.cells #[.slice (some ⟨h4, 0, none⟩) ns.length ns.length] 25)) h4 (flat ns)) := HH4.out.below (low_alloc _ _)
    generalize w4.alloc (.cells #[.slice (some ⟨h4, 0, none⟩) ns.length ns.length] 25) = w5 at HB5 HX5 HH5
    clear HB4 HH4
    generalize w4.heap.size = x at *
    refine (implProfOk_c _ _ ns _ (Sq.of_row HH5.out)).mono ?_
    rintro e w6 ⟨k', rfl, hk, hb⟩
    have hkk : k' = k := by rw [Bool.eq_iff_iff]; exact hk.trans HK.out.symm
    subst hkk
    have HB6 : Hid (Below V.heap.size V w6) := below_then HB5.out hb
    have HX6 : Hid (Row w6 x [.slice (some ⟨h4, 0, none⟩) ns.length ns.length]) := HX5.out.below hb
    have HH6 : Hid (Row w6 h4 (flat ns)) := HH5.out.below hb
    clear hb hk HK HB5 HX5 HH5
    go_wp2_with fail
    have HD := low_drew w6
    have HB7 : Hid (Below V.heap.size V w6.drew) := below_then HB6.out HD
    have HX7 : Hid (Row w6.drew x [.slice (some ⟨h4, 0, none⟩) ns.length ns.length]) := HX6.out.below HD
    have HH7 : Hid (Row w6.drew h4 (flat ns)) := HH6.out.below HD
    have t0 := (HA.out.below HB6.out).cell 0 _ rfl
    have x0 := HX6.out.cell 0 _ rfl
    clear HB6 HX6 HH6 HD
    go_region_with (first
      | (go_at_call 32; refine (toProf_c b d ns hn w6.drew ((H'.out.below HV.out).below HB7.out)).mono ?_; rintro e w8 ⟨h8, rfl, _, hr2, hb⟩; have x80 := (HX7.out.below hb).cell 0 _ rfl; have HB8 : Hid (Below V.heap.size V w8) := below_then HB7.out hb; have HH8 : Hid (Row w8 h4 (flat ns)) := HH7.out.below hb; have HH9 : Hid (Row w8 h8 (flat ns)) := hr2; clear hb hr2)
      | (go_at_call 33; refine (eqProf_c _ _ _ _ ns ns hn w8 (Sq.of_row HH8.out) (Sq.of_row HH9.out)).mono ?_; rintro e w9 ⟨rfl, hb⟩; have HB9 : Hid (Below V.heap.size V w9) := below_then HB8.out hb; clear hb))
    all_goals
      go_wp2_with fail
      go_ret
      exact ⟨rfl, below_then HV.out HB9.out⟩

set_option maxRecDepth 100000 in
theorem lifted (os : Os) (started : os.Started) (H : Type) (enc : TypeId × Value → H) :
    ReturnsInHanded {} Try.checked os 6 .any (Rows.fnExactProfOkSpec.pre6 enc Try.prog Try.f6 Rows.fnExactProfOkRow.domain false) (Rows.fnExactProfOkSpec.post enc Try.prog Try.f6 false true false false) := by
  refine returnsInHanded_of_change (C := Try.checked) own started (by kernel_rfl) Try.func6
    (ChangeSpec.witness6 (enc := enc) (C := Try.checked) false ⟨#[], #[.agg #[.slice none 0 0]], []⟩ 8 (by kernel_rfl) (by kernel_rfl) (by kernel_rfl) (by kernel_rfl)) ?_
  intro W base args ds gs before hval0 hW _ _
  have hval : ∀ (j : Nat) t v, Try.f6.params[j]? = some t → args[j]? = some v → Value.okWide Try.prog W .any base t v := hval0
  have hW' := hW
  obtain ⟨p, q, hA0, hV, rfl, _, _⟩ := hW
  have hA : DataW.TrodAll enc Try.prog W 0 (fun _ => true) true Try.f6.params.toList args.toList ds p := hA0
  rw [Try.params6] at hA hval
  obtain ⟨v0, d0, rfl, rfl, h0⟩ := trodAll_one hA
  obtain ⟨rfl, rfl⟩ := trodVars_none hV
  obtain ⟨b, d, ns, rfl, hn, hs'⟩ := prof_opened (hval 0 51 v0 rfl rfl) h0
  clear hA0 hval0
  simp only [List.append_nil] at hW'
  refine (walk b d ns hn W hs').mono fun e W' ⟨he, hg⟩ => ?_
  subst he
  have hlt : ∀ x ∈ p, x.block < W.heap.size := fun x hx => by simpa using hW'.lt x hx
  have harg := Below.trod laidOutAll (by kernel_rfl) (of_decide_eq_true (by kernel_rfl)) h0 hg hlt
  exact ⟨_, rfl, _, _, _, [], _, [], hW', trodAll_mk1 (shut_bool Try.underlying4 _), trodAll_mk1 harg, rfl, hg.frame _, fun h => by cases h⟩
end LawProfOk

/-- For every profile: the law returns true, and it reads as it did. -/
theorem fnExactProfOk_holds : Rows.FnExactProfOkSaid :=
  OpenClaim.holds_of_wide 6 Try.f6 rfl rfl rfl rfl rfl rfl rfl ⟨rfl, rfl, rfl, rfl, rfl⟩ rfl rfl rfl rfl rfl (by kernel_rfl) Try.func6 (by kernel_rfl)
    (of_decide_eq_true (by kernel_rfl)) (by unfold Func.isWrapper; rw [if_neg (of_decide_eq_false (by kernel_rfl))]; exact ⟨rfl, rfl⟩)
    (fun os started H enc _ => LawProfOk.lifted os started H enc)
#print axioms fnExactProfOk_holds
end Go.Proofs.Ytleemkolcciokaa
