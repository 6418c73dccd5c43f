/- FnExactProfTimes: for every profile the program's ProfTimes answers as the specification's, and its answer owns its memory; no condition. -/
import Derived.Test.YtleemkolcciokaaPTm
import Derived.Test.YtleemkolcciokaaBehA
import Derived.Test.YtleemkolcciokaaPtP
import Derived.Test.YtleemkolcciokaaPtB
import Derived.ProofKit
import Derived.OpenShut
namespace Go.Proofs.Ytleemkolcciokaa
namespace LawProfTimes
open Go.ChangeShapes Go.WideShapes Go.ChangeAt Go.RowKit Go.Joins

set_option maxHeartbeats 4000000 in
theorem walk (b : Option Addr) (d : Nat) (ns : List Nd) (hn : ns.length ≤ maxLen) (w : World) (h' : Sq w b (flat ns)) :
    Calls Try.prog 13 #[.agg #[.slice b ns.length d]] w fun e w' => e = .returned (.bool true) ∧ Below w.heap.size w w' := by
  have H' : Hid (Sq w b (flat ns)) := h'
  have Hn : Hid (ns.length ≤ maxLen) := hn
  clear h' hn
  go_enter Try.func13, Try.ntmps13
  go_wp2_with fail
  generalize hV : w.alloc (.cells #[.slice b ns.length d] 51) = V
  have HA : Hid (Row V w.heap.size [.slice b ns.length d]) := by subst hV; exact row_fresh w [.slice b ns.length d] 51
  have HV : Hid (Below w.heap.size w V) := by subst hV; exact low_alloc _ _
  clear hV
  refine (szProf_c b ns.length d Hn.out 1048576 (by omega) (by omega) V).mono ?_
  rintro e w1 ⟨rfl, hb⟩
  have HB1 : Hid (Below V.heap.size V w1) := hb
  have t0 := (HA.out.below hb).cell 0 _ rfl
  clear hb
  by_cases hz : szP ns.length 1048576 < 0
  · generalize szP ns.length 1048576 = z at hz
    go_wp2_with fail
    go_ret
    exact ⟨rfl, below_then HV.out HB1.out⟩
  · have hn := (szp_yes (Int.le_refl _) hz).1
    generalize szP ns.length 1048576 = z at hz
    go_wp2_with fail
    refine (toProf_c b d ns hn _ ((H'.out.below HV.out).below HB1.out)).mono ?_
    rintro e w2 ⟨h, rfl, _, hr2, hb⟩
    have HB2 : Hid (Below V.heap.size V w2) := below_then HB1.out hb
    have HH2 : Hid (Sq w2 (some ⟨h, 0, none⟩) (flat ns)) := Sq.of_row hr2
    clear hb hr2 t0 HB1
    go_wp2_with fail
    refine (specProfTimes_c _ _ ns _ HH2.out).mono ?_
    rintro e w3 ⟨v0, rfl, hans, hb⟩
    have HB3 : Hid (Below V.heap.size V w3) := below_then HB2.out hb
    have hRl : (timesR ns).length ≤ 1048576 := by have := times_len ns; omega
    generalize hR : timesR ns = r at hRl hans
    have HR : Hid (timesR ns = r) := hR
    have HA3 : Hid (Ans w2.heap.size w3.heap.size w3 (ints r) v0) := hans
    have t0 := (HA.out.below HB3.out).cell 0 _ rfl
    clear hb HH2 HB2 hR hans
    go_wp2_with fail
    refine (toProf_c b d ns hn _ ((H'.out.below HV.out).below HB3.out)).mono ?_
    rintro e w4 ⟨h4, rfl, hh4, hr2, hb⟩
    have HB4 : Hid (Below V.heap.size V w4) := below_then HB3.out hb
    have HA4 : Hid (Ans w2.heap.size w3.heap.size w4 (ints r) v0) := HA3.out.below hb
    have HH4 : Hid (Row w4 h4 (flat ns)) := hr2
    have hV3 : V.heap.size ≤ w3.heap.size := HB3.out.size
    clear hb hr2 t0 HB3 HA3
    go_wp2_with fail
    have HB5 : Hid (Below V.heap.size V (w4.alloc (.cells #[.slice (some ⟨h4, 0, none⟩) ns.length ns.length] 25))) := behind_alloc HB4.out _
    have HX5 : Hid (Row (w4.alloc (.cells #[.slice (some ⟨h4, 0, none⟩) ns.length ns.length] 25)) w4.heap.size [.slice (some ⟨h4, 0, none⟩) ns.length ns.length]) := row_fresh w4 [.slice (some ⟨h4, 0, none⟩) ns.length ns.length] 25
    have HH5 : Hid (Row (w4.alloc (.cells #[.slice (some ⟨h4, 0, none⟩) ns.length ns.length] 25)) h4 (flat ns)) := HH4.out.below (low_alloc _ _)
    have HA5 : Hid (Ans w2.heap.size w3.heap.size (w4.alloc (.cells #[.slice (some ⟨h4, 0, none⟩) ns.length ns.length] 25)) (ints r) v0) := HA4.out.below (low_alloc _ _)
    generalize w4.alloc (.cells #[.slice (some ⟨h4, 0, none⟩) ns.length ns.length] 25) = w5 at HB5 HX5 HH5 HA5
    clear HB4 HH4 HA4
    generalize w4.heap.size = x at *
    refine (implProfTimes_c _ _ ns _ (Sq.of_row HH5.out)).mono ?_
    rintro e w6 ⟨v1, rfl, hans, hb⟩
    have HC6 : Hid (Ans w5.heap.size w6.heap.size w6 (ints r) v1) := by rw [← HR.out]; exact hans
    have HA6 : Hid (Ans w2.heap.size w3.heap.size w6 (ints r) v0) := HA5.out.below hb
    have hh5 : h4 < w5.heap.size := HH5.out.lt
    have hx5 : x < w5.heap.size := HX5.out.lt
    have hV5 : V.heap.size ≤ w5.heap.size := HB5.out.size
    have h35 : w3.heap.size ≤ w5.heap.size := by omega
    have HB6 : Hid (Below V.heap.size V w6) := below_then HB5.out hb
    have HX6 : Hid (Row w6 x [.slice (some ⟨h4, 0, none⟩) ns.length ns.length]) := HX5.out.below hb
    have HH6 : Hid (Row w6 h4 (flat ns)) := HH5.out.below hb
    clear hb hans HB5 HX5 HH5 HA5
    go_wp2_with fail
    refine (eq_ans HC6.out HA6.out hRl).mono ?_
    rintro e w6b ⟨rfl, hb⟩
    have HB6b : Hid (Below V.heap.size V w6b) := below_then HB6.out hb
    have HX6b : Hid (Row w6b x [.slice (some ⟨h4, 0, none⟩) ns.length ns.length]) := HX6.out.below hb
    have HH6b : Hid (Row w6b h4 (flat ns)) := HH6.out.below hb
    have HC6b : Hid (Ans w5.heap.size w6.heap.size w6b (ints r) v1) := HC6.out.below hb
    have HA6b : Hid (Ans w2.heap.size w3.heap.size w6b (ints r) v0) := HA6.out.below hb
    clear hb HB6 HX6 HH6 HC6 HA6
    go_wp2_with fail
    have HD : Hid (Below w6b.heap.size w6b w6b.drew) := low_drew _
    have HB7 : Hid (Below V.heap.size V w6b.drew) := below_then HB6b.out HD.out
    have HX7 : Hid (Row w6b.drew x [.slice (some ⟨h4, 0, none⟩) ns.length ns.length]) := HX6b.out.below HD.out
    have HH7 : Hid (Row w6b.drew h4 (flat ns)) := HH6b.out.below HD.out
    have t0 := (HA.out.below HB6b.out).cell 0 _ rfl
    have x0 := HX6b.out.cell 0 _ rfl
    have HC7 : Hid (Ans w5.heap.size w6.heap.size w6b.drew (ints r) v1) := HC6b.out.below HD.out
    have HA7 : Hid (Ans w2.heap.size w3.heap.size w6b.drew (ints r) v0) := HA6b.out.below HD.out
    clear HB6b HX6b HH6b HC6b HA6b HD
    go_region_with (first
      | (go_at_call 32; refine (toProf_c b d ns hn w6b.drew ((H'.out.below HV.out).below HB7.out)).mono ?_; rintro e w8 ⟨h8, rfl, _, hr2, hb⟩; have x80 := (HX7.out.below hb).cell 0 _ rfl; have HB8 : Hid (Below V.heap.size V w8) := below_then HB7.out hb; have HH8 : Hid (Row w8 h4 (flat ns)) := HH7.out.below hb; have HX8 : Hid (Row w8 x [.slice (some ⟨h4, 0, none⟩) ns.length ns.length]) := HX7.out.below hb; have HC8 : Hid (Ans w5.heap.size w6.heap.size w8 (ints r) v1) := HC7.out.below hb; have HA8 : Hid (Ans w2.heap.size w3.heap.size w8 (ints r) v0) := HA7.out.below hb; have HH9 : Hid (Row w8 h8 (flat ns)) := hr2; clear hb hr2)
      | (go_at_call 33; refine (eqProf_c _ _ _ _ ns ns hn w8 (Sq.of_row HH8.out) (Sq.of_row HH9.out)).mono ?_; rintro e w9 ⟨rfl, hb⟩; have HB9 : Hid (Below V.heap.size V w9) := below_then HB8.out hb; have HX9 : Hid (Row w9 x [.slice (some ⟨h4, 0, none⟩) ns.length ns.length]) := HX8.out.below hb; have HHa : Hid (Row w9 h4 (flat ns)) := HH8.out.below hb; have HC9 : Hid (Ans w5.heap.size w6.heap.size w9 (ints r) v1) := HC8.out.below hb; have HA9 : Hid (Ans w2.heap.size w3.heap.size w9 (ints r) v0) := HA8.out.below hb; clear hb))
    all_goals
      clear t0 x0 x80 HB8 HH8 HH9 HX8 HC8 HA8 HB7 HX7 HH7 HC7 HA7
      have x0 := HX9.out.cell 0 _ rfl
      go_wp2_with fail
      refine (markProf_ans (k0 := 1) (B := h4) (T := h4 + 1) (AnsP.of_row (cap := ns.length) (flat_len ns) HHa.out (Nat.le_refl _) (Nat.lt_succ_self _)) hn (by omega)).mono ?_
      rintro e wa ⟨rfl, _, hk, hbw, _⟩
      have HBa : Hid (Below V.heap.size V wa) := hbw V HB9.out (by omega)
      have HCa : Hid (Ans w5.heap.size w6.heap.size wa (ints r) v1) := HC9.out.keep fun g h1 _ hr => hk g _ hr (by omega)
      have HAa : Hid (Ans w2.heap.size w3.heap.size wa (ints r) v0) := HA9.out.keep fun g _ h1 hr => hk g _ hr (by omega)
      clear hk hbw x0 HX9 HHa HC9 HA9 HB9
      go_wp2_with fail
      refine (eq_ans HCa.out HAa.out hRl).mono ?_
      rintro e wb ⟨rfl, hb⟩
      have HBb : Hid (Below V.heap.size V wb) := below_then HBa.out hb
      have HCb : Hid (Ans w5.heap.size w6.heap.size wb (ints r) v1) := HCa.out.below hb
      have HAb : Hid (Ans w2.heap.size w3.heap.size wb (ints r) v0) := HAa.out.below hb
      clear hb HBa HCa HAa
      go_wp2_with fail
      refine (mark_ans (k0 := 1) HCb.out (by rw [ints_len]; omega) (by omega)).mono ?_
      rintro e wc ⟨rfl, hC, hk, hbw⟩
      rw [ints_len] at hC ⊢
      have HBc : Hid (Below V.heap.size V wc) := hbw V HBb.out (by omega)
      have HCc : Hid (Ans w5.heap.size w6.heap.size wc (upFrom 1 r.length) v1) := hC
      have HAc : Hid (Ans w2.heap.size w3.heap.size wc (ints r) v0) := HAb.out.keep fun g _ h1 hr => hk g _ hr (by omega)
      clear hC hk hbw HBb HCb HAb
      go_wp2_with fail
      refine (held_ans (k0 := 1) HCc.out (by omega) (by omega)).mono ?_
      rintro e wd ⟨rfl, hb⟩
      have HBd : Hid (Below V.heap.size V wd) := below_then HBc.out hb
      have HCd : Hid (Ans w5.heap.size w6.heap.size wd (upFrom 1 r.length) v1) := HCc.out.below hb
      have HAd : Hid (Ans w2.heap.size w3.heap.size wd (ints r) v0) := HAc.out.below hb
      have t0 := (HA.out.below HBd.out).cell 0 _ rfl
      clear hb HBc HCc HAc
      go_wp2_with fail
      refine (toProf_c b d ns hn _ ((H'.out.below HV.out).below HBd.out)).mono ?_
      rintro e we ⟨he, rfl, _, hr2, hb⟩
      have HBe : Hid (Below V.heap.size V we) := below_then HBd.out hb
      have HCe : Hid (Ans w5.heap.size w6.heap.size we (upFrom 1 r.length) v1) := HCd.out.below hb
      have HAe : Hid (Ans w2.heap.size w3.heap.size we (ints r) v0) := HAd.out.below hb
      have HHe : Hid (Row we he (flat ns)) := hr2
      clear hb hr2 t0 HBd HCd HAd
      go_wp2_with fail
      refine (implProfTimes_c _ _ ns _ (Sq.of_row HHe.out)).mono ?_
      rintro e wf ⟨v2, rfl, hans, hb⟩
      have HBf : Hid (Below V.heap.size V wf) := below_then HBe.out hb
      have HCf : Hid (Ans w5.heap.size w6.heap.size wf (upFrom 1 r.length) v1) := HCe.out.below hb
      have HAf : Hid (Ans w2.heap.size w3.heap.size wf (ints r) v0) := HAe.out.below hb
      have HEf : Hid (Ans we.heap.size wf.heap.size wf (ints r) v2) := by rw [← HR.out]; exact hans
      clear hb hans HBe HCe HAe HHe
      go_wp2_with fail
      refine (eq_ans HEf.out HAf.out hRl).mono ?_
      rintro e wg ⟨rfl, hb⟩
      have HBg : Hid (Below V.heap.size V wg) := below_then HBf.out hb
      have HCg : Hid (Ans w5.heap.size w6.heap.size wg (upFrom 1 r.length) v1) := HCf.out.below hb
      clear hb HBf HCf HAf HEf
      go_wp2_with fail
      refine (held_ans (k0 := 1) HCg.out (by omega) (by omega)).mono ?_
      rintro e wh ⟨rfl, hb⟩
      have HBh : Hid (Below V.heap.size V wh) := below_then HBg.out hb
      clear hb HBg HCg
      go_wp2_with fail
      go_ret
      exact ⟨rfl, below_then HV.out HBh.out⟩

set_option maxRecDepth 100000 in
theorem lifted (os : Os) (started : os.Started) (H : Type) (enc : TypeId × Value → H) :
    ReturnsInHanded {} Try.checked os 13 .any (Rows.fnExactProfTimesSpec.pre6 enc Try.prog Try.f13 Rows.fnExactProfTimesRow.domain false) (Rows.fnExactProfTimesSpec.post enc Try.prog Try.f13 false true false false) := by
  refine returnsInHanded_of_change (C := Try.checked) own started (by kernel_rfl) Try.func13
    (ChangeSpec.witness6 (enc := enc) (C := Try.checked) false ⟨#[], #[.agg #[.slice none 0 0]], []⟩ 8 (by kernel_rfl) (by kernel_rfl) (by kernel_rfl) (by kernel_rfl)) ?_
  intro W base args ds gs before hval0 hW _ _
  have hval : ∀ (j : Nat) t v, Try.f13.params[j]? = some t → args[j]? = some v → Value.okWide Try.prog W .any base t v := hval0
  have hW' := hW
  obtain ⟨p, q, hA0, hV, rfl, _, _⟩ := hW
  have hA : DataW.TrodAll enc Try.prog W 0 (fun _ => true) true Try.f13.params.toList args.toList ds p := hA0
  rw [Try.params13] at hA hval
  obtain ⟨v0, d0, rfl, rfl, h0⟩ := trodAll_one hA
  obtain ⟨rfl, rfl⟩ := trodVars_none hV
  obtain ⟨b, d, ns, rfl, hn, hs'⟩ := prof_opened (hval 0 51 v0 rfl rfl) h0
  clear hA0 hval0
  simp only [List.append_nil] at hW'
  refine (walk b d ns hn W hs').mono fun e W' ⟨he, hg⟩ => ?_
  subst he
  have hlt : ∀ x ∈ p, x.block < W.heap.size := fun x hx => by simpa using hW'.lt x hx
  have harg := Below.trod laidOutAll (by kernel_rfl) (of_decide_eq_true (by kernel_rfl)) h0 hg hlt
  exact ⟨_, rfl, _, _, _, [], _, [], hW', trodAll_mk1 (shut_bool Try.underlying4 _), trodAll_mk1 harg, rfl, hg.frame _, fun h => by cases h⟩
end LawProfTimes

/-- For every profile: the law returns true, and it reads as it did. -/
theorem fnExactProfTimes_holds : Rows.FnExactProfTimesSaid :=
  OpenClaim.holds_of_wide 13 Try.f13 rfl rfl rfl rfl rfl rfl rfl ⟨rfl, rfl, rfl, rfl, rfl⟩ rfl rfl rfl rfl rfl (by kernel_rfl) Try.func13 (by kernel_rfl)
    (of_decide_eq_true (by kernel_rfl)) (by unfold Func.isWrapper; rw [if_neg (of_decide_eq_false (by kernel_rfl))]; exact ⟨rfl, rfl⟩)
    (fun os started H enc _ => LawProfTimes.lifted os started H enc)
#print axioms fnExactProfTimes_holds
end Go.Proofs.Ytleemkolcciokaa
