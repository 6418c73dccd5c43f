/- FnExactSameProf: for every two profiles the program's SameProf answers as the specification's; no condition. -/
import Derived.Test.YtleemkolcciokaaPSame
import Derived.Test.YtleemkolcciokaaPtP
import Derived.ProofKit
import Derived.OpenShut
import Derived.Deep.DeepCutAuto
namespace Go.Proofs.Ytleemkolcciokaa
namespace LawSameProf
open Go.ChangeShapes Go.WideShapes Go.ChangeAt Go.RowKit Go.Joins

set_option maxHeartbeats 4000000 in
theorem walk (a b : Option Addr) (c d : Nat) (ms ns : List Nd) (hm : ms.length ≤ maxLen) (hn : ns.length ≤ maxLen) (w : World) (h : Sq w a (flat ms)) (h' : Sq w b (flat ns)) :
    Calls Try.prog 14 #[.agg #[.slice a ms.length c], .agg #[.slice b ns.length d]] w fun e w' => e = .returned (.bool true) ∧ Below w.heap.size w w' := by
  have H : Hid (Sq w a (flat ms)) := h
  have H' : Hid (Sq w b (flat ns)) := h'
  have Hm : Hid (ms.length ≤ maxLen) := hm
  have Hn : Hid (ns.length ≤ maxLen) := hn
  clear h h' hm hn
  go_enter Try.func14, Try.ntmps14
  go_wp2_with fail
  generalize hV : (w.alloc (.cells #[.slice a ms.length c] 51)).alloc (.cells #[.slice b ns.length d] 51) = V
  have HA : Hid (Row V w.heap.size [.slice a ms.length c]) := by subst hV; exact (row_fresh w [.slice a ms.length c] 51).below (low_alloc _ _)
  have HC : Hid (Row V (w.heap.size + 1) [.slice b ns.length d]) := by subst hV; have h := row_fresh (w.alloc (.cells #[.slice a ms.length c] 51)) [.slice b ns.length d] 51; rw [show (w.alloc (.cells #[.slice a ms.length c] 51)).heap.size = w.heap.size + 1 by simp [go_sem]] at h; exact h
  have HV : Hid (Below w.heap.size w V) := by subst hV; exact behind_alloc (low_alloc _ _) _
  have HM0 : Hid (Sq V a (flat ms)) := by subst hV; exact H.out.below (behind_alloc (low_alloc _ _) _)
  have HN0 : Hid (Sq V b (flat ns)) := by subst hV; exact H'.out.below (behind_alloc (low_alloc _ _) _)
  clear hV H H'
  generalize w.heap.size = A0 at HA HC ⊢
  refine (szProf_c a ms.length c Hm.out 1048576 (by omega) (by omega) V).mono ?_
  rintro e w1 ⟨rfl, hb⟩
  have HB1 : Hid (Below V.heap.size V w1) := hb
  have t1 := (HC.out.below hb).cell 0 _ rfl
  clear hb
  by_cases hz : szP ms.length 1048576 < 0
  · generalize szP ms.length 1048576 = z at hz
    go_wp2_with fail
    go_ret
    exact ⟨rfl, below_then HV.out HB1.out⟩
  · obtain ⟨hm, hz0, hz1⟩ := szp_yes (Int.le_refl _) hz
    generalize szP ms.length 1048576 = z at hz hz0 hz1
    go_wp2_with fail
    refine (szProf_c b ns.length d Hn.out z hz0 hz1 _).mono ?_
    rintro e w1b ⟨rfl, hb⟩
    have HB1b : Hid (Below V.heap.size V w1b) := below_then HB1.out hb
    have t0 := (HA.out.below HB1b.out).cell 0 _ rfl
    clear hb t1 HB1
    by_cases hy : szP ns.length z < 0
    · generalize szP ns.length z = y at hy
      go_wp2_with fail
      go_ret
      exact ⟨rfl, below_then HV.out HB1b.out⟩
    · have hn := (szp_yes hz1 hy).1
      generalize szP ns.length z = y at hy
      go_wp2_with fail
      have HD := low_drew w1b
      have HBd : Hid (Below V.heap.size V w1b.drew) := below_then HB1b.out HD
      have t1 := (HC.out.below HB1b.out).cell 0 _ rfl
      clear HD
      go_cut [6] (fun u wc => ∃ k : Bool, u = .bool k ∧ (k = true ↔ SameP ms ns) ∧ Below V.heap.size V wc)
      case first =>
        go_region_with (first
          | (go_at_call_of 32 (Value.slice a ms.length c); refine (toProf_c a c ms hm w1b.drew (HM0.out.below HBd.out)).mono ?_; rintro e w2 ⟨g, rfl, _, hr, hb⟩; have HB2 : Hid (Below V.heap.size V w2) := below_then HBd.out hb; have HG2 : Hid (Row w2 g (flat ms)) := hr; have t2 := (HC.out.below HB2.out).cell 0 _ rfl; clear hb hr)
          | (go_at_call_of 32 (Value.slice b ns.length d); refine (toProf_c b d ns hn w2 (HN0.out.below HB2.out)).mono ?_; rintro e w3 ⟨h, rfl, _, hr, hb⟩; have HB3 : Hid (Below V.heap.size V w3) := below_then HB2.out hb; have HG3 : Hid (Row w3 g (flat ms)) := HG2.out.below hb; have HH3 : Hid (Row w3 h (flat ns)) := hr; clear hb hr)
          | (go_at_call 47; refine (specSameProf_c _ _ _ _ ms ns w3 (Sq.of_row HG3.out) (Sq.of_row HH3.out)).mono ?_; rintro e w4 ⟨k, rfl, hk, hb⟩; have HK : Hid (k = true ↔ SameP ms ns) := hk; have HB4 : Hid (Below V.heap.size V w4) := below_then HB3.out hb; clear hb hk))
        all_goals
          go_wp2_with fail
          go_meet
          case rel => exact ⟨k, rfl, HK.out, HB4.out⟩
      case rest =>
      obtain ⟨k, rfl, hk, hb⟩ := hcut
      have HK : Hid (k = true ↔ SameP ms ns) := hk
      have HB4 : Hid (Below V.heap.size V wc) := hb
      clear hb hk t0 t1 HBd HB1b
      have t0 := (HA.out.below HB4.out).cell 0 _ rfl
      go_wp2_with fail
      refine (toProf_c a c ms hm _ (HM0.out.below HB4.out)).mono ?_
      rintro e w5 ⟨g4, rfl, _, hr, hb⟩
      have HB5 : Hid (Below V.heap.size V w5) := below_then HB4.out hb
      have HG5 : Hid (Row w5 g4 (flat ms)) := hr
      have t1 := (HC.out.below HB5.out).cell 0 _ rfl
      have hc5 := (HC.out.below HB5.out).lt
      have hne5 : A0 + 1 ≠ w5.heap.size := by omega
      clear hb hr t0 HB4
      go_wp2_with fail
      have HB6 : Hid (Below V.heap.size V (w5.alloc (.cells #[.slice (some ⟨g4, 0, none⟩) ms.length ms.length] 25))) := behind_alloc HB5.out _
      have HX6 : Hid (Row (w5.alloc (.cells #[.slice (some ⟨g4, 0, none⟩) ms.length ms.length] 25)) w5.heap.size [.slice (some ⟨g4, 0, none⟩) ms.length ms.length]) := row_fresh w5 [.slice (some ⟨g4, 0, none⟩) ms.length ms.length] 25
      have HG6 : Hid (Row (w5.alloc (.cells #[.slice (some ⟨g4, 0, none⟩) ms.length ms.length] 25)) g4 (flat ms)) := HG5.out.below (low_alloc _ _)
      generalize w5.alloc (.cells #[.slice (some ⟨g4, 0, none⟩) ms.length ms.length] 25) = w6 at HB6 HX6 HG6
      clear HB5 HG5 t1 hc5
      generalize w5.heap.size = x at *
      refine (toProf_c b d ns hn _ (HN0.out.below HB6.out)).mono ?_
      rintro e w7 ⟨h4, rfl, _, hr, hb⟩
      have HB7 : Hid (Below V.heap.size V w7) := below_then HB6.out hb
      have HX7 : Hid (Row w7 x [.slice (some ⟨g4, 0, none⟩) ms.length ms.length]) := HX6.out.below hb
      have HG7 : Hid (Row w7 g4 (flat ms)) := HG6.out.below hb
      have HH7 : Hid (Row w7 h4 (flat ns)) := hr
      have x7 := HX7.out.cell 0 _ rfl
      have hx7 := HX7.out.lt
      have hne7 : x ≠ w7.heap.size := by omega
      clear hb hr HB6 HX6 HG6
      go_wp2_with fail
      have HB8 : Hid (Below V.heap.size V (w7.alloc (.cells #[.slice (some ⟨h4, 0, none⟩) ns.length ns.length] 25))) := behind_alloc HB7.out _
      have HX8 : Hid (Row (w7.alloc (.cells #[.slice (some ⟨h4, 0, none⟩) ns.length ns.length] 25)) x [.slice (some ⟨g4, 0, none⟩) ms.length ms.length]) := HX7.out.below (low_alloc _ _)
      have HY8 : Hid (Row (w7.alloc (.cells #[.slice (some ⟨h4, 0, none⟩) ns.length ns.length] 25)) w7.heap.size [.slice (some ⟨h4, 0, none⟩) ns.length ns.length]) := row_fresh w7 [.slice (some ⟨h4, 0, none⟩) ns.length ns.length] 25
      have HG8 : Hid (Row (w7.alloc (.cells #[.slice (some ⟨h4, 0, none⟩) ns.length ns.length] 25)) g4 (flat ms)) := HG7.out.below (low_alloc _ _)
      have HH8 : Hid (Row (w7.alloc (.cells #[.slice (some ⟨h4, 0, none⟩) ns.length ns.length] 25)) h4 (flat ns)) := HH7.out.below (low_alloc _ _)
      generalize w7.alloc (.cells #[.slice (some ⟨h4, 0, none⟩) ns.length ns.length] 25) = w8 at HB8 HX8 HY8 HG8 HH8
      clear HB7 HX7 HG7 HH7 x7 hx7
      generalize w7.heap.size = y8 at *
      refine (implSameProf_c _ _ _ _ ms ns _ (Sq.of_row HG8.out) (Sq.of_row HH8.out)).mono ?_
      rintro e w9 ⟨k', rfl, hk, hb⟩
      have hkk : k' = k := by rw [Bool.eq_iff_iff]; exact hk.trans HK.out.symm
      subst hkk
      have HB9 : Hid (Below V.heap.size V w9) := below_then HB8.out hb
      have HX9 : Hid (Row w9 x [.slice (some ⟨g4, 0, none⟩) ms.length ms.length]) := HX8.out.below hb
      have HY9 : Hid (Row w9 y8 [.slice (some ⟨h4, 0, none⟩) ns.length ns.length]) := HY8.out.below hb
      have HG9 : Hid (Row w9 g4 (flat ms)) := HG8.out.below hb
      have HH9 : Hid (Row w9 h4 (flat ns)) := HH8.out.below hb
      clear hb hk HK HB8 HX8 HY8 HG8 HH8
      go_wp2_with fail
      have HD := low_drew w9
      have HBa : Hid (Below V.heap.size V w9.drew) := below_then HB9.out HD
      have HXa : Hid (Row w9.drew x [.slice (some ⟨g4, 0, none⟩) ms.length ms.length]) := HX9.out.below HD
      have HYa : Hid (Row w9.drew y8 [.slice (some ⟨h4, 0, none⟩) ns.length ns.length]) := HY9.out.below HD
      have HGa : Hid (Row w9.drew g4 (flat ms)) := HG9.out.below HD
      have HHa : Hid (Row w9.drew h4 (flat ns)) := HH9.out.below HD
      have t0 := (HA.out.below HB9.out).cell 0 _ rfl
      have x0 := HX9.out.cell 0 _ rfl
      clear HB9 HX9 HY9 HG9 HH9 HD
      go_cut [39] (fun u wc => u = .bool false ∧ Below V.heap.size V wc ∧ Row wc y8 [.slice (some ⟨h4, 0, none⟩) ns.length ns.length] ∧ Row wc h4 (flat ns))
      case first =>
        go_region_with (first
          | (go_at_call 32; refine (toProf_c a c ms hm w9.drew (HM0.out.below HBa.out)).mono ?_; rintro e wb ⟨g8, rfl, _, hr, hb⟩; have x80 := (HXa.out.below hb).cell 0 _ rfl; have HBb : Hid (Below V.heap.size V wb) := below_then HBa.out hb; have HYb : Hid (Row wb y8 [.slice (some ⟨h4, 0, none⟩) ns.length ns.length]) := HYa.out.below hb; have HHb : Hid (Row wb h4 (flat ns)) := HHa.out.below hb; have HGb : Hid (Row wb g4 (flat ms)) := HGa.out.below hb; have HGc : Hid (Row wb g8 (flat ms)) := hr; clear hb hr)
          | (go_at_call 33; refine (eqProf_c _ _ _ _ ms ms hm wb (Sq.of_row HGb.out) (Sq.of_row HGc.out)).mono ?_; rintro e wc ⟨rfl, hb⟩; have HBc : Hid (Below V.heap.size V wc) := below_then HBb.out hb; have HYc : Hid (Row wc y8 [.slice (some ⟨h4, 0, none⟩) ns.length ns.length]) := HYb.out.below hb; have HHc : Hid (Row wc h4 (flat ns)) := HHb.out.below hb; clear hb))
        all_goals
          go_wp2_with fail
          go_meet
          case rel => exact ⟨rfl, HBc.out, HYc.out, HHc.out⟩
      case rest =>
      obtain ⟨rfl, hb, hy, hh⟩ := hcut
      have HBe : Hid (Below V.heap.size V wc) := hb
      have HYe : Hid (Row wc y8 [.slice (some ⟨h4, 0, none⟩) ns.length ns.length]) := hy
      have HHe : Hid (Row wc h4 (flat ns)) := hh
      clear hb hy hh t0 x0 HBa HXa HYa HGa HHa
      have t0 := (HC.out.below HBe.out).cell 0 _ rfl
      have x0 := HYe.out.cell 0 _ rfl
      go_wp2_with fail
      have HD := low_drew wc
      have HBf : Hid (Below V.heap.size V wc.drew) := below_then HBe.out HD
      have HYf : Hid (Row wc.drew y8 [.slice (some ⟨h4, 0, none⟩) ns.length ns.length]) := HYe.out.below HD
      have HHf : Hid (Row wc.drew h4 (flat ns)) := HHe.out.below HD
      clear HD HBe HYe HHe
      go_region_with (first
        | (go_at_call 32; refine (toProf_c b d ns hn wc.drew (HN0.out.below HBf.out)).mono ?_; rintro e wg ⟨h8, rfl, _, hr, hb⟩; have x80 := (HYf.out.below hb).cell 0 _ rfl; have HBg : Hid (Below V.heap.size V wg) := below_then HBf.out hb; have HHg : Hid (Row wg h4 (flat ns)) := HHf.out.below hb; have HHh : Hid (Row wg h8 (flat ns)) := hr; clear hb hr)
        | (go_at_call 33; refine (eqProf_c _ _ _ _ ns ns hn wg (Sq.of_row HHg.out) (Sq.of_row HHh.out)).mono ?_; rintro e wh ⟨rfl, hb⟩; have HBh : Hid (Below V.heap.size V wh) := below_then HBg.out hb; clear hb))
      all_goals
        go_wp2_with fail
        go_ret
        exact ⟨rfl, below_then HV.out HBh.out⟩

set_option maxRecDepth 100000 in
theorem lifted (os : Os) (started : os.Started) (H : Type) (enc : TypeId × Value → H) :
    ReturnsInHanded {} Try.checked os 14 .any (Rows.fnExactSameProfSpec.pre6 enc Try.prog Try.f14 Rows.fnExactSameProfRow.domain false) (Rows.fnExactSameProfSpec.post enc Try.prog Try.f14 false true false false) := by
  refine returnsInHanded_of_change (C := Try.checked) own started (by kernel_rfl) Try.func14
    (ChangeSpec.witness6 (enc := enc) (C := Try.checked) false ⟨#[], #[.agg #[.slice none 0 0], .agg #[.slice none 0 0]], []⟩ 8 (by kernel_rfl) (by kernel_rfl) (by kernel_rfl) (by kernel_rfl)) ?_
  intro W base args ds gs before hval0 hW _ _
  have hval : ∀ (j : Nat) t v, Try.f14.params[j]? = some t → args[j]? = some v → Value.okWide Try.prog W .any base t v := hval0
  have hW' := hW
  obtain ⟨p, q, hA0, hV, rfl, _, _⟩ := hW
  have hA : DataW.TrodAll enc Try.prog W 0 (fun _ => true) true Try.f14.params.toList args.toList ds p := hA0
  rw [Try.params14] at hA hval
  obtain ⟨v0, v1, d0, d1, p0, p1, rfl, rfl, rfl, h0, h1⟩ := trodAll_two hA
  obtain ⟨rfl, rfl⟩ := trodVars_none hV
  obtain ⟨a, c, ms, rfl, hm, hs⟩ := prof_opened (hval 0 51 v0 rfl rfl) h0
  obtain ⟨b, d, ns, rfl, hn, hs'⟩ := prof_opened (hval 1 51 v1 rfl rfl) h1
  clear hA0 hval0
  simp only [List.append_nil] at hW'
  refine (walk a b c d ms ns hm hn W hs hs').mono fun e W' ⟨he, hg⟩ => ?_
  subst he
  have hlt : ∀ x ∈ p0 ++ p1, x.block < W.heap.size := fun x hx => by simpa using hW'.lt x hx
  have harg := Below.trod laidOutAll (by kernel_rfl) (of_decide_eq_true (by kernel_rfl)) h0 hg (fun x hx => hlt x (List.mem_append_left _ hx))
  have harg1 := Below.trod laidOutAll (by kernel_rfl) (of_decide_eq_true (by kernel_rfl)) h1 hg (fun x hx => hlt x (List.mem_append_right _ hx))
  exact ⟨_, rfl, _, _, _, [], _, [], hW', trodAll_mk1 (shut_bool Try.underlying4 _), trodAll_mk2 harg harg1, rfl, hg.frame _, fun h => by cases h⟩
end LawSameProf

/-- For every two profiles: the law returns true, and they read as they did. -/
theorem fnExactSameProf_holds : Rows.FnExactSameProfSaid :=
  OpenClaim.holds_of_wide 14 Try.f14 rfl rfl rfl rfl rfl rfl rfl ⟨rfl, rfl, rfl, rfl, rfl⟩ rfl rfl rfl rfl rfl (by kernel_rfl) Try.func14 (by kernel_rfl)
    (of_decide_eq_true (by kernel_rfl)) (by unfold Func.isWrapper; rw [if_neg (of_decide_eq_false (by kernel_rfl))]; exact ⟨rfl, rfl⟩)
    (fun os started H enc _ => LawSameProf.lifted os started H enc)
#print axioms fnExactSameProf_holds
end Go.Proofs.Ytleemkolcciokaa
