/- FnExactBelow: for every topology and number the program's Below answers as the specification's; no condition. -/
import Derived.Test.YtljclchjdckgpaaBelowB
import Derived.Test.YtljclchjdckgpaaLawP
import Derived.ProofKit
import Derived.OpenShut
import Derived.Deep.RegionWith
import Derived.Deep.Light
namespace Go.Proofs.Ytljclchjdckgpaa
namespace LawBelow
open Go.ChangeShapes Go.WideShapes Go.ChangeAt Go.RowKit Go.Joins

set_option maxHeartbeats 4000000 in
theorem walk (a b : Option Addr) (c d : Nat) (ps : List Int) (ns : List Nd) (s : Int) (hp : ps.length ≤ maxLen) (hn : ns.length ≤ maxLen) (w : World) (h : Sq w a (ints ps)) (h' : Sq w b (flat ns)) :
    Calls Try.prog 6 #[.agg #[.slice a ps.length c, .slice b ns.length d], .int .i64 s] w fun e w' => e = .returned (.bool true) ∧ Below w.heap.size w w' := by
  have H : Hid (Sq w a (ints ps)) := h
  have H' : Hid (Sq w b (flat ns)) := h'
  have Hp : Hid (ps.length ≤ maxLen) := hp
  have Hn : Hid (ns.length ≤ maxLen) := hn
  clear h h' hp hn
  go_enter Try.func6, Try.ntmps6
  go_wp2_with fail
  generalize hV : w.alloc (.cells #[.slice a ps.length c, .slice b ns.length d] 40) = V
  have HA : Hid (Row V w.heap.size [.slice a ps.length c, .slice b ns.length d]) := by subst hV; exact row_fresh w [.slice a ps.length c, .slice b ns.length d] 40
  have HV : Hid (Below w.heap.size w V) := by subst hV; exact low_alloc _ _
  clear hV
  refine (szTopo_c a b ps.length ns.length c d Hp.out Hn.out 1048576 (by omega) (by omega) V).mono ?_
  rintro e w1 ⟨rfl, hb⟩
  have HB1 : Hid (Below V.heap.size V w1) := hb
  have t0 := (HA.out.below hb).cell 0 _ rfl
  have t1 := (HA.out.below hb).cell 1 _ rfl
  clear hb
  by_cases hz : szT ps.length ns.length 1048576 < 0
  · generalize szT ps.length ns.length 1048576 = z at hz
    go_wp2_with fail
    go_ret
    exact ⟨rfl, below_then HV.out HB1.out⟩
  · obtain ⟨hp, hn⟩ := sz_yes hz
    generalize szT ps.length ns.length 1048576 = z at hz
    go_wp2_with fail
    refine (toTopo_c a b c d ps ns hp hn _ ((H.out.below HV.out).below HB1.out) ((H'.out.below HV.out).below HB1.out)).mono ?_
    rintro e w2 ⟨g, h, rfl, hg, hgh, hr1, hr2, hb⟩
    have HB2 : Hid (Below V.heap.size V w2) := below_then HB1.out hb
    have HG2 : Hid (Sq w2 (some ⟨g, 0, none⟩) (ints ps)) := Sq.of_row hr1
    have HH2 : Hid (Sq w2 (some ⟨h, 0, none⟩) (flat ns)) := Sq.of_row hr2
    clear hb hr1 hr2 t0 t1 HB1
    go_wp2_with fail
    refine (specBelow_c _ _ _ _ ps ns s hp hn _ HG2.out HH2.out).mono ?_
    rintro e w3 ⟨v0, rfl, hans, hb⟩
    have HB3 : Hid (Below V.heap.size V w3) := below_then HB2.out hb
    have hRl := belowR_len ps ns s
    generalize hR : belowR ps ns s = r at hRl hans
    have HR : Hid (belowR ps ns s = r) := hR
    have HA3 : Hid (Ans w2.heap.size w3.heap.size w3 (ints r) v0) := hans
    clear hR hans
    have t0 := (HA.out.below HB3.out).cell 0 _ rfl
    have t1 := (HA.out.below HB3.out).cell 1 _ rfl
    clear hb HG2 HH2 HB2 hg hgh
    go_wp2_with fail
    refine (toTopo_c a b c d ps ns hp hn _ ((H.out.below HV.out).below HB3.out) ((H'.out.below HV.out).below HB3.out)).mono ?_
    rintro e w4 ⟨g4, h4, rfl, hg, hgh, hr1, hr2, hb⟩
    have HB4 : Hid (Below V.heap.size V w4) := below_then HB3.out hb
    have HA4 : Hid (Ans w2.heap.size w3.heap.size w4 (ints r) v0) := HA3.out.below hb
    have HG4 : Hid (Row w4 g4 (ints ps)) := hr1
    have HH4 : Hid (Row w4 h4 (flat ns)) := hr2
    have hg4h : g4 ≠ h4 := by omega
    have hg4 : w3.heap.size ≤ g4 := hg
    have hh4 : w3.heap.size ≤ h4 := by omega
    have hV3 : V.heap.size ≤ w3.heap.size := HB3.out.size
    clear hb hr1 hr2 t0 t1 HB3 hg hgh HA3
    go_wp2_with fail
    have HB5 : Hid (Below V.heap.size V (w4.alloc (.cells #[.slice (some ⟨g4, 0, none⟩) ps.length ps.length, .slice (some ⟨h4, 0, none⟩) ns.length ns.length] 26))) := behind_alloc HB4.out _
    have HX5 : Hid (Row (w4.alloc (.cells #[.slice (some ⟨g4, 0, none⟩) ps.length ps.length, .slice (some ⟨h4, 0, none⟩) ns.length ns.length] 26)) w4.heap.size [.slice (some ⟨g4, 0, none⟩) ps.length ps.length, .slice (some ⟨h4, 0, none⟩) ns.length ns.length]) := row_fresh w4 [.slice (some ⟨g4, 0, none⟩) ps.length ps.length, .slice (some ⟨h4, 0, none⟩) ns.length ns.length] 26
    have HG5 : Hid (Row (w4.alloc (.cells #[.slice (some ⟨g4, 0, none⟩) ps.length ps.length, .slice (some ⟨h4, 0, none⟩) ns.length ns.length] 26)) g4 (ints ps)) := HG4.out.below (low_alloc _ _)
    have HH5 : Hid (Row (w4.alloc (.cells #[.slice (some ⟨g4, 0, none⟩) ps.length ps.length, .slice (some ⟨h4, 0, none⟩) ns.length ns.length] 26)) h4 (flat ns)) := HH4.out.below (low_alloc _ _)
    have HA5 : Hid (Ans w2.heap.size w3.heap.size (w4.alloc (.cells #[.slice (some ⟨g4, 0, none⟩) ps.length ps.length, .slice (some ⟨h4, 0, none⟩) ns.length ns.length] 26)) (ints r) v0) := HA4.out.below (low_alloc _ _)
    generalize w4.alloc (.cells #[.slice (some ⟨g4, 0, none⟩) ps.length ps.length, .slice (some ⟨h4, 0, none⟩) ns.length ns.length] 26) = w5 at HB5 HX5 HG5 HH5 HA5
    clear HB4 HG4 HH4 HA4
    generalize w4.heap.size = x at *
    refine (implBelow_c _ _ _ _ ps ns s hn _ (Sq.of_row HG5.out) (Sq.of_row HH5.out)).mono ?_
    rintro e w6 ⟨v1, rfl, hans, hb⟩
    have HC6 : Hid (Ans w5.heap.size w6.heap.size w6 (ints r) v1) := by rw [← HR.out]; exact hans
    have HA6 : Hid (Ans w2.heap.size w3.heap.size w6 (ints r) v0) := HA5.out.below hb
    have hg5 : g4 < w5.heap.size := HG5.out.lt
    have hh5 : h4 < w5.heap.size := HH5.out.lt
    have hx5 : x < w5.heap.size := HX5.out.lt
    have hV5 : V.heap.size ≤ w5.heap.size := HB5.out.size
    have h35 : w3.heap.size ≤ w5.heap.size := by omega
    clear hans
    have HB6 : Hid (Below V.heap.size V w6) := below_then HB5.out hb
    have HX6 : Hid (Row w6 x [.slice (some ⟨g4, 0, none⟩) ps.length ps.length, .slice (some ⟨h4, 0, none⟩) ns.length ns.length]) := HX5.out.below hb
    have HG6 : Hid (Row w6 g4 (ints ps)) := HG5.out.below hb
    have HH6 : Hid (Row w6 h4 (flat ns)) := HH5.out.below hb
    clear hb HB5 HX5 HG5 HH5 HA5
    go_wp2_with fail
    refine (eq_ans HC6.out HA6.out hRl).mono ?_
    rintro e w6b ⟨rfl, hb⟩
    have HB6b : Hid (Below V.heap.size V w6b) := below_then HB6.out hb
    have HX6b : Hid (Row w6b x [.slice (some ⟨g4, 0, none⟩) ps.length ps.length, .slice (some ⟨h4, 0, none⟩) ns.length ns.length]) := HX6.out.below hb
    have HG6b : Hid (Row w6b g4 (ints ps)) := HG6.out.below hb
    have HH6b : Hid (Row w6b h4 (flat ns)) := HH6.out.below hb
    have HC6b : Hid (Ans w5.heap.size w6.heap.size w6b (ints r) v1) := HC6.out.below hb
    have HA6b : Hid (Ans w2.heap.size w3.heap.size w6b (ints r) v0) := HA6.out.below hb
    clear hb HB6 HX6 HG6 HH6 HC6 HA6
    go_wp2_with fail
    have HD : Hid (Below w6b.heap.size w6b w6b.drew) := ⟨rfl, rfl, rfl, Nat.le_refl _, fun _ _ => rfl⟩
    have HB7 : Hid (Below V.heap.size V w6b.drew) := below_then HB6b.out HD.out
    have HX7 : Hid (Row w6b.drew x [.slice (some ⟨g4, 0, none⟩) ps.length ps.length, .slice (some ⟨h4, 0, none⟩) ns.length ns.length]) := HX6b.out.below HD.out
    have HG7 : Hid (Row w6b.drew g4 (ints ps)) := HG6b.out.below HD.out
    have HH7 : Hid (Row w6b.drew h4 (flat ns)) := HH6b.out.below HD.out
    have t0 := (HA.out.below HB6b.out).cell 0 _ rfl
    have t1 := (HA.out.below HB6b.out).cell 1 _ rfl
    have x0 := HX6b.out.cell 0 _ rfl
    have x1 := HX6b.out.cell 1 _ rfl
    have HC7 : Hid (Ans w5.heap.size w6.heap.size w6b.drew (ints r) v1) := HC6b.out.below HD.out
    have HA7 : Hid (Ans w2.heap.size w3.heap.size w6b.drew (ints r) v0) := HA6b.out.below HD.out
    clear HB6b HX6b HG6b HH6b HC6b HA6b HD
    go_region_with (first
      | (go_at_call 19; refine (toTopo_c a b c d ps ns hp hn w6b.drew ((H.out.below HV.out).below HB7.out) ((H'.out.below HV.out).below HB7.out)).mono ?_; rintro e w8 ⟨g8, h8, rfl, hg, hgh, hr1, hr2, hb⟩; have x80 := (HX7.out.below hb).cell 0 _ rfl; have x81 := (HX7.out.below hb).cell 1 _ rfl; have HB8 : Hid (Below V.heap.size V w8) := below_then HB7.out hb; have HG8 : Hid (Row w8 g4 (ints ps)) := HG7.out.below hb; have HH8 : Hid (Row w8 h4 (flat ns)) := HH7.out.below hb; have HX8 : Hid (Row w8 x [.slice (some ⟨g4, 0, none⟩) ps.length ps.length, .slice (some ⟨h4, 0, none⟩) ns.length ns.length]) := HX7.out.below hb; have HC8 : Hid (Ans w5.heap.size w6.heap.size w8 (ints r) v1) := HC7.out.below hb; have HA8 : Hid (Ans w2.heap.size w3.heap.size w8 (ints r) v0) := HA7.out.below hb; have HG9 : Hid (Row w8 g8 (ints ps)) := hr1; have HH9 : Hid (Row w8 h8 (flat ns)) := hr2; clear hb hr1 hr2 hg hgh)
      | (go_at_call 21; refine (eqTopo_c _ _ _ _ _ _ _ _ ps ps ns ns hp hn w8 (Sq.of_row HG8.out) (Sq.of_row HH8.out) (Sq.of_row HG9.out) (Sq.of_row HH9.out)).mono ?_; rintro e w9 ⟨rfl, hb⟩; have HB9 : Hid (Below V.heap.size V w9) := below_then HB8.out hb; have HX9 : Hid (Row w9 x [.slice (some ⟨g4, 0, none⟩) ps.length ps.length, .slice (some ⟨h4, 0, none⟩) ns.length ns.length]) := HX8.out.below hb; have HGa : Hid (Row w9 g4 (ints ps)) := HG8.out.below hb; have HHa : Hid (Row w9 h4 (flat ns)) := HH8.out.below hb; have HC9 : Hid (Ans w5.heap.size w6.heap.size w9 (ints r) v1) := HC8.out.below hb; have HA9 : Hid (Ans w2.heap.size w3.heap.size w9 (ints r) v0) := HA8.out.below hb; clear hb))
    all_goals
      clear t0 t1 x0 x1 x80 x81 HB8 HG8 HH8 HG9 HH9 HX8 HC8 HA8 HB7 HX7 HG7 HH7 HC7 HA7
      have x0 := HX9.out.cell 0 _ rfl
      have x1 := HX9.out.cell 1 _ rfl
      go_wp2_with fail
      have hmk := markTopo_c g4 h4 ps.length ns.length 1 (ints ps) (flat ns) ns.length (by rw [ints_len]; exact hp) (flat_len ns) hn (by omega) hg4h w9 HGa.out HHa.out
      rw [ints_len] at hmk
      refine hmk.mono ?_
      clear hmk
      rintro e wa ⟨rfl, hk, hbw⟩
      have HBa : Hid (Below V.heap.size V wa) := hbw V HB9.out (by omega) (by omega)
      have HCa : Hid (Ans w5.heap.size w6.heap.size wa (ints r) v1) := HC9.out.keep fun g h1 _ hr => hk g _ hr (by omega) (by omega)
      have HAa : Hid (Ans w2.heap.size w3.heap.size wa (ints r) v0) := HA9.out.keep fun g _ h1 hr => hk g _ hr (by omega) (by omega)
      clear hk hbw x0 x1 HX9 HGa HHa HC9 HA9 HB9
      go_wp2_with fail
      refine (eq_ans HCa.out HAa.out hRl).mono ?_
      rintro e wb ⟨rfl, hb⟩
      have HBb : Hid (Below V.heap.size V wb) := below_then HBa.out hb
      have HCb : Hid (Ans w5.heap.size w6.heap.size wb (ints r) v1) := HCa.out.below hb
      have HAb : Hid (Ans w2.heap.size w3.heap.size wb (ints r) v0) := HAa.out.below hb
      clear hb HBa HCa HAa
      go_wp2_with fail
      refine (mark_ans (k0 := 1) HCb.out (by rw [ints_len]; omega) (by omega)).mono ?_
      rintro e wc ⟨rfl, hC, hk, hbw⟩
      rw [ints_len] at hC ⊢
      have HBc : Hid (Below V.heap.size V wc) := hbw V HBb.out (by omega)
      have HCc : Hid (Ans w5.heap.size w6.heap.size wc (upFrom 1 r.length) v1) := hC
      have HAc : Hid (Ans w2.heap.size w3.heap.size wc (ints r) v0) := HAb.out.keep fun g _ h1 hr => hk g _ hr (by omega)
      clear hC hk hbw HBb HCb HAb
      go_wp2_with fail
      refine (held_ans (k0 := 1) HCc.out (by omega) (by omega)).mono ?_
      rintro e wd ⟨rfl, hb⟩
      have HBd : Hid (Below V.heap.size V wd) := below_then HBc.out hb
      have HCd : Hid (Ans w5.heap.size w6.heap.size wd (upFrom 1 r.length) v1) := HCc.out.below hb
      have HAd : Hid (Ans w2.heap.size w3.heap.size wd (ints r) v0) := HAc.out.below hb
      have t0 := (HA.out.below HBd.out).cell 0 _ rfl
      have t1 := (HA.out.below HBd.out).cell 1 _ rfl
      clear hb HBc HCc HAc
      go_wp2_with fail
      refine (toTopo_c a b c d ps ns hp hn _ ((H.out.below HV.out).below HBd.out) ((H'.out.below HV.out).below HBd.out)).mono ?_
      rintro e we ⟨ge, he, rfl, _, _, hr1, hr2, hb⟩
      have HBe : Hid (Below V.heap.size V we) := below_then HBd.out hb
      have HCe : Hid (Ans w5.heap.size w6.heap.size we (upFrom 1 r.length) v1) := HCd.out.below hb
      have HAe : Hid (Ans w2.heap.size w3.heap.size we (ints r) v0) := HAd.out.below hb
      have HGe : Hid (Row we ge (ints ps)) := hr1
      have HHe : Hid (Row we he (flat ns)) := hr2
      clear hb hr1 hr2 t0 t1 HBd HCd HAd
      go_wp2_with fail
      refine (implBelow_c _ _ _ _ ps ns s hn _ (Sq.of_row HGe.out) (Sq.of_row HHe.out)).mono ?_
      rintro e wf ⟨v2, rfl, hans, hb⟩
      have HBf : Hid (Below V.heap.size V wf) := below_then HBe.out hb
      have HCf : Hid (Ans w5.heap.size w6.heap.size wf (upFrom 1 r.length) v1) := HCe.out.below hb
      have HAf : Hid (Ans w2.heap.size w3.heap.size wf (ints r) v0) := HAe.out.below hb
      have HEf : Hid (Ans we.heap.size wf.heap.size wf (ints r) v2) := by rw [← HR.out]; exact hans
      clear hb hans HBe HCe HAe HGe HHe
      go_wp2_with fail
      refine (eq_ans HEf.out HAf.out hRl).mono ?_
      rintro e wg ⟨rfl, hb⟩
      have HBg : Hid (Below V.heap.size V wg) := below_then HBf.out hb
      have HCg : Hid (Ans w5.heap.size w6.heap.size wg (upFrom 1 r.length) v1) := HCf.out.below hb
      clear hb HBf HCf HAf HEf
      go_wp2_with fail
      refine (held_ans (k0 := 1) HCg.out (by omega) (by omega)).mono ?_
      rintro e wh ⟨rfl, hb⟩
      have HBh : Hid (Below V.heap.size V wh) := below_then HBg.out hb
      clear hb HBg HCg
      go_wp2_with fail
      go_ret
      exact ⟨rfl, below_then HV.out HBh.out⟩

set_option maxRecDepth 100000 in
theorem lifted (os : Os) (started : os.Started) (H : Type) (enc : TypeId × Value → H) :
    ReturnsInHanded {} Try.checked os 6 .any (Rows.fnExactBelowSpec.pre6 enc Try.prog Try.f6 Rows.fnExactBelowRow.domain false) (Rows.fnExactBelowSpec.post enc Try.prog Try.f6 false true false false) := by
  refine returnsInHanded_of_change (C := Try.checked) own started (by kernel_rfl) Try.func6
    (ChangeSpec.witness6 (enc := enc) (C := Try.checked) false ⟨#[], #[.agg #[.slice none 0 0, .slice none 0 0], .int .i64 0], []⟩ 8 (by kernel_rfl) (by kernel_rfl) (by kernel_rfl) (by kernel_rfl)) ?_
  intro W base args ds gs before hval0 hW _ _
  have hval : ∀ (j : Nat) t v, Try.f6.params[j]? = some t → args[j]? = some v → Value.okWide Try.prog W .any base t v := hval0
  have hW' := hW
  obtain ⟨p, q, hA0, hV, rfl, _, _⟩ := hW
  have hA : DataW.TrodAll enc Try.prog W 0 (fun _ => true) true Try.f6.params.toList args.toList ds p := hA0
  rw [Try.params6] at hA hval
  obtain ⟨v0, v1, d0, d1, p0, p1, rfl, rfl, rfl, h0, h1⟩ := trodAll_two hA
  obtain ⟨rfl, rfl⟩ := trodVars_none hV
  obtain ⟨a, b, c, d, ps, ns, rfl, hp, hn, hs, hs'⟩ := topo_opened (hval 0 40 v0 rfl rfl) h0
  obtain ⟨s, rfl⟩ := okWide_int Try.underlying3 (hval 1 3 v1 rfl rfl)
  clear hA0 hval0
  simp only [List.append_nil] at hW'
  refine (walk a b c d ps ns s hp hn W hs hs').mono fun e W' ⟨he, hg⟩ => ?_
  subst he
  have hlt : ∀ x ∈ p0 ++ p1, x.block < W.heap.size := fun x hx => by simpa using hW'.lt x hx
  have harg := Below.trod laidOutAll (by kernel_rfl) (of_decide_eq_true (by kernel_rfl)) h0 hg (fun x hx => hlt x (List.mem_append_left _ hx))
  have harg1 := Below.trod laidOutAll (by kernel_rfl) (of_decide_eq_true (by kernel_rfl)) h1 hg (fun x hx => hlt x (List.mem_append_right _ hx))
  exact ⟨_, rfl, _, _, _, [], _, [], hW', trodAll_mk1 (shut_bool Try.underlying4 _), trodAll_mk2 harg harg1, rfl, hg.frame _, fun h => by cases h⟩
end LawBelow

/-- For every topology and number: the law returns true, and both read as they did. -/
theorem fnExactBelow_holds : Rows.FnExactBelowSaid :=
  OpenClaim.holds_of_wide 6 Try.f6 rfl rfl rfl rfl rfl rfl rfl ⟨rfl, rfl, rfl, rfl, rfl⟩ rfl rfl rfl rfl rfl (by kernel_rfl) Try.func6 (by kernel_rfl)
    (of_decide_eq_true (by kernel_rfl)) (by unfold Func.isWrapper; rw [if_neg (of_decide_eq_false (by kernel_rfl))]; exact ⟨rfl, rfl⟩)
    (fun os started H enc _ => LawBelow.lifted os started H enc)
#print axioms fnExactBelow_holds
end Go.Proofs.Ytljclchjdckgpaa
