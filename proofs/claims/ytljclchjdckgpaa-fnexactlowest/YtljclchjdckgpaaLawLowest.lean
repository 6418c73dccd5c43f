/- FnExactLowest: for every topology and every numbers the program's Lowest answers as the specification's; no condition. -/
import Derived.Test.YtljclchjdckgpaaLowB
import Derived.Test.YtljclchjdckgpaaLowD
import Derived.Test.YtljclchjdckgpaaLawP
import Derived.ProofKit
import Derived.OpenShut
import Derived.Deep.RegionWith
import Derived.Deep.Light
namespace Go.Proofs.Ytljclchjdckgpaa
namespace LawLowest
open Go.ChangeShapes Go.WideShapes Go.ChangeAt Go.RowKit Go.Joins

set_option maxHeartbeats 4000000 in
theorem walk (a b : Option Addr) (c d : Nat) (ps : List Int) (ns : List Nd) (f : Option Addr) (m : Nat) (xs : List Int) (hp : ps.length ≤ maxLen) (hn : ns.length ≤ maxLen) (hx : xs.length ≤ maxLen) (w : World) (h : Sq w a (ints ps)) (h' : Sq w b (flat ns)) (h2 : Sq w f (ints xs)) :
    Calls Try.prog 8 #[.agg #[.slice a ps.length c, .slice b ns.length d], .slice f xs.length m] w fun e w' => e = .returned (.bool true) ∧ Below w.heap.size w w' := by
  have H : Hid (Sq w a (ints ps)) := h
  have H' : Hid (Sq w b (flat ns)) := h'
  have H2 : Hid (Sq w f (ints xs)) := h2
  have Hp : Hid (ps.length ≤ maxLen) := hp
  have Hn : Hid (ns.length ≤ maxLen) := hn
  unfold maxLen at hx
  clear h h' h2 hp hn
  by_cases hxl : 1048576 < xs.length
  · have hxi : 1048576 < (xs.length : Int) := by omega
    go_enter Try.func8, Try.ntmps8
    go_wp2_with fail
    go_ret
    exact ⟨rfl, low_alloc _ _⟩
  have hxi : ¬ 1048576 < (xs.length : Int) := by omega
  have hx2 : xs.length ≤ 1048576 := by omega
  clear hx hxl
  go_enter Try.func8, Try.ntmps8
  go_wp2_with fail
  generalize hV : w.alloc (.cells #[.slice a ps.length c, .slice b ns.length d] 40) = V
  have HA : Hid (Row V w.heap.size [.slice a ps.length c, .slice b ns.length d]) := by subst hV; exact row_fresh w [.slice a ps.length c, .slice b ns.length d] 40
  have HV : Hid (Below w.heap.size w V) := by subst hV; exact low_alloc _ _
  clear hV
  refine (szTopo_c a b ps.length ns.length c d Hp.out Hn.out 1048576 (by omega) (by omega) V).mono ?_
  rintro e w1 ⟨rfl, hb⟩
  have HB1 : Hid (Below V.heap.size V w1) := hb
  have t0 := (HA.out.below hb).cell 0 _ rfl
  have t1 := (HA.out.below hb).cell 1 _ rfl
  clear hb
  by_cases hz : szT ps.length ns.length 1048576 < 0
  · generalize szT ps.length ns.length 1048576 = z at hz
    go_wp2_with fail
    go_ret
    exact ⟨rfl, below_then HV.out HB1.out⟩
  · obtain ⟨hp, hn⟩ := sz_yes hz
    generalize szT ps.length ns.length 1048576 = z at hz
    go_wp2_with fail
    refine (toTopo_c a b c d ps ns hp hn _ ((H.out.below HV.out).below HB1.out) ((H'.out.below HV.out).below HB1.out)).mono ?_
    rintro e w2 ⟨g, h, rfl, hg, hgh, hr1, hr2, hb⟩
    have HB2 : Hid (Below V.heap.size V w2) := below_then HB1.out hb
    have HG2 : Hid (Sq w2 (some ⟨g, 0, none⟩) (ints ps)) := Sq.of_row hr1
    have HH2 : Hid (Sq w2 (some ⟨h, 0, none⟩) (flat ns)) := Sq.of_row hr2
    clear hb hr1 hr2 t0 t1 HB1
    go_wp2_with fail
    refine (toIntS_c f m xs hx2 _ ((H2.out.below HV.out).below HB2.out)).mono ?_
    rintro e w2b ⟨g2, rfl, hg2, hr, hb⟩
    have HB2b : Hid (Below V.heap.size V w2b) := below_then HB2.out hb
    have HG2b : Hid (Sq w2b (some ⟨g, 0, none⟩) (ints ps)) := HG2.out.below hb
    have HH2b : Hid (Sq w2b (some ⟨h, 0, none⟩) (flat ns)) := HH2.out.below hb
    have HX2b : Hid (Sq w2b (some ⟨g2, 0, none⟩) (ints xs)) := Sq.of_row hr
    clear hb hr HB2 HG2 HH2 hg2
    go_wp2_with fail
    refine (specLowest_c _ _ _ _ _ _ ps ns xs hp hn hx2 _ HG2b.out HH2b.out HX2b.out).mono ?_
    rintro e w3 ⟨rfl, hb⟩
    have HB3 : Hid (Below V.heap.size V w3) := below_then HB2b.out hb
    have t0 := (HA.out.below HB3.out).cell 0 _ rfl
    have t1 := (HA.out.below HB3.out).cell 1 _ rfl
    clear hb HG2b HH2b HB2b HX2b hg hgh
    go_wp2_with fail
    refine (toTopo_c a b c d ps ns hp hn _ ((H.out.below HV.out).below HB3.out) ((H'.out.below HV.out).below HB3.out)).mono ?_
    rintro e w4 ⟨g4, h4, rfl, hg, hgh, hr1, hr2, hb⟩
    have HB4 : Hid (Below V.heap.size V w4) := below_then HB3.out hb
    have HG4 : Hid (Row w4 g4 (ints ps)) := hr1
    have HH4 : Hid (Row w4 h4 (flat ns)) := hr2
    clear hb hr1 hr2 t0 t1 HB3 hg hgh
    go_wp2_with fail
    have HB5 : Hid (Below V.heap.size V (w4.alloc (.cells #[.slice (some ⟨g4, 0, none⟩) ps.length ps.length, .slice (some ⟨h4, 0, none⟩) ns.length ns.length] 26))) := behind_alloc HB4.out _
    have HX5 : Hid (Row (w4.alloc (.cells #[.slice (some ⟨g4, 0, none⟩) ps.length ps.length, .slice (some ⟨h4, 0, none⟩) ns.length ns.length] 26)) w4.heap.size [.slice (some ⟨g4, 0, none⟩) ps.length ps.length, .slice (some ⟨h4, 0, none⟩) ns.length ns.length]) := row_fresh w4 [.slice (some ⟨g4, 0, none⟩) ps.length ps.length, .slice (some ⟨h4, 0, none⟩) ns.length ns.length] 26
    have HG5 : Hid (Row (w4.alloc (.cells #[.slice (some ⟨g4, 0, none⟩) ps.length ps.length, .slice (some ⟨h4, 0, none⟩) ns.length ns.length] 26)) g4 (ints ps)) := HG4.out.below (low_alloc _ _)
    have HH5 : Hid (Row (w4.alloc (.cells #[.slice (some ⟨g4, 0, none⟩) ps.length ps.length, .slice (some ⟨h4, 0, none⟩) ns.length ns.length] 26)) h4 (flat ns)) := HH4.out.below (low_alloc _ _)
    generalize w4.alloc (.cells #[.slice (some ⟨g4, 0, none⟩) ps.length ps.length, .slice (some ⟨h4, 0, none⟩) ns.length ns.length] 26) = w5 at HB5 HX5 HG5 HH5
    clear HB4 HG4 HH4
    generalize w4.heap.size = x at *
    refine (toIntS_c f m xs hx2 _ ((H2.out.below HV.out).below HB5.out)).mono ?_
    rintro e w5b ⟨g5, rfl, hg5, hr, hb⟩
    have HB5b : Hid (Below V.heap.size V w5b) := below_then HB5.out hb
    have HX5b : Hid (Row w5b x [.slice (some ⟨g4, 0, none⟩) ps.length ps.length, .slice (some ⟨h4, 0, none⟩) ns.length ns.length]) := HX5.out.below hb
    have HG5b : Hid (Row w5b g4 (ints ps)) := HG5.out.below hb
    have HH5b : Hid (Row w5b h4 (flat ns)) := HH5.out.below hb
    have HY5b : Hid (Row w5b g5 (ints xs)) := hr
    have x0 := HX5b.out.cell 0 _ rfl
    have x1 := HX5b.out.cell 1 _ rfl
    clear hb hr hg5 HB5 HX5 HG5 HH5
    go_wp2_with fail
    refine (implLowest_c _ _ _ _ _ _ ps ns xs hn hx2 _ (Sq.of_row HG5b.out) (Sq.of_row HH5b.out) (Sq.of_row HY5b.out)).mono ?_
    rintro e w6 ⟨rfl, hb⟩
    generalize lowR ps ns xs = r
    have HB6 : Hid (Below V.heap.size V w6) := below_then HB5b.out hb
    have HX6 : Hid (Row w6 x [.slice (some ⟨g4, 0, none⟩) ps.length ps.length, .slice (some ⟨h4, 0, none⟩) ns.length ns.length]) := HX5b.out.below hb
    have HG6 : Hid (Row w6 g4 (ints ps)) := HG5b.out.below hb
    have HH6 : Hid (Row w6 h4 (flat ns)) := HH5b.out.below hb
    have HY6 : Hid (Row w6 g5 (ints xs)) := HY5b.out.below hb
    clear hb HB5b HX5b HG5b HH5b HY5b x0 x1
    go_wp2_with fail
    have HD : Hid (Below w6.heap.size w6 w6.drew) := ⟨rfl, rfl, rfl, Nat.le_refl _, fun _ _ => rfl⟩
    have HB7 : Hid (Below V.heap.size V w6.drew) := below_then HB6.out HD.out
    have HX7 : Hid (Row w6.drew x [.slice (some ⟨g4, 0, none⟩) ps.length ps.length, .slice (some ⟨h4, 0, none⟩) ns.length ns.length]) := HX6.out.below HD.out
    have HG7 : Hid (Row w6.drew g4 (ints ps)) := HG6.out.below HD.out
    have HH7 : Hid (Row w6.drew h4 (flat ns)) := HH6.out.below HD.out
    have t0 := (HA.out.below HB6.out).cell 0 _ rfl
    have t1 := (HA.out.below HB6.out).cell 1 _ rfl
    have x0 := HX6.out.cell 0 _ rfl
    have x1 := HX6.out.cell 1 _ rfl
    have HY7 : Hid (Row w6.drew g5 (ints xs)) := HY6.out.below HD.out
    clear HB6 HX6 HG6 HH6 HY6 HD
    go_region_with (first
      | (go_at_call 19; refine (toTopo_c a b c d ps ns hp hn w6.drew ((H.out.below HV.out).below HB7.out) ((H'.out.below HV.out).below HB7.out)).mono ?_; rintro e w8 ⟨g8, h8, rfl, hg, hgh, hr1, hr2, hb⟩; have x80 := (HX7.out.below hb).cell 0 _ rfl; have x81 := (HX7.out.below hb).cell 1 _ rfl; have HB8 : Hid (Below V.heap.size V w8) := below_then HB7.out hb; have HG8 : Hid (Row w8 g4 (ints ps)) := HG7.out.below hb; have HH8 : Hid (Row w8 h4 (flat ns)) := HH7.out.below hb; have HY8 : Hid (Row w8 g5 (ints xs)) := HY7.out.below hb; have HG9 : Hid (Row w8 g8 (ints ps)) := hr1; have HH9 : Hid (Row w8 h8 (flat ns)) := hr2; clear hb hr1 hr2 hg hgh)
      | (go_at_call 21; refine (eqTopo_c _ _ _ _ _ _ _ _ ps ps ns ns hp hn w8 (Sq.of_row HG8.out) (Sq.of_row HH8.out) (Sq.of_row HG9.out) (Sq.of_row HH9.out)).mono ?_; rintro e w9 ⟨rfl, hb⟩; have HB9 : Hid (Below V.heap.size V w9) := below_then HB8.out hb; have HY9 : Hid (Row w9 g5 (ints xs)) := HY8.out.below hb; clear hb))
    all_goals
      clear t0 t1 x0 x1 HB8 HG8 HH8 HY8 HG9 HH9 HB7 HX7 HG7 HH7 HY7
      go_wp2_with fail
      refine (toIntS_c f m xs hx2 _ ((H2.out.below HV.out).below HB9.out)).mono ?_
      rintro e wa ⟨ga, rfl, hga, hr, hb⟩
      have HBa : Hid (Below V.heap.size V wa) := below_then HB9.out hb
      have HYa : Hid (Row wa g5 (ints xs)) := HY9.out.below hb
      have HZa : Hid (Row wa ga (ints xs)) := hr
      clear hb hr hga
      go_wp2_with fail
      refine (eqIntS_c _ _ _ _ xs xs hx2 _ (Sq.of_row HYa.out) (Sq.of_row HZa.out)).mono ?_
      rintro e wb ⟨rfl, hb⟩
      have HBb : Hid (Below V.heap.size V wb) := below_then HBa.out hb
      clear hb
      rw [show decide (xs = xs) = true by simp]
      go_wp2_with fail
      go_ret
      exact ⟨rfl, below_then HV.out HBb.out⟩

set_option maxRecDepth 100000 in
theorem lifted (os : Os) (started : os.Started) (H : Type) (enc : TypeId × Value → H) :
    ReturnsInHanded {} Try.checked os 8 .any (Rows.fnExactLowestSpec.pre6 enc Try.prog Try.f8 Rows.fnExactLowestRow.domain false) (Rows.fnExactLowestSpec.post enc Try.prog Try.f8 false true false false) := by
  refine returnsInHanded_of_change (C := Try.checked) own started (by kernel_rfl) Try.func8
    (ChangeSpec.witness6 (enc := enc) (C := Try.checked) false ⟨#[], #[.agg #[.slice none 0 0, .slice none 0 0], .slice none 0 0], []⟩ 8 (by kernel_rfl) (by kernel_rfl) (by kernel_rfl) (by kernel_rfl)) ?_
  intro W base args ds gs before hval0 hW _ _
  have hval : ∀ (j : Nat) t v, Try.f8.params[j]? = some t → args[j]? = some v → Value.okWide Try.prog W .any base t v := hval0
  have hW' := hW
  obtain ⟨p, q, hA0, hV, rfl, _, _⟩ := hW
  have hA : DataW.TrodAll enc Try.prog W 0 (fun _ => true) true Try.f8.params.toList args.toList ds p := hA0
  rw [Try.params8] at hA hval
  obtain ⟨v0, v1, d0, d1, p0, p1, rfl, rfl, rfl, h0, h1⟩ := trodAll_two hA
  obtain ⟨rfl, rfl⟩ := trodVars_none hV
  obtain ⟨a, b, c, d, ps, ns, rfl, hp, hn, hs, hs'⟩ := topo_opened (hval 0 40 v0 rfl rfl) h0
  have h1' := h1
  obtain ⟨fuel, hfuel⟩ := h1'
  obtain ⟨f1, n1, m1, rfl⟩ := okWide_slice Try.underlying23 (hval 1 23 v1 rfl rfl)
  obtain ⟨f, xs, m, hxv, hx, hs2⟩ := ints_opened (v := .slice f1 n1 m1) hfuel
  obtain ⟨rfl, rfl, rfl⟩ : f1 = f ∧ n1 = xs.length ∧ m1 = m := by simpa using hxv
  clear hA0 hval0
  simp only [List.append_nil] at hW'
  refine (walk a b c d ps ns f1 m1 xs hp hn hx W hs hs' hs2).mono fun e W' ⟨he, hg⟩ => ?_
  subst he
  have hlt : ∀ x ∈ p0 ++ p1, x.block < W.heap.size := fun x hx => by simpa using hW'.lt x hx
  have harg := Below.trod laidOutAll (by kernel_rfl) (of_decide_eq_true (by kernel_rfl)) h0 hg (fun x hx => hlt x (List.mem_append_left _ hx))
  have harg1 := Below.trod laidOutAll (by kernel_rfl) (of_decide_eq_true (by kernel_rfl)) h1 hg (fun x hx => hlt x (List.mem_append_right _ hx))
  exact ⟨_, rfl, _, _, _, [], _, [], hW', trodAll_mk1 (shut_bool Try.underlying4 _), trodAll_mk2 harg harg1, rfl, hg.frame _, fun h => by cases h⟩
end LawLowest

/-- For every topology and number: the law returns true, and both read as they did. -/
theorem fnExactLowest_holds : Rows.FnExactLowestSaid :=
  OpenClaim.holds_of_wide 8 Try.f8 rfl rfl rfl rfl rfl rfl rfl ⟨rfl, rfl, rfl, rfl, rfl⟩ rfl rfl rfl rfl rfl (by kernel_rfl) Try.func8 (by kernel_rfl)
    (of_decide_eq_true (by kernel_rfl)) (by unfold Func.isWrapper; rw [if_neg (of_decide_eq_false (by kernel_rfl))]; exact ⟨rfl, rfl⟩)
    (fun os started H enc _ => LawLowest.lifted os started H enc)
#print axioms fnExactLowest_holds
end Go.Proofs.Ytljclchjdckgpaa
