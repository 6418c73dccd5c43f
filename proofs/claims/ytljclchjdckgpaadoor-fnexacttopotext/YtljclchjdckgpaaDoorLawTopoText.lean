/- FnExactTopoText: for every topology the program's TopoText answers as the specification's; the listed variables of the library lie as its text lays them. -/
import Derived.Test.YtljclchjdckgpaaDoorTxtB
import Derived.Test.YtljclchjdckgpaaDoorLaidT
import Derived.Test.YtljclchjdckgpaaDoorLawP
import Derived.Test.YtljclchjdckgpaaDoorCards
import Derived.Test.YtljclchjdckgpaaDoorTie
import Derived.SevenTiedAt
import Derived.Stop.Joined
import Derived.Stop.LaidErr
import Derived.Lay
import Derived.ProofKit
import Derived.OpenShut
import Derived.Deep.RegionWith
import Derived.Deep.Light
namespace Go.Proofs.YtljclchjdckgpaaDoor
namespace LawTopoText
open Go.ChangeShapes Go.WideShapes Go.ChangeAt Go.RowKit Go.Joins

set_option maxHeartbeats 4000000 in
theorem walk (a b : Option Addr) (c d : Nat) (ps : List Int) (ns : List Nd) (hp : ps.length ≤ maxLen) (hn : ns.length ≤ maxLen) (w : World) (h : Sq w a (ints ps)) (h' : Sq w b (flat ns)) (ht : Tab w) :
    Calls Tryd.prog 4 #[.agg #[.slice a ps.length c, .slice b ns.length d]] w fun e w' => e = .returned (.bool true) ∧ Below w.heap.size w w' := by
  have H : Hid (Sq w a (ints ps)) := h
  have H' : Hid (Sq w b (flat ns)) := h'
  have Hp : Hid (ps.length ≤ maxLen) := hp
  have Hn : Hid (ns.length ≤ maxLen) := hn
  have HTab : Hid (Tab w) := ht
  clear h h' hp hn ht
  go_enter Tryd.func4, Tryd.ntmps4
  go_wp2_with fail
  generalize hV : w.alloc (.cells #[.slice a ps.length c, .slice b ns.length d] 35) = V
  have HA : Hid (Row V w.heap.size [.slice a ps.length c, .slice b ns.length d]) := by subst hV; exact row_fresh w [.slice a ps.length c, .slice b ns.length d] 35
  have HV : Hid (Below w.heap.size w V) := by subst hV; exact low_alloc _ _
  clear hV
  refine (szTopo_c a b ps.length ns.length c d Hp.out Hn.out 1048576 (by omega) (by omega) V).mono ?_
  rintro e w1 ⟨rfl, hb⟩
  have HB1 : Hid (Below V.heap.size V w1) := hb
  have t0 := (HA.out.below hb).cell 0 _ rfl
  have t1 := (HA.out.below hb).cell 1 _ rfl
  clear hb
  by_cases hz : szT ps.length ns.length 1048576 < 0
  · generalize szT ps.length ns.length 1048576 = z at hz
    go_wp2_with fail
    go_ret
    exact ⟨rfl, below_then HV.out HB1.out⟩
  · obtain ⟨hp, hn⟩ := sz_yes hz
    generalize szT ps.length ns.length 1048576 = z at hz
    go_wp2_with fail
    refine (toTopo_c a b c d ps ns hp hn _ ((H.out.below HV.out).below HB1.out) ((H'.out.below HV.out).below HB1.out)).mono ?_
    rintro e w2 ⟨g, h, rfl, hg, hgh, hr1, hr2, hb⟩
    have HB2 : Hid (Below V.heap.size V w2) := below_then HB1.out hb
    have HG2 : Hid (Sq w2 (some ⟨g, 0, none⟩) (ints ps)) := Sq.of_row hr1
    have HH2 : Hid (Sq w2 (some ⟨h, 0, none⟩) (flat ns)) := Sq.of_row hr2
    clear hb hr1 hr2 t0 t1 HB1
    go_wp2_with fail
    refine (specTopoText_c _ _ _ _ ps ns hp hn _ HG2.out HH2.out).mono ?_
    rintro e w3 ⟨rfl, hb⟩
    have HB3 : Hid (Below V.heap.size V w3) := below_then HB2.out hb
    have t0 := (HA.out.below HB3.out).cell 0 _ rfl
    have t1 := (HA.out.below HB3.out).cell 1 _ rfl
    clear hb HG2 HH2 HB2 hg hgh
    go_wp2_with fail
    refine (toTopo_c a b c d ps ns hp hn _ ((H.out.below HV.out).below HB3.out) ((H'.out.below HV.out).below HB3.out)).mono ?_
    rintro e w4 ⟨g4, h4, rfl, hg, hgh, hr1, hr2, hb⟩
    have HB4 : Hid (Below V.heap.size V w4) := below_then HB3.out hb
    have HG4 : Hid (Row w4 g4 (ints ps)) := hr1
    have HH4 : Hid (Row w4 h4 (flat ns)) := hr2
    clear hb hr1 hr2 t0 t1 HB3 hg hgh
    go_wp2_with fail
    have HB5 : Hid (Below V.heap.size V (w4.alloc (.cells #[.slice (some ⟨g4, 0, none⟩) ps.length ps.length, .slice (some ⟨h4, 0, none⟩) ns.length ns.length] 26))) := behind_alloc HB4.out _
    have HX5 : Hid (Row (w4.alloc (.cells #[.slice (some ⟨g4, 0, none⟩) ps.length ps.length, .slice (some ⟨h4, 0, none⟩) ns.length ns.length] 26)) w4.heap.size [.slice (some ⟨g4, 0, none⟩) ps.length ps.length, .slice (some ⟨h4, 0, none⟩) ns.length ns.length]) := row_fresh w4 [.slice (some ⟨g4, 0, none⟩) ps.length ps.length, .slice (some ⟨h4, 0, none⟩) ns.length ns.length] 26
    have HG5 : Hid (Row (w4.alloc (.cells #[.slice (some ⟨g4, 0, none⟩) ps.length ps.length, .slice (some ⟨h4, 0, none⟩) ns.length ns.length] 26)) g4 (ints ps)) := HG4.out.below (low_alloc _ _)
    have HH5 : Hid (Row (w4.alloc (.cells #[.slice (some ⟨g4, 0, none⟩) ps.length ps.length, .slice (some ⟨h4, 0, none⟩) ns.length ns.length] 26)) h4 (flat ns)) := HH4.out.below (low_alloc _ _)
    generalize w4.alloc (.cells #[.slice (some ⟨g4, 0, none⟩) ps.length ps.length, .slice (some ⟨h4, 0, none⟩) ns.length ns.length] 26) = w5 at HB5 HX5 HG5 HH5
    clear HB4 HG4 HH4
    generalize w4.heap.size = x at *
    refine (implTopoText_c _ _ _ _ ps ns hn (Nat.le_refl _) _ (Sq.of_row HG5.out) (Sq.of_row HH5.out) (HTab.out.on (below_then HV.out HB5.out))).mono ?_
    rintro e w6 ⟨rfl, hb⟩
    generalize (⟨(ttL ps ns).toArray⟩ : ByteArray) = r
    have HB6 : Hid (Below V.heap.size V w6) := below_then HB5.out hb
    have HX6 : Hid (Row w6 x [.slice (some ⟨g4, 0, none⟩) ps.length ps.length, .slice (some ⟨h4, 0, none⟩) ns.length ns.length]) := HX5.out.below hb
    have HG6 : Hid (Row w6 g4 (ints ps)) := HG5.out.below hb
    have HH6 : Hid (Row w6 h4 (flat ns)) := HH5.out.below hb
    clear hb HB5 HX5 HG5 HH5
    go_wp2_with fail
    have HD : Hid (Below w6.heap.size w6 w6.drew) := ⟨rfl, rfl, rfl, Nat.le_refl _, fun _ _ => rfl⟩
    have HB7 : Hid (Below V.heap.size V w6.drew) := below_then HB6.out HD.out
    have HX7 : Hid (Row w6.drew x [.slice (some ⟨g4, 0, none⟩) ps.length ps.length, .slice (some ⟨h4, 0, none⟩) ns.length ns.length]) := HX6.out.below HD.out
    have HG7 : Hid (Row w6.drew g4 (ints ps)) := HG6.out.below HD.out
    have HH7 : Hid (Row w6.drew h4 (flat ns)) := HH6.out.below HD.out
    have t0 := (HA.out.below HB6.out).cell 0 _ rfl
    have t1 := (HA.out.below HB6.out).cell 1 _ rfl
    have x0 := HX6.out.cell 0 _ rfl
    have x1 := HX6.out.cell 1 _ rfl
    clear HB6 HX6 HG6 HH6 HD
    go_region_with (first
      | (go_at_call 12; refine (toTopo_c a b c d ps ns hp hn w6.drew ((H.out.below HV.out).below HB7.out) ((H'.out.below HV.out).below HB7.out)).mono ?_; rintro e w8 ⟨g8, h8, rfl, hg, hgh, hr1, hr2, hb⟩; have x80 := (HX7.out.below hb).cell 0 _ rfl; have x81 := (HX7.out.below hb).cell 1 _ rfl; have HB8 : Hid (Below V.heap.size V w8) := below_then HB7.out hb; have HG8 : Hid (Row w8 g4 (ints ps)) := HG7.out.below hb; have HH8 : Hid (Row w8 h4 (flat ns)) := HH7.out.below hb; have HG9 : Hid (Row w8 g8 (ints ps)) := hr1; have HH9 : Hid (Row w8 h8 (flat ns)) := hr2; clear hb hr1 hr2 hg hgh)
      | (go_at_call 13; refine (eqTopo_c _ _ _ _ _ _ _ _ ps ps ns ns hp hn w8 (Sq.of_row HG8.out) (Sq.of_row HH8.out) (Sq.of_row HG9.out) (Sq.of_row HH9.out)).mono ?_; rintro e w9 ⟨rfl, hb⟩; have HB9 : Hid (Below V.heap.size V w9) := below_then HB8.out hb; clear hb))
    all_goals
      go_wp2_with fail
      go_ret
      exact ⟨rfl, below_then HV.out HB9.out⟩

set_option maxRecDepth 100000 in
theorem lifted (os : Os) (started : os.Started) (H : Type) (enc : TypeId × Value → H) :
    ReturnsInHanded {} Tryd.checked os 4 .any (fun w args => (Rows.fnExactTopoTextSpec.pre enc Tryd.prog Tryd.f4 [] false w args ∧ laidMetH Tryd.prog Rows.fnExactTopoTextRow.laid w) ∧ sizedMet enc Tryd.prog Tryd.f4 (OpenSpec.ofChange Rows.fnExactTopoTextSpec) false w args)
      (Rows.fnExactTopoTextSpec.post enc Tryd.prog Tryd.f4 false true false false) := by
  refine returnsInHanded_of_change_and (C := Tryd.checked) (X := fun w _ => laidMetH Tryd.prog Rows.fnExactTopoTextRow.laid w) (fun _ _ _ hh h => h.of_heap hh) own started (by kernel_rfl) Tryd.func4
    (ChangeSpec.witness_shaped (enc := enc) (C := Tryd.checked) (os := os) (X := fun w _ => laidMetH Tryd.prog Rows.fnExactTopoTextRow.laid w) false (World.laidAll Tryd.prog os Rows.fnExactTopoTextRow.laid) #[.agg #[.slice none 0 0, .slice none 0 0]] 8 (World.laidAll_os _ _ _)
      (World.shaped_of_ZipB (by kernel_rfl) (by kernel_rfl)) (by kernel_rfl) (by kernel_rfl) (by kernel_rfl)
      (by rw [MakeChecks.laidMetH_plain _ _ _ (by kernel_rfl)]; exact laidMet_laidAll _ (by kernel_rfl) (by kernel_rfl))) ?_
  intro W base args ds gs before hval0 hW _ _ hL _
  have hval : ∀ (j : Nat) t v, Tryd.f4.params[j]? = some t → args[j]? = some v → Value.okWide Tryd.prog W .any base t v := hval0
  have hW' := hW
  obtain ⟨p, q, hA0, hV, rfl, hfz, hnd⟩ := hW
  have hA : DataW.TrodAll enc Tryd.prog W 0 (fun _ => true) true Tryd.f4.params.toList args.toList ds p := hA0
  rw [Tryd.params4] at hA hval
  obtain ⟨v0, d0, rfl, rfl, h0⟩ := trodAll_one hA
  obtain ⟨rfl, rfl⟩ := trodVars_none hV
  obtain ⟨a, b, c, d, ps, ns, rfl, hp, hn, hs, hs'⟩ := topo_opened (hval 0 35 v0 rfl rfl) h0
  clear hA0 hval0
  simp only [List.append_nil] at hW'
  have hM := hL
  rw [MakeChecks.laidMetH_plain _ _ _ (by kernel_rfl)] at hM
  refine (walk a b c d ps ns hp hn W hs hs' (tab_head hM.tail.tail)).mono fun e W' ⟨he, hg⟩ => ?_
  subst he
  have hlt : ∀ x ∈ p, x.block < W.heap.size := fun x hx => by simpa using hW'.lt x hx
  have harg := Below.trod laidOutAll (by kernel_rfl) (of_decide_eq_true (by kernel_rfl)) h0 hg hlt
  exact ⟨_, rfl, _, _, _, [], _, [], hW', trodAll_mk1 (shut_bool Tryd.underlying4 _), trodAll_mk1 harg, rfl, hg.frame _, fun h => by cases h⟩
end LawTopoText

theorem fnExactTopoText_row : Rows.FnExactTopoTextSaid :=
  OpenClaim.holds_of_wide 4 Tryd.f4 rfl rfl rfl rfl rfl rfl rfl ⟨rfl, rfl, rfl, rfl, rfl⟩ rfl rfl rfl rfl rfl (by kernel_rfl) Tryd.func4 (by kernel_rfl)
    (of_decide_eq_true (by kernel_rfl)) (by unfold Func.isWrapper; rw [if_neg (of_decide_eq_false (by kernel_rfl))]; exact ⟨rfl, rfl⟩)
    (fun os started H enc _ => LawTopoText.lifted os started H enc)

/-- For every topology: the law returns true; what it lists is tied to the program's text. -/
theorem fnExactTopoText_holds : Rows.FnExactTopoTextCardSaid :=
  Claim7.holds_tied_plain_at .later [] _ true _ _
    fnExactTopoText_row (fun _ h => by cases h) (by kernel_rfl) (fun _ h => by cases h) fnExactTopoText_row_tie rfl ⟨rfl, rfl⟩ (by kernel_rfl) rfl
    (fun f fn hf hfn => by
      obtain rfl : f = 4 := Option.some.inj ((show Tryd.prog.funcNamed Rows.fnExactTopoTextRow.func = some 4 by kernel_rfl).symm.trans hf) |>.symm
      obtain rfl : fn = Tryd.f4 := (Option.some.inj (Tryd.func4.symm.trans hfn)).symm
      exact ⟨by kernel_rfl, fun j t ht => by
        rw [Tryd.params4] at ht
        have hm : t ∈ [35] := by simpa using Array.mem_of_getElem? ht
        have hall : ([35].all fun u => !Tryd.prog.wantsStandIn u) = true := by kernel_rfl
        exact (show Tryd.prog.wantsStandIn t = false by simpa using List.all_eq_true.1 hall t hm)⟩)
    (by kernel_rfl)
#print axioms fnExactTopoText_holds
end Go.Proofs.YtljclchjdckgpaaDoor
