/- FnExactCmdText: for every command the program's CmdText answers as the specification's; the listed variables of the library lie as its text lays them. -/
import Derived.Test.YtccilaffmonbdaaDoorCmY
import Derived.Test.YtccilaffmonbdaaDoorCmP
import Derived.Test.YtccilaffmonbdaaDoorCmL
import Derived.OpenVars
import Derived.Test.YtccilaffmonbdaaDoorLaidT
import Derived.Test.YtccilaffmonbdaaDoorLawP
import Derived.Test.YtccilaffmonbdaaDoorCards
import Derived.Test.YtccilaffmonbdaaDoorTie
import Derived.SevenTiedAt
import Derived.Stop.Joined
import Derived.Stop.LaidErr
import Derived.Lay
import Derived.ProofKit
import Derived.OpenShut
import Derived.Deep.RegionWith
import Derived.Deep.Light
namespace Go.Proofs.YtccilaffmonbdaaDoor
namespace LawCmdText
open Go.ChangeShapes Go.WideShapes Go.ChangeAt Go.RowKit Go.Joins

theorem szLC : (Tryd.prog.info? 52).map (·.size) = some 16 := by kernel_rfl
set_option maxHeartbeats 4000000 in
set_option maxRecDepth 100000 in
theorem walk (s : Int) (j : Jb) (n a b c : Int) (w : World) (ht : Tab w) (hk : KwT w) :
    Calls Tryd.prog 5 #[.agg #[.int .i64 s, .int .i64 j.id, .int .i64 j.pr, .int .i64 j.nd, .int .i64 j.na, .int .i64 j.nb, .int .i64 j.nc, .int .i64 j.la, .int .i64 j.lb, .int .i64 j.lc, .int .i64 j.wl, .int .i64 j.lv, .int .i64 n, .int .i64 a, .int .i64 b, .int .i64 c]] w fun e w' => e = .returned (.bool true) ∧ Below w.heap.size w w' := by
  have HT : Hid (Tab w) := ht
  have HK : Hid (KwT w) := hk
  clear ht hk
  go_enter Tryd.func5, Tryd.ntmps5
  go_wp2_with (refine stay_load 52 ?_)
  refine ⟨?_⟩
  have HA : Hid (Row (w.alloc (.cells #[.int .i64 s, .int .i64 j.id, .int .i64 j.pr, .int .i64 j.nd, .int .i64 j.na, .int .i64 j.nb, .int .i64 j.nc, .int .i64 j.la, .int .i64 j.lb, .int .i64 j.lc, .int .i64 j.wl, .int .i64 j.lv, .int .i64 n, .int .i64 a, .int .i64 b, .int .i64 c] 52)) w.heap.size [.int .i64 s, .int .i64 j.id, .int .i64 j.pr, .int .i64 j.nd, .int .i64 j.na, .int .i64 j.nb, .int .i64 j.nc, .int .i64 j.la, .int .i64 j.lb, .int .i64 j.lc, .int .i64 j.wl, .int .i64 j.lv, .int .i64 n, .int .i64 a, .int .i64 b, .int .i64 c]) := row_fresh w [.int .i64 s, .int .i64 j.id, .int .i64 j.pr, .int .i64 j.nd, .int .i64 j.na, .int .i64 j.nb, .int .i64 j.nc, .int .i64 j.la, .int .i64 j.lb, .int .i64 j.lc, .int .i64 j.wl, .int .i64 j.lv, .int .i64 n, .int .i64 a, .int .i64 b, .int .i64 c] 52
  have HB : Hid (Below w.heap.size w (w.alloc (.cells #[.int .i64 s, .int .i64 j.id, .int .i64 j.pr, .int .i64 j.nd, .int .i64 j.na, .int .i64 j.nb, .int .i64 j.nc, .int .i64 j.la, .int .i64 j.lb, .int .i64 j.lc, .int .i64 j.wl, .int .i64 j.lv, .int .i64 n, .int .i64 a, .int .i64 b, .int .i64 c] 52))) := low_alloc _ _
  generalize w.alloc (.cells #[.int .i64 s, .int .i64 j.id, .int .i64 j.pr, .int .i64 j.nd, .int .i64 j.na, .int .i64 j.nb, .int .i64 j.nc, .int .i64 j.la, .int .i64 j.lb, .int .i64 j.lc, .int .i64 j.wl, .int .i64 j.lv, .int .i64 n, .int .i64 a, .int .i64 b, .int .i64 c] 52) = V at HA HB ⊢
  refine wpList_load_mid rfl 52 _ rfl w.heap.size 0 rfl [.int .i64 s, .int .i64 j.id, .int .i64 j.pr, .int .i64 j.nd, .int .i64 j.na, .int .i64 j.nb, .int .i64 j.nc, .int .i64 j.la, .int .i64 j.lb, .int .i64 j.lc, .int .i64 j.wl, .int .i64 j.lv, .int .i64 n, .int .i64 a, .int .i64 b, .int .i64 c] _ HA.out.all Tryd.underlying52 rfl szLC ?_
  go_wp2_with fail
  refine (toCmd_c s j n a b c _).mono ?_
  rintro e w1 ⟨rfl, hb⟩
  have HA1 : Hid (Row w1 w.heap.size [.int .i64 s, .int .i64 j.id, .int .i64 j.pr, .int .i64 j.nd, .int .i64 j.na, .int .i64 j.nb, .int .i64 j.nc, .int .i64 j.la, .int .i64 j.lb, .int .i64 j.lc, .int .i64 j.wl, .int .i64 j.lv, .int .i64 n, .int .i64 a, .int .i64 b, .int .i64 c]) := HA.out.below hb
  have HB1 : Hid (Below w.heap.size w w1) := below_then HB.out hb
  clear hb HA HB
  go_wp2_with fail
  refine (specCmdText_c s j n a b c _).mono ?_
  rintro e w2 ⟨rfl, hb⟩
  have HA2 : Hid (Row w2 w.heap.size [.int .i64 s, .int .i64 j.id, .int .i64 j.pr, .int .i64 j.nd, .int .i64 j.na, .int .i64 j.nb, .int .i64 j.nc, .int .i64 j.la, .int .i64 j.lb, .int .i64 j.lc, .int .i64 j.wl, .int .i64 j.lv, .int .i64 n, .int .i64 a, .int .i64 b, .int .i64 c]) := HA1.out.below hb
  have HB2 : Hid (Below w.heap.size w w2) := below_then HB1.out hb
  clear hb HA1 HB1
  have HI : Hid (∀ W, Tab W → KwT W → Calls Tryd.prog 17 #[.agg #[.int .i64 s, .int .i64 j.id, .int .i64 j.pr, .int .i64 j.nd, .int .i64 j.na, .int .i64 j.nb, .int .i64 j.nc, .int .i64 j.la, .int .i64 j.lb, .int .i64 j.lc, .int .i64 j.wl, .int .i64 j.lv, .int .i64 n, .int .i64 a, .int .i64 b, .int .i64 c]] W fun e w' => e = .returned (.string ⟨(ctL s j n a b c).toArray⟩) ∧ Below W.heap.size W w') := fun W ht hk => implCmdText_c s j n a b c W ht hk
  generalize (⟨(ctL s j n a b c).toArray⟩ : ByteArray) = r at HI ⊢
  go_wp2_with (refine stay_load 52 ?_)
  refine ⟨?_⟩
  refine wpList_load_mid rfl 52 _ rfl w.heap.size 0 rfl [.int .i64 s, .int .i64 j.id, .int .i64 j.pr, .int .i64 j.nd, .int .i64 j.na, .int .i64 j.nb, .int .i64 j.nc, .int .i64 j.la, .int .i64 j.lb, .int .i64 j.lc, .int .i64 j.wl, .int .i64 j.lv, .int .i64 n, .int .i64 a, .int .i64 b, .int .i64 c] _ HA2.out.all Tryd.underlying52 rfl szLC ?_
  go_wp2_with fail
  refine (toCmd_c s j n a b c _).mono ?_
  rintro e w3 ⟨rfl, hb⟩
  have HB3 : Hid (Below w.heap.size w w3) := below_then HB2.out hb
  clear hb HA2 HB2
  go_wp2_with fail
  refine (HI.out _ (HT.out.on HB3.out) (HK.out.on HB3.out)).mono ?_
  rintro e w4 ⟨rfl, hb⟩
  have HB4 : Hid (Below w.heap.size w w4) := below_then HB3.out hb
  clear hb HB3 HI
  go_wp2_with fail
  go_ret
  exact ⟨rfl, HB4.out⟩

set_option maxRecDepth 100000 in
theorem lifted (os : Os) (started : os.Started) (H : Type) (enc : TypeId × Value → H) :
    ReturnsInHanded {} Tryd.checked os 5 .any (fun w args => (Rows.fnExactCmdTextSpec.pre enc Tryd.prog Tryd.f5 [] false w args ∧ laidMetH Tryd.prog Rows.fnExactCmdTextRow.laid w) ∧ sizedMet enc Tryd.prog Tryd.f5 (OpenSpec.ofChange Rows.fnExactCmdTextSpec) false w args)
      (Rows.fnExactCmdTextSpec.post enc Tryd.prog Tryd.f5 false true false false) := by
  refine returnsInHanded_of_change_and (C := Tryd.checked) (X := fun w _ => laidMetH Tryd.prog Rows.fnExactCmdTextRow.laid w) (fun _ _ _ hh h => h.of_heap hh) own started (by kernel_rfl) Tryd.func5
    (ChangeSpec.witness_shaped (enc := enc) (C := Tryd.checked) (os := os) (X := fun w _ => laidMetH Tryd.prog Rows.fnExactCmdTextRow.laid w) false (World.laidAll Tryd.prog os Rows.fnExactCmdTextRow.laid) #[.agg #[.int .i64 0, .int .i64 0, .int .i64 0, .int .i64 0, .int .i64 0, .int .i64 0, .int .i64 0, .int .i64 0, .int .i64 0, .int .i64 0, .int .i64 0, .int .i64 0, .int .i64 0, .int .i64 0, .int .i64 0, .int .i64 0]] 8 (World.laidAll_os _ _ _)
      (World.shaped_of_ZipB (by kernel_rfl) (by kernel_rfl)) (by kernel_rfl) (by kernel_rfl) (by kernel_rfl)
      (by rw [MakeChecks.laidMetH_plain _ _ _ (by kernel_rfl)]; exact laidMet_laidAll _ (by kernel_rfl) (by kernel_rfl))) ?_
  intro W base args ds gs before hval0 hW _ _ hL _
  have hval : ∀ (j : Nat) t v, Tryd.f5.params[j]? = some t → args[j]? = some v → Value.okWide Tryd.prog W .any base t v := hval0
  have hW' := hW
  obtain ⟨p, q, hA0, hV, rfl, hfz, hnd⟩ := hW
  have hA : DataW.TrodAll enc Tryd.prog W 0 (fun _ => true) true Tryd.f5.params.toList args.toList ds p := hA0
  rw [Tryd.params5] at hA hval
  obtain ⟨v0, d0, rfl, rfl, h0⟩ := trodAll_one hA
  have hV0 := hV
  obtain ⟨g1, t1, cs1, fuel1, d1, p1, rfl, _, _, _, _, _⟩ := trodVars_one hV
  obtain ⟨s, j, n, a, b, c, rfl⟩ := cmd_opened (hval 0 52 v0 rfl rfl) h0
  clear hA0 hval0
  have hM := hL
  rw [MakeChecks.laidMetH_plain _ _ _ (by kernel_rfl)] at hM
  refine (walk s j n a b c W (tab_head hM.tail.tail) (kw_head hM.tail.tail.tail)).mono fun e W' ⟨he, hg⟩ => ?_
  subst he
  have hlt : ∀ x ∈ p, x.block < W.heap.size := fun x hx => by simpa using hW'.lt x (List.mem_append_left _ hx)
  have harg := Below.trod laidOutAll (by kernel_rfl) (of_decide_eq_true (by kernel_rfl)) h0 hg hlt
  have hvars := Below.trodVars laidOutAll hg (by kernel_rfl) hV0
  exact ⟨_, rfl, _, _, _, [], _, _, hW', trodAll_mk1 (shut_bool Tryd.underlying4 _), trodAll_mk1 harg, hvars, hg.frame _, fun h => by cases h⟩
end LawCmdText

theorem fnExactCmdText_row : Rows.FnExactCmdTextSaid :=
  OpenClaim.holds_of_wide 5 Tryd.f5 rfl rfl rfl rfl rfl rfl rfl ⟨rfl, rfl, rfl, rfl, rfl⟩ rfl rfl rfl rfl rfl (by kernel_rfl) Tryd.func5 (by kernel_rfl)
    (of_decide_eq_true (by kernel_rfl)) (by unfold Func.isWrapper; rw [if_neg (of_decide_eq_false (by kernel_rfl))]; exact ⟨rfl, rfl⟩)
    (fun os started H enc _ => LawCmdText.lifted os started H enc)

/-- For every command: the law returns true; what it lists is tied to the program's text. -/
theorem fnExactCmdText_holds : Rows.FnExactCmdTextCardSaid :=
  Claim7.holds_tied_plain_at .later [] _ true _ _
    fnExactCmdText_row (fun _ h => by cases h) (by kernel_rfl) (fun _ h => by cases h) fnExactCmdText_row_tie rfl ⟨rfl, rfl⟩ (by kernel_rfl) rfl
    (fun f fn hf hfn => by
      obtain rfl : f = 5 := Option.some.inj ((show Tryd.prog.funcNamed Rows.fnExactCmdTextRow.func = some 5 by kernel_rfl).symm.trans hf) |>.symm
      obtain rfl : fn = Tryd.f5 := (Option.some.inj (Tryd.func5.symm.trans hfn)).symm
      exact ⟨by kernel_rfl, fun j t ht => by
        rw [Tryd.params5] at ht
        have hm : t ∈ [52] := by simpa using Array.mem_of_getElem? ht
        have hall : ([52].all fun u => !Tryd.prog.wantsStandIn u) = true := by kernel_rfl
        exact (show Tryd.prog.wantsStandIn t = false by simpa using List.all_eq_true.1 hall t hm)⟩)
    (by kernel_rfl)
#print axioms fnExactCmdText_holds
end Go.Proofs.YtccilaffmonbdaaDoor
