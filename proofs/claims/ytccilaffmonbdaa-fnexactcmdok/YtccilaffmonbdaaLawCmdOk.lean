/- FnExactCmdOk: for every command the program's CmdOk answers as the specification's; no condition. -/
import Derived.Test.YtccilaffmonbdaaCmD
import Derived.Test.YtccilaffmonbdaaCmP
import Derived.ProofKit
import Derived.OpenShut
import Derived.Carry
namespace Go.Proofs.Ytccilaffmonbdaa
namespace LawCmdOk
open Go.ChangeShapes Go.WideShapes Go.ChangeAt Go.RowKit Go.Joins

theorem ownJ : ownKnob Try.prog.godebug = none := by kernel_rfl
theorem laidOutJ : laidOutB Try.prog = true := by kernel_rfl
set_option maxHeartbeats 4000000 in
theorem walk (s : Int) (j : Jb) (n a b c : Int) (w : World) :
    Calls Try.prog 3 #[.agg #[.int .i64 s, .int .i64 j.id, .int .i64 j.pr, .int .i64 j.nd, .int .i64 j.na, .int .i64 j.nb, .int .i64 j.nc, .int .i64 j.la, .int .i64 j.lb, .int .i64 j.lc, .int .i64 j.wl, .int .i64 j.lv, .int .i64 n, .int .i64 a, .int .i64 b, .int .i64 c]] w fun e w' => e = .returned (.bool true) ∧ Below w.heap.size w w' := by
  go_enter Try.func3, Try.ntmps3
  go_wp2_with fail
  generalize hV : w.alloc (.cells #[.int .i64 s, .int .i64 j.id, .int .i64 j.pr, .int .i64 j.nd, .int .i64 j.na, .int .i64 j.nb, .int .i64 j.nc, .int .i64 j.la, .int .i64 j.lb, .int .i64 j.lc, .int .i64 j.wl, .int .i64 j.lv, .int .i64 n, .int .i64 a, .int .i64 b, .int .i64 c] 27) = V
  have HA : Hid (Row V w.heap.size [.int .i64 s, .int .i64 j.id, .int .i64 j.pr, .int .i64 j.nd, .int .i64 j.na, .int .i64 j.nb, .int .i64 j.nc, .int .i64 j.la, .int .i64 j.lb, .int .i64 j.lc, .int .i64 j.wl, .int .i64 j.lv, .int .i64 n, .int .i64 a, .int .i64 b, .int .i64 c]) := by subst hV; exact row_fresh w [.int .i64 s, .int .i64 j.id, .int .i64 j.pr, .int .i64 j.nd, .int .i64 j.na, .int .i64 j.nb, .int .i64 j.nc, .int .i64 j.la, .int .i64 j.lb, .int .i64 j.lc, .int .i64 j.wl, .int .i64 j.lv, .int .i64 n, .int .i64 a, .int .i64 b, .int .i64 c] 27
  have HV : Hid (Below w.heap.size w V) := by subst hV; exact low_alloc _ _
  clear hV
  refine (toCmd_c s j n a b c _).mono ?_
  rintro e w1 ⟨rfl, hb⟩
  have HB1 : Hid (Below V.heap.size V w1) := hb
  clear hb
  go_wp2_with fail
  refine (specCmdOk_c s j n a b c _).mono ?_
  rintro e w2 ⟨rfl, hb⟩
  have HB2 : Hid (Below V.heap.size V w2) := below_then HB1.out hb
  clear hb HB1
  have c0 := (HA.out.below HB2.out).cell 0 _ rfl
  have c1 := (HA.out.below HB2.out).cell 1 _ rfl
  have c2 := (HA.out.below HB2.out).cell 2 _ rfl
  have c3 := (HA.out.below HB2.out).cell 3 _ rfl
  have c4 := (HA.out.below HB2.out).cell 4 _ rfl
  have c5 := (HA.out.below HB2.out).cell 5 _ rfl
  have c6 := (HA.out.below HB2.out).cell 6 _ rfl
  have c7 := (HA.out.below HB2.out).cell 7 _ rfl
  have c8 := (HA.out.below HB2.out).cell 8 _ rfl
  have c9 := (HA.out.below HB2.out).cell 9 _ rfl
  have c10 := (HA.out.below HB2.out).cell 10 _ rfl
  have c11 := (HA.out.below HB2.out).cell 11 _ rfl
  have c12 := (HA.out.below HB2.out).cell 12 _ rfl
  have c13 := (HA.out.below HB2.out).cell 13 _ rfl
  have c14 := (HA.out.below HB2.out).cell 14 _ rfl
  have c15 := (HA.out.below HB2.out).cell 15 _ rfl
  go_wp2_with fail
  clear c0 c1 c2 c3 c4 c5 c6 c7 c8 c9 c10 c11 c12 c13 c14 c15
  refine (toCmd_c s j n a b c _).mono ?_
  rintro e w3 ⟨rfl, hb⟩
  have HB3 : Hid (Below V.heap.size V w3) := below_then HB2.out hb
  clear hb HB2
  go_wp2_with fail
  refine (implCmdOk_c s j n a b c _).mono ?_
  rintro e w4 ⟨rfl, hb⟩
  have HB4 : Hid (Below V.heap.size V w4) := below_then HB3.out hb
  clear hb HB3
  generalize cmdB s j n a b c = k
  cases k
  all_goals
    go_wp2_with fail
    go_ret
    exact ⟨rfl, below_then HV.out HB4.out⟩

set_option maxRecDepth 100000 in
theorem lifted (os : Os) (started : os.Started) (H : Type) (enc : TypeId × Value → H) :
    ReturnsInHanded {} Try.checked os 3 .any (Rows.fnExactCmdOkSpec.pre6 enc Try.prog Try.f3 Rows.fnExactCmdOkRow.domain false) (Rows.fnExactCmdOkSpec.post enc Try.prog Try.f3 false true false false) := by
  refine returnsInHanded_of_change (C := Try.checked) ownJ started (by kernel_rfl) Try.func3
    (ChangeSpec.witness6 (enc := enc) (C := Try.checked) false ⟨#[], #[.agg #[.int .i64 0, .int .i64 0, .int .i64 0, .int .i64 0, .int .i64 0, .int .i64 0, .int .i64 0, .int .i64 0, .int .i64 0, .int .i64 0, .int .i64 0, .int .i64 0, .int .i64 0, .int .i64 0, .int .i64 0, .int .i64 0]], []⟩ 8 (by kernel_rfl) (by kernel_rfl) (by kernel_rfl) (by kernel_rfl)) ?_
  intro W base args ds gs before hval0 hW _ _
  have hval : ∀ (j : Nat) t v, Try.f3.params[j]? = some t → args[j]? = some v → Value.okWide Try.prog W .any base t v := hval0
  have hW' := hW
  obtain ⟨p, q, hA0, hV, rfl, _, _⟩ := hW
  have hA : DataW.TrodAll enc Try.prog W 0 (fun _ => true) true Try.f3.params.toList args.toList ds p := hA0
  rw [Try.params3] at hA hval
  obtain ⟨v0, d0, rfl, rfl, h0⟩ := trodAll_one hA
  obtain ⟨rfl, rfl⟩ := trodVars_none hV
  obtain ⟨s, j, n, a, b, c, rfl⟩ := cmd_opened (hval 0 27 v0 rfl rfl) h0
  clear hA0 hval0
  simp only [List.append_nil] at hW'
  refine (walk s j n a b c W).mono fun e W' ⟨he, hg⟩ => ?_
  subst he
  have hlt : ∀ x ∈ p, x.block < W.heap.size := fun x hx => by simpa using hW'.lt x hx
  have harg := Below.trod laidOutJ (by kernel_rfl) (of_decide_eq_true (by kernel_rfl)) h0 hg hlt
  exact ⟨_, rfl, _, _, _, [], _, [], hW', trodAll_mk1 (shut_bool Try.underlying4 _), trodAll_mk1 harg, rfl, hg.frame _, fun h => by cases h⟩
end LawCmdOk

/-- For every command: the law returns true, and it reads as it did. -/
theorem fnExactCmdOk_holds : Rows.FnExactCmdOkSaid :=
  OpenClaim.holds_of_wide 3 Try.f3 rfl rfl rfl rfl rfl rfl rfl ⟨rfl, rfl, rfl, rfl, rfl⟩ rfl rfl rfl rfl rfl (by kernel_rfl) Try.func3 (by kernel_rfl)
    (of_decide_eq_true (by kernel_rfl)) (by unfold Func.isWrapper; rw [if_neg (of_decide_eq_false (by kernel_rfl))]; exact ⟨rfl, rfl⟩)
    (fun os started H enc _ => LawCmdOk.lifted os started H enc)
#print axioms fnExactCmdOk_holds
end Go.Proofs.Ytccilaffmonbdaa
