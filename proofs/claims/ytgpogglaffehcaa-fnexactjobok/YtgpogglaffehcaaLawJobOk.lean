/- FnExactJobOk: for every job the program's JobOk answers as the specification's; no condition. -/
import Derived.Test.YtgpogglaffehcaaJbA
import Derived.Test.YtgpogglaffehcaaJbP
import Derived.ProofKit
import Derived.OpenShut
import Derived.Carry
namespace Go.Proofs.Ytgpogglaffehcaa
namespace LawJobOk
open Go.ChangeShapes Go.WideShapes Go.ChangeAt Go.RowKit Go.Joins

theorem ownJ : ownKnob Try.prog.godebug = none := by kernel_rfl
theorem laidOutJ : laidOutB Try.prog = true := by kernel_rfl
set_option maxHeartbeats 4000000 in
theorem walk (j : Jb) (w : World) :
    Calls Try.prog 8 #[.agg #[.int .i64 j.id, .int .i64 j.pr, .int .i64 j.nd, .int .i64 j.na, .int .i64 j.nb, .int .i64 j.nc, .int .i64 j.la, .int .i64 j.lb, .int .i64 j.lc, .int .i64 j.wl, .int .i64 j.lv]] w fun e w' => e = .returned (.bool true) ∧ Below w.heap.size w w' := by
  go_enter Try.func8, Try.ntmps8
  go_wp2_with fail
  generalize hV : w.alloc (.cells #[.int .i64 j.id, .int .i64 j.pr, .int .i64 j.nd, .int .i64 j.na, .int .i64 j.nb, .int .i64 j.nc, .int .i64 j.la, .int .i64 j.lb, .int .i64 j.lc, .int .i64 j.wl, .int .i64 j.lv] 59) = V
  have HA : Hid (Row V w.heap.size [.int .i64 j.id, .int .i64 j.pr, .int .i64 j.nd, .int .i64 j.na, .int .i64 j.nb, .int .i64 j.nc, .int .i64 j.la, .int .i64 j.lb, .int .i64 j.lc, .int .i64 j.wl, .int .i64 j.lv]) := by subst hV; exact row_fresh w [.int .i64 j.id, .int .i64 j.pr, .int .i64 j.nd, .int .i64 j.na, .int .i64 j.nb, .int .i64 j.nc, .int .i64 j.la, .int .i64 j.lb, .int .i64 j.lc, .int .i64 j.wl, .int .i64 j.lv] 59
  have HV : Hid (Below w.heap.size w V) := by subst hV; exact low_alloc _ _
  clear hV
  refine (toJob_c j _).mono ?_
  rintro e w1 ⟨rfl, hb⟩
  have HB1 : Hid (Below V.heap.size V w1) := hb
  clear hb
  go_wp2_with fail
  refine (specJobOk_c j _).mono ?_
  rintro e w2 ⟨rfl, hb⟩
  have HB2 : Hid (Below V.heap.size V w2) := below_then HB1.out hb
  clear hb HB1
  have c0 := (HA.out.below HB2.out).cell 0 _ rfl
  have c1 := (HA.out.below HB2.out).cell 1 _ rfl
  have c2 := (HA.out.below HB2.out).cell 2 _ rfl
  have c3 := (HA.out.below HB2.out).cell 3 _ rfl
  have c4 := (HA.out.below HB2.out).cell 4 _ rfl
  have c5 := (HA.out.below HB2.out).cell 5 _ rfl
  have c6 := (HA.out.below HB2.out).cell 6 _ rfl
  have c7 := (HA.out.below HB2.out).cell 7 _ rfl
  have c8 := (HA.out.below HB2.out).cell 8 _ rfl
  have c9 := (HA.out.below HB2.out).cell 9 _ rfl
  have c10 := (HA.out.below HB2.out).cell 10 _ rfl
  go_wp2_with fail
  clear c0 c1 c2 c3 c4 c5 c6 c7 c8 c9 c10
  refine (toJob_c j _).mono ?_
  rintro e w3 ⟨rfl, hb⟩
  have HB3 : Hid (Below V.heap.size V w3) := below_then HB2.out hb
  clear hb HB2
  go_wp2_with fail
  refine (implJobOk_c j _).mono ?_
  rintro e w4 ⟨rfl, hb⟩
  have HB4 : Hid (Below V.heap.size V w4) := below_then HB3.out hb
  clear hb HB3
  generalize jobB j = k
  cases k
  all_goals
    go_wp2_with fail
    go_ret
    exact ⟨rfl, below_then HV.out HB4.out⟩

set_option maxRecDepth 100000 in
theorem lifted (os : Os) (started : os.Started) (H : Type) (enc : TypeId × Value → H) :
    ReturnsInHanded {} Try.checked os 8 .any (Rows.fnExactJobOkSpec.pre6 enc Try.prog Try.f8 Rows.fnExactJobOkRow.domain false) (Rows.fnExactJobOkSpec.post enc Try.prog Try.f8 false true false false) := by
  refine returnsInHanded_of_change (C := Try.checked) ownJ started (by kernel_rfl) Try.func8
    (ChangeSpec.witness6 (enc := enc) (C := Try.checked) false ⟨#[], #[.agg #[.int .i64 0, .int .i64 0, .int .i64 0, .int .i64 0, .int .i64 0, .int .i64 0, .int .i64 0, .int .i64 0, .int .i64 0, .int .i64 0, .int .i64 0]], []⟩ 8 (by kernel_rfl) (by kernel_rfl) (by kernel_rfl) (by kernel_rfl)) ?_
  intro W base args ds gs before hval0 hW _ _
  have hval : ∀ (j : Nat) t v, Try.f8.params[j]? = some t → args[j]? = some v → Value.okWide Try.prog W .any base t v := hval0
  have hW' := hW
  obtain ⟨p, q, hA0, hV, rfl, _, _⟩ := hW
  have hA : DataW.TrodAll enc Try.prog W 0 (fun _ => true) true Try.f8.params.toList args.toList ds p := hA0
  rw [Try.params8] at hA hval
  obtain ⟨v0, d0, rfl, rfl, h0⟩ := trodAll_one hA
  obtain ⟨rfl, rfl⟩ := trodVars_none hV
  obtain ⟨j, rfl⟩ := job_opened (hval 0 59 v0 rfl rfl) h0
  clear hA0 hval0
  simp only [List.append_nil] at hW'
  refine (walk j W).mono fun e W' ⟨he, hg⟩ => ?_
  subst he
  have hlt : ∀ x ∈ p, x.block < W.heap.size := fun x hx => by simpa using hW'.lt x hx
  have harg := Below.trod laidOutJ (by kernel_rfl) (of_decide_eq_true (by kernel_rfl)) h0 hg hlt
  exact ⟨_, rfl, _, _, _, [], _, [], hW', trodAll_mk1 (shut_bool Try.underlying4 _), trodAll_mk1 harg, rfl, hg.frame _, fun h => by cases h⟩
end LawJobOk

/-- For every job: the law returns true, and it reads as it did. -/
theorem fnExactJobOk_holds : Rows.FnExactJobOkSaid :=
  OpenClaim.holds_of_wide 8 Try.f8 rfl rfl rfl rfl rfl rfl rfl ⟨rfl, rfl, rfl, rfl, rfl⟩ rfl rfl rfl rfl rfl (by kernel_rfl) Try.func8 (by kernel_rfl)
    (of_decide_eq_true (by kernel_rfl)) (by unfold Func.isWrapper; rw [if_neg (of_decide_eq_false (by kernel_rfl))]; exact ⟨rfl, rfl⟩)
    (fun os started H enc _ => LawJobOk.lifted os started H enc)
#print axioms fnExactJobOk_holds
end Go.Proofs.Ytgpogglaffehcaa
