/- FnExactDueFirst: for all dues the program's DueFirst answers as the specification's; no condition. -/
import Derived.Test.YtdmmjggkdkmeaaaHqA
import Derived.Test.YtdmmjggkdkmeaaaDuP
import Derived.Test.YtdmmjggkdkmeaaaRows
import Derived.Test.YtdmmjggkdkmeaaaChecked
import Derived.ProofKit
import Derived.OpenShut
import Derived.Carry
namespace Go.Proofs.Ytdmmjggkdkmeaaa
namespace LawDueFirst
open Go.ChangeShapes Go.WideShapes Go.ChangeAt Go.RowKit Go.Joins

theorem ownJ : ownKnob Try.prog.godebug = none := by kernel_rfl
theorem laidOutJ : laidOutB Try.prog = true := by kernel_rfl
set_option maxHeartbeats 4000000 in
set_option maxRecDepth 100000 in
theorem walk (a b : Du) (w : World) :
    Calls Try.prog 4 #[.agg #[.int .i64 a.t, .int .i64 a.n], .agg #[.int .i64 b.t, .int .i64 b.n]] w fun e w' => e = .returned (.bool true) ∧ Below w.heap.size w w' := by
  go_enter Try.func4, Try.ntmps4
  go_wp2_with fail
  have HA : Hid (Row ((w.alloc (.cells #[.int .i64 a.t, .int .i64 a.n] 33)).alloc (.cells #[.int .i64 b.t, .int .i64 b.n] 33)) w.heap.size [.int .i64 a.t, .int .i64 a.n]) := (row_fresh w [.int .i64 a.t, .int .i64 a.n] 33).below (low_alloc _ _)
  have HC : Hid (Row ((w.alloc (.cells #[.int .i64 a.t, .int .i64 a.n] 33)).alloc (.cells #[.int .i64 b.t, .int .i64 b.n] 33)) (w.heap.size + 1) [.int .i64 b.t, .int .i64 b.n]) := by
    have h := row_fresh (w.alloc (.cells #[.int .i64 a.t, .int .i64 a.n] 33)) [.int .i64 b.t, .int .i64 b.n] 33
    rwa [show (w.alloc (.cells #[.int .i64 a.t, .int .i64 a.n] 33)).heap.size = w.heap.size + 1 by simp [go_sem]] at h
  have HB : Hid (Below w.heap.size w ((w.alloc (.cells #[.int .i64 a.t, .int .i64 a.n] 33)).alloc (.cells #[.int .i64 b.t, .int .i64 b.n] 33))) := behind_alloc (low_alloc _ _) _
  generalize (w.alloc (.cells #[.int .i64 a.t, .int .i64 a.n] 33)).alloc (.cells #[.int .i64 b.t, .int .i64 b.n] 33) = V at HA HC HB ⊢
  have hsome := beh_some V
  have a0 := Beh.row HA.out 0 _ rfl
  have a1 := Beh.row HA.out 1 _ rfl
  have b0 := Beh.row HC.out 0 _ rfl
  have b1 := Beh.row HC.out 1 _ rfl
  have TA : Hid (∀ W : World, Calls Try.prog 17 #[.agg #[.int .i64 a.t, .int .i64 a.n]] W fun e w' => e = .returned (.agg #[.int .i64 a.t, .int .i64 a.n]) ∧ Below W.heap.size W w') := fun W => toDue_c a W
  have TB : Hid (∀ W : World, Calls Try.prog 17 #[.agg #[.int .i64 b.t, .int .i64 b.n]] W fun e w' => e = .returned (.agg #[.int .i64 b.t, .int .i64 b.n]) ∧ Below W.heap.size W w') := fun W => toDue_c b W
  have SF : Hid (∀ W : World, Calls Try.prog 16 #[.agg #[.int .i64 a.t, .int .i64 a.n], .agg #[.int .i64 b.t, .int .i64 b.n]] W fun e w' => e = .returned (.bool (duL a b)) ∧ Below W.heap.size W w') := fun W => specDueFirst_c a b W
  have IF : Hid (∀ W : World, Calls Try.prog 14 #[.agg #[.int .i64 a.t, .int .i64 a.n], .agg #[.int .i64 b.t, .int .i64 b.n]] W fun e w' => e = .returned (.bool (duL a b)) ∧ Below W.heap.size W w') := fun W => implDueFirst_c a b W
  generalize duL a b = k at SF IF
  refine wp_region_beh (by kernel_rfl) (by kernel_rfl) ?_
  repeat (go_big_quiet_step (first | (go_at_call 17; with_reducible exact calls_beh (TA.out _)) | (go_at_call 17; with_reducible exact calls_beh (TB.out _)) | (go_at_call 16; with_reducible exact calls_beh (SF.out _))))
  refine wpQuiet_nil ?_
  rintro ⟨w2, hb2⟩
  have HB2 : Hid (Below w.heap.size w w2) := below_then HB.out hb2
  have HA2 : Hid (Row w2 w.heap.size [.int .i64 a.t, .int .i64 a.n]) := HA.out.below hb2
  have HC2 : Hid (Row w2 (w.heap.size + 1) [.int .i64 b.t, .int .i64 b.n]) := HC.out.below hb2
  clear a0 a1 b0 b1 hsome
  have hsome := beh_some w2
  have a0 := Beh.row HA2.out 0 _ rfl
  have a1 := Beh.row HA2.out 1 _ rfl
  have b0 := Beh.row HC2.out 0 _ rfl
  have b1 := Beh.row HC2.out 1 _ rfl
  go_wp2_with fail
  refine wp_region_beh (by kernel_rfl) (by kernel_rfl) ?_
  repeat (go_big_quiet_step (first | (go_at_call 17; with_reducible exact calls_beh (TA.out _)) | (go_at_call 17; with_reducible exact calls_beh (TB.out _)) | (go_at_call 14; with_reducible exact calls_beh (IF.out _))))
  refine wpQuiet_nil ?_
  rintro ⟨w3, hb3⟩
  have HB3 : Hid (Below w.heap.size w w3) := below_then HB2.out hb3
  go_wp2_with fail
  go_ret
  exact ⟨rfl, HB3.out⟩

set_option maxRecDepth 100000 in
theorem lifted (os : Os) (started : os.Started) (H : Type) (enc : TypeId × Value → H) :
    ReturnsInHanded {} Try.checked os 4 .any (Rows.fnExactDueFirstSpec.pre6 enc Try.prog Try.f4 Rows.fnExactDueFirstRow.domain false) (Rows.fnExactDueFirstSpec.post enc Try.prog Try.f4 false true false false) := by
  refine returnsInHanded_of_change (C := Try.checked) ownJ started (by kernel_rfl) Try.func4
    (ChangeSpec.witness6 (enc := enc) (C := Try.checked) false ⟨#[], #[.agg #[.int .i64 0, .int .i64 0], .agg #[.int .i64 0, .int .i64 0]], []⟩ 8 (by kernel_rfl) (by kernel_rfl) (by kernel_rfl) (by kernel_rfl)) ?_
  intro W base args ds gs before hval0 hW _ _
  have hval : ∀ (j : Nat) t v, Try.f4.params[j]? = some t → args[j]? = some v → Value.okWide Try.prog W .any base t v := hval0
  have hW' := hW
  obtain ⟨p, q, hA0, hV, rfl, _, _⟩ := hW
  have hA : DataW.TrodAll enc Try.prog W 0 (fun _ => true) true Try.f4.params.toList args.toList ds p := hA0
  rw [Try.params4] at hA hval
  obtain ⟨v0, v1, d0, d1, p0, p1, rfl, rfl, rfl, h0, h1⟩ := trodAll_two hA
  obtain ⟨rfl, rfl⟩ := trodVars_none hV
  obtain ⟨a, rfl⟩ := due_opened (hval 0 33 v0 rfl rfl) h0
  obtain ⟨b, rfl⟩ := due_opened (hval 1 33 v1 rfl rfl) h1
  clear hA0 hval0
  simp only [List.append_nil] at hW'
  refine (walk a b W).mono fun e W' ⟨he, hg⟩ => ?_
  subst he
  have hlt : ∀ x ∈ p0 ++ p1, x.block < W.heap.size := fun x hx => by simpa using hW'.lt x hx
  have harg := Below.trod laidOutJ (by kernel_rfl) (of_decide_eq_true (by kernel_rfl)) h0 hg (fun x hx => hlt x (List.mem_append_left _ hx))
  have harg1 := Below.trod laidOutJ (by kernel_rfl) (of_decide_eq_true (by kernel_rfl)) h1 hg (fun x hx => hlt x (List.mem_append_right _ hx))
  exact ⟨_, rfl, _, _, _, [], _, [], hW', trodAll_mk1 (shut_bool Try.underlying4 _), trodAll_mk2 harg harg1, rfl, hg.frame _, fun h => by cases h⟩
end LawDueFirst

/-- For every job: the law returns true, and it reads as it did. -/
theorem fnExactDueFirst_holds : Rows.FnExactDueFirstSaid :=
  OpenClaim.holds_of_wide 4 Try.f4 rfl rfl rfl rfl rfl rfl rfl ⟨rfl, rfl, rfl, rfl, rfl⟩ rfl rfl rfl rfl rfl (by kernel_rfl) Try.func4 (by kernel_rfl)
    (of_decide_eq_true (by kernel_rfl)) (by unfold Func.isWrapper; rw [if_neg (of_decide_eq_false (by kernel_rfl))]; exact ⟨rfl, rfl⟩)
    (fun os started H enc _ => LawDueFirst.lifted os started H enc)
#print axioms fnExactDueFirst_holds
end Go.Proofs.Ytdmmjggkdkmeaaa
