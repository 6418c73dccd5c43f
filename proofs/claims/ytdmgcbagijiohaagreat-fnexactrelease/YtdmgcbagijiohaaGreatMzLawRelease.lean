/- FnExactRelease: for every room, job, times and nodes the program's Release answers as the specification's, and its answer owns its memory; no condition. -/
import Derived.Test.YtdmgcbagijiohaaGreatMzWkRelease
import Derived.Test.YtdmgcbagijiohaaGreatMgRm
import Derived.Test.YtdmgcbagijiohaaGreatMgRq
import Derived.Test.YtdmgcbagijiohaaGreatMzSpL
import Derived.Test.YtdmgcbagijiohaaGreatMzSpC
import Derived.Test.YtdmgcbagijiohaaGreatMgRd
import Derived.Test.YtdmgcbagijiohaaGreatMgRl
import Derived.Test.YtdmgcbagijiohaaGreatMzJbP
import Derived.Test.YtdmgcbagijiohaaGreatMgRn
import Derived.Test.YtdmgcbagijiohaaGreatMzJfP
import Derived.ProofKit
import Derived.OpenShut
import Derived.Deep.DeepCutAuto
import Derived.Deep.RegionWith
namespace Go.Proofs.YtdmgcbagijiohaaGreat
namespace LawRelease
open Go.ChangeShapes Go.WideShapes Go.ChangeAt Go.RowKit Go.Joins


set_option maxRecDepth 100000 in
theorem lifted (os : Os) (started : os.Started) (H : Type) (enc : TypeId × Value → H) :
    ReturnsInHanded {} Tryz.checked os 5 .any (Rows.fnExactReleaseSpec.pre6 enc Tryz.prog Tryz.f5 Rows.fnExactReleaseRow.domain false) (Rows.fnExactReleaseSpec.post enc Tryz.prog Tryz.f5 false true false false) := by
  refine returnsInHanded_of_change (C := Tryz.checked) own started (by kernel_rfl) Tryz.func5
    (ChangeSpec.witness6 (enc := enc) (C := Tryz.checked) false ⟨#[], #[.agg #[.slice none 0 0, .slice none 0 0, .slice none 0 0, .slice none 0 0, .slice none 0 0], .agg #[.int .i64 0, .int .i64 0, .int .i64 0, .int .i64 0, .int .i64 0, .int .i64 0, .int .i64 0, .int .i64 0, .int .i64 0, .int .i64 0, .int .i64 0], .int .i64 0, .int .i64 0, .slice none 0 0], []⟩ 8 (by kernel_rfl) (by kernel_rfl) (by kernel_rfl) (by kernel_rfl)) ?_
  intro W base args ds gs before hval0 hW _ _
  have hval : ∀ (j : Nat) t v, Tryz.f5.params[j]? = some t → args[j]? = some v → Value.okWide Tryz.prog W .any base t v := hval0
  have hW' := hW
  obtain ⟨p, q, hA0, hV, rfl, _, _⟩ := hW
  have hA : DataW.TrodAll enc Tryz.prog W 0 (fun _ => true) true Tryz.f5.params.toList args.toList ds p := hA0
  rw [Tryz.params5] at hA hval
  obtain ⟨v0, v1, v2, v3, v4, d0, d1, d2, d3, d4, p0, p1, p2, p3, p4, rfl, rfl, rfl, h0, h1, h2, h3, h4⟩ := trodAll_five hA
  obtain ⟨rfl, rfl⟩ := trodVars_none hV
  obtain ⟨A, R, rfl, hwd, hat⟩ := room_opened (hval 0 32 v0 rfl rfl) h0
  obtain ⟨j, rfl⟩ := job_opened (hval 1 36 v1 rfl rfl) h1
  obtain ⟨f, rfl⟩ := okWide_int Tryz.underlying3 (hval 2 3 v2 rfl rfl)
  obtain ⟨u, rfl⟩ := okWide_int Tryz.underlying3 (hval 3 3 v3 rfl rfl)
  have hl' := h4
  obtain ⟨fuel, hfuel⟩ := hl'
  obtain ⟨f1, n1, m1, rfl⟩ := okWide_slice Tryz.underlying22 (hval 4 22 v4 rfl rfl)
  obtain ⟨fx, xs, mx, hxv, hxw, hs2⟩ := ints_opened (v := .slice f1 n1 m1) hfuel
  obtain ⟨rfl, rfl, rfl⟩ : f1 = fx ∧ n1 = xs.length ∧ m1 = mx := by simpa using hxv
  clear hA0 hval0
  simp only [List.append_nil] at hW'
  refine (walk l04Copy_c A R j f u f1 m1 xs hwd hxw W hat hs2).mono fun e W' ⟨he, hg⟩ => ?_
  subst he
  have hlt : ∀ x ∈ p0 ++ p1 ++ p2 ++ p3 ++ p4, x.block < W.heap.size := fun x hx => by simpa using hW'.lt x hx
  have harg0 := Below.trod laidOutAll (by kernel_rfl) (of_decide_eq_true (by kernel_rfl)) h0 hg (fun x hx => hlt x (by simp [hx]))
  have harg1 := Below.trod laidOutAll (by kernel_rfl) (of_decide_eq_true (by kernel_rfl)) h1 hg (fun x hx => hlt x (by simp [hx]))
  have harg2 := Below.trod laidOutAll (by kernel_rfl) (of_decide_eq_true (by kernel_rfl)) h2 hg (fun x hx => hlt x (by simp [hx]))
  have harg3 := Below.trod laidOutAll (by kernel_rfl) (of_decide_eq_true (by kernel_rfl)) h3 hg (fun x hx => hlt x (by simp [hx]))
  have harg4 := Below.trod laidOutAll (by kernel_rfl) (of_decide_eq_true (by kernel_rfl)) h4 hg (fun x hx => hlt x (by simp [hx]))
  exact ⟨_, rfl, _, _, _, [], _, [], hW', trodAll_mk1 (shut_bool Tryz.underlying4 _), trodAll_mk5 harg0 harg1 harg2 harg3 harg4, rfl, hg.frame _, fun h => by cases h⟩
theorem jf_in : (Rows.fnExactReleaseRow.inPlace == Tryz.pinned.checked.prog.inPlace 5) = true := by kernel_rfl
theorem jf_un : (Rows.fnExactReleaseRow.unfollowed == Tryz.pinned.checked.prog.unfollowed 5) = true := by kernel_rfl
theorem jf_rec : (Rows.fnExactReleaseRow.recurses == Tryz.pinned.checked.prog.recurses 5) = true := by kernel_rfl
theorem jf_named : (Rows.fnExactReleaseRow.named == Tryz.pinned.checked.prog.varsNamed 5) = true := by kernel_rfl
theorem jf_keys : (Rows.fnExactReleaseRow.plainKeys == Tryz.pinned.checked.prog.plainKeys) = true := by kernel_rfl
theorem jf_lift : (Rows.fnExactReleaseRow.lifted == Tryz.pinned.checked.prog.liftsFinal) = true := by kernel_rfl
theorem jf_make : (Tryz.pinned.checked.prog.make == some Rows.fnExactReleaseRow.make) = true := by kernel_rfl
theorem closed : joinedFacts Tryz.pinned.checked.prog 5 Tryz.f5 Rows.fnExactReleaseSpec Rows.fnExactReleaseRow = true := by
  unfold joinedFacts
  rw [jf_laid, jf_maps, jf_in, jf_un, jf_rec, jf_named, jf_keys, jf_heard, jf_enter, jf_lift, jf_make]
  kernel_rfl
end LawRelease

/-- For every room, job, time and nodes: the law returns true, and they read as they did. -/
theorem fnExactRelease_holds : Rows.FnExactReleaseSaid :=
  OpenClaim.holds_of_wide 5 Tryz.f5 rfl rfl rfl rfl rfl rfl rfl ⟨rfl, rfl, rfl, rfl, rfl⟩ rfl rfl rfl rfl rfl (by kernel_rfl) Tryz.func5 LawRelease.closed
    (of_decide_eq_true (by kernel_rfl)) (by unfold Func.isWrapper; rw [if_neg (of_decide_eq_false (by kernel_rfl))]; exact ⟨rfl, rfl⟩)
    (fun os started H enc _ => LawRelease.lifted os started H enc)
#print axioms fnExactRelease_holds
end Go.Proofs.YtdmgcbagijiohaaGreat
