/- FnExactReserve: for every room, job, time and nodes the program's Reserve answers as the specification's, and its answer owns its memory; no condition. -/
import Derived.Test.YtmpjebkjopfejaaGreatMzWkReserve
import Derived.Test.YtmpjebkjopfejaaGreatMgRm
import Derived.Test.YtmpjebkjopfejaaGreatMgRp
import Derived.Test.YtmpjebkjopfejaaGreatMzSpR
import Derived.Test.YtmpjebkjopfejaaGreatMzSpC
import Derived.Test.YtmpjebkjopfejaaGreatMgRd
import Derived.Test.YtmpjebkjopfejaaGreatMgRl
import Derived.Test.YtmpjebkjopfejaaGreatMzJbP
import Derived.Test.YtmpjebkjopfejaaGreatMgRn
import Derived.Test.YtmpjebkjopfejaaGreatMzJfP
import Derived.ProofKit
import Derived.OpenShut
import Derived.Deep.DeepCutAuto
import Derived.Deep.RegionWith
namespace Go.Proofs.YtmpjebkjopfejaaGreat
namespace LawReserve
open Go.ChangeShapes Go.WideShapes Go.ChangeAt Go.RowKit Go.Joins


set_option maxRecDepth 100000 in
theorem lifted (os : Os) (started : os.Started) (H : Type) (enc : TypeId × Value → H) :
    ReturnsInHanded {} Tryz.checked os 3 .any (Rows.fnExactReserveSpec.pre6 enc Tryz.prog Tryz.f3 Rows.fnExactReserveRow.domain false) (Rows.fnExactReserveSpec.post enc Tryz.prog Tryz.f3 false true false false) := by
  refine returnsInHanded_of_change (C := Tryz.checked) own started (by kernel_rfl) Tryz.func3
    (ChangeSpec.witness6 (enc := enc) (C := Tryz.checked) false ⟨#[], #[.agg #[.slice none 0 0, .slice none 0 0, .slice none 0 0, .slice none 0 0, .slice none 0 0], .agg #[.int .i64 0, .int .i64 0, .int .i64 0, .int .i64 0, .int .i64 0, .int .i64 0, .int .i64 0, .int .i64 0, .int .i64 0, .int .i64 0, .int .i64 0], .int .i64 0, .slice none 0 0], []⟩ 8 (by kernel_rfl) (by kernel_rfl) (by kernel_rfl) (by kernel_rfl)) ?_
  intro W base args ds gs before hval0 hW _ _
  have hval : ∀ (j : Nat) t v, Tryz.f3.params[j]? = some t → args[j]? = some v → Value.okWide Tryz.prog W .any base t v := hval0
  have hW' := hW
  obtain ⟨p, q, hA0, hV, rfl, _, _⟩ := hW
  have hA : DataW.TrodAll enc Tryz.prog W 0 (fun _ => true) true Tryz.f3.params.toList args.toList ds p := hA0
  rw [Tryz.params3] at hA hval
  obtain ⟨v0, v1, v2, v3, d0, d1, d2, d3, p0, p1, p2, p3, rfl, rfl, rfl, h0, h1, h2, h3⟩ := trodAll_four hA
  obtain ⟨rfl, rfl⟩ := trodVars_none hV
  obtain ⟨A, R, rfl, hwd, hat⟩ := room_opened (hval 0 32 v0 rfl rfl) h0
  obtain ⟨j, rfl⟩ := job_opened (hval 1 36 v1 rfl rfl) h1
  obtain ⟨f, rfl⟩ := okWide_int Tryz.underlying3 (hval 2 3 v2 rfl rfl)
  have hl' := h3
  obtain ⟨fuel, hfuel⟩ := hl'
  obtain ⟨f1, n1, m1, rfl⟩ := okWide_slice Tryz.underlying22 (hval 3 22 v3 rfl rfl)
  obtain ⟨fx, xs, mx, hxv, hxw, hs2⟩ := ints_opened (v := .slice f1 n1 m1) hfuel
  obtain ⟨rfl, rfl, rfl⟩ : f1 = fx ∧ n1 = xs.length ∧ m1 = mx := by simpa using hxv
  clear hA0 hval0
  simp only [List.append_nil] at hW'
  refine (walk l04Copy_c A R j f f1 m1 xs hwd hxw W hat hs2).mono fun e W' ⟨he, hg⟩ => ?_
  subst he
  have hlt : ∀ x ∈ p0 ++ p1 ++ p2 ++ p3, x.block < W.heap.size := fun x hx => by simpa using hW'.lt x hx
  have harg0 := Below.trod laidOutAll (by kernel_rfl) (of_decide_eq_true (by kernel_rfl)) h0 hg (fun x hx => hlt x (by simp [hx]))
  have harg1 := Below.trod laidOutAll (by kernel_rfl) (of_decide_eq_true (by kernel_rfl)) h1 hg (fun x hx => hlt x (by simp [hx]))
  have harg2 := Below.trod laidOutAll (by kernel_rfl) (of_decide_eq_true (by kernel_rfl)) h2 hg (fun x hx => hlt x (by simp [hx]))
  have harg3 := Below.trod laidOutAll (by kernel_rfl) (of_decide_eq_true (by kernel_rfl)) h3 hg (fun x hx => hlt x (by simp [hx]))
  exact ⟨_, rfl, _, _, _, [], _, [], hW', trodAll_mk1 (shut_bool Tryz.underlying4 _), trodAll_mk4 harg0 harg1 harg2 harg3, rfl, hg.frame _, fun h => by cases h⟩
theorem jf_in : (Rows.fnExactReserveRow.inPlace == Tryz.pinned.checked.prog.inPlace 3) = true := by kernel_rfl
theorem jf_un : (Rows.fnExactReserveRow.unfollowed == Tryz.pinned.checked.prog.unfollowed 3) = true := by kernel_rfl
theorem jf_rec : (Rows.fnExactReserveRow.recurses == Tryz.pinned.checked.prog.recurses 3) = true := by kernel_rfl
theorem jf_named : (Rows.fnExactReserveRow.named == Tryz.pinned.checked.prog.varsNamed 3) = true := by kernel_rfl
theorem jf_keys : (Rows.fnExactReserveRow.plainKeys == Tryz.pinned.checked.prog.plainKeys) = true := by kernel_rfl
theorem jf_lift : (Rows.fnExactReserveRow.lifted == Tryz.pinned.checked.prog.liftsFinal) = true := by kernel_rfl
theorem jf_make : (Tryz.pinned.checked.prog.make == some Rows.fnExactReserveRow.make) = true := by kernel_rfl
theorem closed : joinedFacts Tryz.pinned.checked.prog 3 Tryz.f3 Rows.fnExactReserveSpec Rows.fnExactReserveRow = true := by
  unfold joinedFacts
  rw [jf_laid, jf_maps, jf_in, jf_un, jf_rec, jf_named, jf_keys, jf_heard, jf_enter, jf_lift, jf_make]
  kernel_rfl
end LawReserve

/-- For every room, job, time and nodes: the law returns true, and they read as they did. -/
theorem fnExactReserve_holds : Rows.FnExactReserveSaid :=
  OpenClaim.holds_of_wide 3 Tryz.f3 rfl rfl rfl rfl rfl rfl rfl ⟨rfl, rfl, rfl, rfl, rfl⟩ rfl rfl rfl rfl rfl (by kernel_rfl) Tryz.func3 LawReserve.closed
    (of_decide_eq_true (by kernel_rfl)) (by unfold Func.isWrapper; rw [if_neg (of_decide_eq_false (by kernel_rfl))]; exact ⟨rfl, rfl⟩)
    (fun os started H enc _ => LawReserve.lifted os started H enc)
#print axioms fnExactReserve_holds
end Go.Proofs.YtmpjebkjopfejaaGreat
