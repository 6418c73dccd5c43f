/- FnExactHeapOk: for every list of dues the program's HeapOk answers as the specification's, and the list reads as it did; no condition. -/
import Derived.Test.YtdmmjggkdkmeaaaHqA
import Derived.Test.YtdmmjggkdkmeaaaDlP
import Derived.Test.YtdmmjggkdkmeaaaLawP
import Derived.Test.YtdmmjggkdkmeaaaRows
import Derived.Test.YtdmmjggkdkmeaaaChecked
import Derived.ProofKit
import Derived.OpenShut
import Derived.Carry
namespace Go.Proofs.Ytdmmjggkdkmeaaa
namespace LawHeapOk
open Go.ChangeShapes Go.WideShapes Go.ChangeAt Go.RowKit Go.Joins

set_option maxHeartbeats 4000000 in
theorem walk (a : Option Addr) (c : Nat) (xs : List Du) (hx : xs.length ≤ maxLen) (w : World) (h : Sq w a (flatD xs)) :
    Calls Try.prog 5 #[.slice a xs.length c] w fun e w' => e = .returned (.bool true) ∧ Below w.heap.size w w' := by
  have H : Hid (Sq w a (flatD xs)) := h
  have Hx : Hid (xs.length ≤ maxLen) := hx
  clear h hx
  go_enter Try.func5, Try.ntmps5
  go_wp2_with fail
  refine (szDueS_c a xs.length c Hx.out 1048576 (by omega) (by omega) _).mono ?_
  rintro e w1 ⟨rfl, rfl⟩
  by_cases h2 : (1048576 : Int) - xs.length < 0
  · rw [if_pos h2]
    clear h2
    go_wp2_with fail
    go_ret
    exact ⟨rfl, Below.refl _ _⟩
  · rw [if_neg h2]
    have hx2 : xs.length ≤ 1048576 := by omega
    go_wp2_with fail
    refine (toDueS_c a c xs hx2 _ H.out).mono ?_
    rintro e w2 ⟨g, rfl, hg, hr, hb⟩
    have HB2 : Hid (Below w1.heap.size w1 w2) := hb
    have HR2 : Hid (Row w2 g (flatD xs)) := hr
    clear hb hr
    go_wp2_with fail
    refine (specHeapOk_c _ _ xs hx2 _ (Sq.of_row HR2.out)).mono ?_
    rintro e w3 ⟨k, rfl, hk, hb⟩
    have HK : Hid (k = true ↔ HOk xs) := hk
    have HB3 : Hid (Below w1.heap.size w1 w3) := below_then HB2.out hb
    clear hk hb HB2 HR2
    go_wp2_with fail
    refine (toDueS_c a c xs hx2 _ (H.out.below HB3.out)).mono ?_
    rintro e w4 ⟨g4, rfl, hg4, hr, hb⟩
    have HB4 : Hid (Below w1.heap.size w1 w4) := below_then HB3.out hb
    have HR4 : Hid (Row w4 g4 (flatD xs)) := hr
    clear hb hr HB3
    go_wp2_with fail
    refine (implHeapOk_c _ _ xs hx2 _ (Sq.of_row HR4.out)).mono ?_
    rintro e w5 ⟨k2, rfl, hk, hb⟩
    obtain rfl : k2 = k := by rw [Bool.eq_iff_iff, hk, HK.out]
    have HB5 : Hid (Below w1.heap.size w1 w5) := below_then HB4.out hb
    have HR5 : Hid (Row w5 g4 (flatD xs)) := HR4.out.below hb
    clear hk hb HB4 HR4 HK
    cases k2
    all_goals
      go_wp2_with fail
      refine (toDueS_c a c xs hx2 _ (H.out.below HB5.out)).mono ?_
      rintro e w6 ⟨g6, rfl, hg6, hr, hb⟩
      have HB6 : Hid (Below w1.heap.size w1 w6) := below_then HB5.out hb
      have HR6 : Hid (Row w6 g4 (flatD xs)) := HR5.out.below hb
      have HQ6 : Hid (Row w6 g6 (flatD xs)) := hr
      clear hb hr
      go_wp2_with fail
      refine (eqDueS_c _ _ _ _ xs hx2 _ (Sq.of_row HR6.out) (Sq.of_row HQ6.out)).mono ?_
      rintro e w7 ⟨rfl, hb⟩
      have HB7 : Hid (Below w1.heap.size w1 w7) := below_then HB6.out hb
      clear hb
      go_wp2_with fail
      go_ret
      exact ⟨rfl, HB7.out⟩

set_option maxRecDepth 100000 in
theorem lifted (os : Os) (started : os.Started) (H : Type) (enc : TypeId × Value → H) :
    ReturnsInHanded {} Try.checked os 5 .any (Rows.fnExactHeapOkSpec.pre6 enc Try.prog Try.f5 Rows.fnExactHeapOkRow.domain false) (Rows.fnExactHeapOkSpec.post enc Try.prog Try.f5 false true false false) := by
  refine returnsInHanded_of_change (C := Try.checked) own started (by kernel_rfl) Try.func5
    (ChangeSpec.witness6 (enc := enc) (C := Try.checked) false ⟨#[], #[.slice none 0 0], []⟩ 8 (by kernel_rfl) (by kernel_rfl) (by kernel_rfl) (by kernel_rfl)) ?_
  intro W base args ds gs before hval0 hW _ _
  have hval : ∀ (j : Nat) t v, Try.f5.params[j]? = some t → args[j]? = some v → Value.okWide Try.prog W .any base t v := hval0
  have hW' := hW
  obtain ⟨p, q, hA0, hV, rfl, _, _⟩ := hW
  have hA : DataW.TrodAll enc Try.prog W 0 (fun _ => true) true Try.f5.params.toList args.toList ds p := hA0
  rw [Try.params5] at hA hval
  obtain ⟨v0, d0, rfl, rfl, h0⟩ := trodAll_one hA
  obtain ⟨rfl, rfl⟩ := trodVars_none hV
  have h1' := h0
  obtain ⟨fuel, hfuel⟩ := h1'
  obtain ⟨f1, n1, m1, rfl⟩ := okWide_slice Try.underlying36 (hval 0 36 v0 rfl rfl)
  obtain ⟨f, xs, m, hxv, hx, hs2⟩ := dues_opened (v := .slice f1 n1 m1) hfuel
  obtain ⟨rfl, rfl, rfl⟩ : f1 = f ∧ n1 = xs.length ∧ m1 = m := by simpa using hxv
  clear hA0 hval0
  simp only [List.append_nil] at hW'
  refine (walk f1 m1 xs hx W hs2).mono fun e W' ⟨he, hg⟩ => ?_
  subst he
  have hlt : ∀ x ∈ p, x.block < W.heap.size := fun x hx => by simpa using hW'.lt x hx
  have harg := Below.trod laidOutAll (by kernel_rfl) (of_decide_eq_true (by kernel_rfl)) h0 hg hlt
  exact ⟨_, rfl, _, _, _, [], _, [], hW', trodAll_mk1 (shut_bool Try.underlying4 _), trodAll_mk1 harg, rfl, hg.frame _, fun h => by cases h⟩
end LawHeapOk

/-- For every list of dues: the law returns true, and the list reads as it did. -/
theorem fnExactHeapOk_holds : Rows.FnExactHeapOkSaid :=
  OpenClaim.holds_of_wide 5 Try.f5 rfl rfl rfl rfl rfl rfl rfl ⟨rfl, rfl, rfl, rfl, rfl⟩ rfl rfl rfl rfl rfl (by kernel_rfl) Try.func5 (by kernel_rfl)
    (of_decide_eq_true (by kernel_rfl)) (by unfold Func.isWrapper; rw [if_neg (of_decide_eq_false (by kernel_rfl))]; exact ⟨rfl, rfl⟩)
    (fun os started H enc _ => LawHeapOk.lifted os started H enc)
#print axioms fnExactHeapOk_holds
end Go.Proofs.Ytdmmjggkdkmeaaa
