/- FnExactWordOk: for every text the program's WordOk answers as the specification's; no condition. -/
import Derived.Test.YtpjfampfhofeaaaShI
import Derived.Test.YtpjfampfhofeaaaRows
import Derived.Test.YtpjfampfhofeaaaChecked
import Derived.ProofKit
import Derived.ChangeMaps5
import Derived.OpenShut
import Derived.Lib.SmallJoins
namespace Go.Proofs.Ytpjfampfhofeaaa
namespace LawWordOk
open Go.ChangeShapes Go.WideShapes Go.ChangeAt Go.RowKit Go.Joins
open Go.WideMaps Go.WideElems
open Go.ChangeMaps (open_string shut_string)

theorem own : ownKnob Try.prog.godebug = none := by kernel_rfl

theorem walk (s : ByteArray) (w : World) (hs : s.size ≤ maxLen) :
    Calls Try.prog 5 #[.string s] w fun e w' => e = .returned (.bool true) ∧ Below w.heap.size w w' := by
  by_cases hl : 1048576 < s.size
  · unfold maxLen at hs
    go_enter Try.func5, Try.ntmps5
    go_wp2_with fail
    go_ret
    exact ⟨rfl, Below.refl _ _⟩
  · have Hs := fun W => specWordOk_c s (by omega) W
    have Hi := fun W => implWordOk_c s W
    have Hs2 : Hid (∀ W, Calls Try.prog 22 #[.string s] W fun e w' => e = .returned (.bool (wordB s)) ∧ w' = W) := Hs
    have Hi2 : Hid (∀ W, Calls Try.prog 23 #[.string s] W fun e w' => e = .returned (.bool (wordB s)) ∧ Below W.heap.size W w') := Hi
    clear Hs Hi
    unfold maxLen at hs
    generalize wordB s = r at Hs2 Hi2
    go_enter Try.func5, Try.ntmps5
    go_wp2_with fail
    refine (Hs2.out _).mono ?_
    rintro e w1 ⟨rfl, rfl⟩
    go_wp2_with fail
    refine (Hi2.out _).mono ?_
    rintro e w2 ⟨rfl, hb⟩
    cases r <;> (go_wp2_with fail; go_ret; exact ⟨rfl, hb⟩)

set_option maxRecDepth 100000 in
theorem lifted (os : Os) (started : os.Started) (H : Type) (enc : TypeId × Value → H) :
    ReturnsInHanded {} Try.checked os 5 .any (Rows.fnExactWordOkSpec.pre6 enc Try.prog Try.f5 Rows.fnExactWordOkRow.domain false) (Rows.fnExactWordOkSpec.post enc Try.prog Try.f5 false true false false) := by
  refine returnsInHanded_of_change (C := Try.checked) own started (by kernel_rfl) Try.func5
    (ChangeSpec.witness6 (enc := enc) (C := Try.checked) false ⟨#[], #[.string ByteArray.empty], []⟩ 8 (by kernel_rfl) (by kernel_rfl) (by kernel_rfl) (by kernel_rfl)) ?_
  intro W base args ds gs before hval0 hW _ _
  have hval : ∀ (j : Nat) t v, Try.f5.params[j]? = some t → args[j]? = some v → Value.okWide Try.prog W .any base t v := hval0
  have hW' := hW
  obtain ⟨p, q, hA0, hV, rfl, _, _⟩ := hW
  have hA : DataW.TrodAll enc Try.prog W 0 (fun _ => true) true Try.f5.params.toList args.toList ds p := hA0
  rw [Try.params5] at hA hval
  obtain ⟨v0, d0, rfl, rfl, h0⟩ := trodAll_one hA
  obtain ⟨rfl, rfl⟩ := trodVars_none hV
  obtain ⟨s, rfl, rfl, rfl, hs⟩ := open_string Try.underlying9 (hval 0 9 v0 rfl rfl) h0
  clear hA0 hval0
  simp only [List.append_nil] at hW'
  refine (walk s W hs).mono fun e W' ⟨he, hg⟩ => ?_
  subst he
  exact ⟨_, rfl, _, _, _, [], [], [], hW', trodAll_mk1 (shut_bool Try.underlying4 _), trodAll_mk1 (shut_string Try.underlying9 hs), rfl, hg.frame _, fun h => by cases h⟩
end LawWordOk

/-- For every text: the law returns true, and the text reads as it did. -/
theorem fnExactWordOk_holds : Rows.FnExactWordOkSaid :=
  OpenClaim.holds_of_wide 5 Try.f5 rfl rfl rfl rfl rfl rfl rfl ⟨rfl, rfl, rfl, rfl, rfl⟩ rfl rfl rfl rfl rfl (by kernel_rfl) Try.func5 (by kernel_rfl)
    (of_decide_eq_true (by kernel_rfl)) (by unfold Func.isWrapper; rw [if_neg (of_decide_eq_false (by kernel_rfl))]; exact ⟨rfl, rfl⟩)
    (fun os started H enc _ => LawWordOk.lifted os started H enc)
#print axioms fnExactWordOk_holds
end Go.Proofs.Ytpjfampfhofeaaa
