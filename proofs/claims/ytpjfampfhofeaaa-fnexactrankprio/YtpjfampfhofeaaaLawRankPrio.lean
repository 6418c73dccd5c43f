/- FnExactRankPrio: at every argument the program's RankPrio answers as the specification's; no condition. -/
import Derived.Test.YtpjfampfhofeaaaShK
import Derived.Test.YtpjfampfhofeaaaShI
import Derived.Test.YtpjfampfhofeaaaAcP
import Derived.Test.YtpjfampfhofeaaaAcC
import Derived.Test.YtpjfampfhofeaaaLawP
import Derived.Test.YtpjfampfhofeaaaRows
import Derived.Test.YtpjfampfhofeaaaChecked
import Derived.ProofKit
import Derived.OpenShut
import Derived.Carry
import Derived.ChangeMaps5
namespace Go.Proofs.Ytpjfampfhofeaaa
namespace LawRankPrio
open Go.ChangeShapes Go.WideShapes Go.ChangeAt Go.RowKit Go.Joins Go.ChangeMaps

set_option maxHeartbeats 8000000 in
set_option maxRecDepth 100000 in
theorem walk (a : Option Addr) (c : Nat) (xs : List Ac) (hx : xs.length ≤ maxLen) (hzx : ∀ x ∈ xs, szAc x ≤ 9223372036854775807) (s0 : ByteArray) (i1 : Int) (hs0 : s0.size ≤ maxLen) (w : World) (h : Sq w a (flatAc xs)) :
    Calls Try.prog 11 #[.slice a xs.length c, .string s0, .int .i64 i1] w fun e w' => e = .returned (.bool true) ∧ Below w.heap.size w w' := by
  have H : Hid (Sq w a (flatAc xs)) := h
  have Hx : Hid (xs.length ≤ maxLen) := hx
  clear h hx
  unfold maxLen at hs0
  by_cases hls0 : 1048576 < s0.size
  · have hi : (1048576 : Int) < (s0.size : Int) := by omega
    go_enter Try.func11, Try.ntmps11
    go_wp2_with fail
    go_ret
    exact ⟨rfl, Below.refl _ _⟩
  have his0 : ¬ (1048576 : Int) < (s0.size : Int) := by omega
  go_enter Try.func11, Try.ntmps11
  go_wp2_with fail
  refine (szAccountS_c a c xs Hx.out hzx 1048576 (by omega) (by omega) _ H.out).mono ?_
  rintro e w1 ⟨r0, rfl, hr1, hr2, hr3, hb⟩
  have HB1 : Hid (Below w.heap.size w w1) := hb
  have hw1 : w.heap.size ≤ w1.heap.size := hb.size
  clear hb
  by_cases h2 : r0 < 0
  · clear hr3
    go_wp2_with fail
    go_ret
    exact ⟨rfl, HB1.out⟩
  · obtain ⟨hx1, hz1⟩ := hr3 (by omega)
    have hx2 : xs.length ≤ 1048576 := by omega
    have hz : ∀ x ∈ xs, x.nm.size ≤ 1048576 := fun x hx => by have := hz1 x hx; unfold szAc at this; omega
    have hr5 : r0 ≤ 1048576 := hr2
    clear hr3 hz1 hx1 hr2
    obtain ⟨v, hV⟩ : ∃ v, rpI xs s0 i1 = v := ⟨_, rfl⟩
    have HV : Hid (rpI xs s0 i1 = v) := hV
    clear hV
    go_wp2_with fail
    refine (toAccountS_c a c xs hx2 _ (H.out.below HB1.out)).mono ?_
    rintro e w2 ⟨gp, rfl, hgp, hr, hb⟩
    have HB2 : Hid (Below w.heap.size w w2) := below_then HB1.out hb
    have HXp2 : Hid (Row w2 gp (flatAc xs)) := hr
    have hlp : gp < w2.heap.size := hr.lt
    have hop : w1.heap.size ≤ w2.heap.size := hb.size
    clear hb hr HB1
    go_wp2_with fail
    refine (specRankPrio_c _ _ xs hx2 hz s0 i1 _ (Sq.of_row HXp2.out)).mono ?_
    rintro e w3 ⟨rfl, hb⟩
    rw [HV.out]
    have HB3 : Hid (Below w.heap.size w w3) := below_then HB2.out hb
    clear hb HB2
    go_wp2_with fail
    refine (toAccountS_c a c xs hx2 _ (H.out.below HB3.out)).mono ?_
    rintro e w4 ⟨gx, rfl, hgx, hr, hb⟩
    have HB4 : Hid (Below w.heap.size w w4) := below_then HB3.out hb
    have HXx4 : Hid (Row w4 gx (flatAc xs)) := hr
    have hlx : gx < w4.heap.size := hr.lt
    have hox : w3.heap.size ≤ w4.heap.size := hb.size
    clear hb hr HB3
    go_wp2_with fail
    refine (implRankPrio_c _ _ xs hx2 hz s0 i1 _ (Sq.of_row HXx4.out)).mono ?_
    rintro e w5 ⟨rfl, hb⟩
    rw [HV.out]
    have HB5 : Hid (Below w.heap.size w w5) := below_then HB4.out hb
    have HXx5 : Hid (Row w5 gx (flatAc xs)) := HXx4.out.below hb
    clear hb HB4 HXx4
    go_wp2_with fail
    refine (toAccountS_c a c xs hx2 _ (H.out.below HB5.out)).mono ?_
    rintro e w6 ⟨gu, rfl, hgu, hr, hb⟩
    have HB6 : Hid (Below w.heap.size w w6) := below_then HB5.out hb
    have HXx6 : Hid (Row w6 gx (flatAc xs)) := HXx5.out.below hb
    have HXu6 : Hid (Row w6 gu (flatAc xs)) := hr
    have hlu : gu < w6.heap.size := hr.lt
    have hou : w5.heap.size ≤ w6.heap.size := hb.size
    clear hb hr HB5 HXx5
    go_wp2_with fail
    refine (eqAccountS_c _ _ _ _ xs hx2 _ (Sq.of_row HXx6.out) (Sq.of_row HXu6.out)).mono ?_
    rintro e w7 ⟨rfl, hb⟩
    have HB7 : Hid (Below w.heap.size w w7) := below_then HB6.out hb
    have HXx7 : Hid (Row w7 gx (flatAc xs)) := HXx6.out.below hb
    have HXu7 : Hid (Row w7 gu (flatAc xs)) := HXu6.out.below hb
    clear hb HB6 HXx6 HXu6
    go_wp2_with fail
    go_ret
    exact ⟨rfl, HB7.out⟩

set_option maxRecDepth 100000 in
theorem lifted (os : Os) (started : os.Started) (H : Type) (enc : TypeId × Value → H) :
    ReturnsInHanded {} Try.checked os 11 .any (Rows.fnExactRankPrioSpec.pre6 enc Try.prog Try.f11 Rows.fnExactRankPrioRow.domain false) (Rows.fnExactRankPrioSpec.post enc Try.prog Try.f11 false true false false) := by
  refine returnsInHanded_of_change (C := Try.checked) own started (by kernel_rfl) Try.func11
    (ChangeSpec.witness6 (enc := enc) (C := Try.checked) false ⟨#[], #[.slice none 0 0, .string ByteArray.empty, .int .i64 0], []⟩ 8 (by kernel_rfl) (by kernel_rfl) (by kernel_rfl) (by kernel_rfl)) ?_
  intro W base args ds gs before hval0 hW _ _
  have hval : ∀ (j : Nat) t v, Try.f11.params[j]? = some t → args[j]? = some v → Value.okWide Try.prog W .any base t v := hval0
  have hW' := hW
  obtain ⟨p, q, hA0, hV, rfl, _, _⟩ := hW
  have hA : DataW.TrodAll enc Try.prog W 0 (fun _ => true) true Try.f11.params.toList args.toList ds p := hA0
  rw [Try.params11] at hA hval
  obtain ⟨v0, v1, v2, d0, d1, d2, p0, p1, p2, rfl, rfl, rfl, h0, h1, h2⟩ := trodAll_three hA
  obtain ⟨rfl, rfl⟩ := trodVars_none hV
  have h1' := h0
  obtain ⟨fuel, hfuel⟩ := h1'
  obtain ⟨f1, n1, m1, rfl⟩ := okWide_slice Try.underlying39 (hval 0 39 v0 rfl rfl)
  obtain ⟨f, xs, m, hxv, hx, hs2, hsz⟩ := accounts_opened (v := .slice f1 n1 m1) hfuel
  obtain ⟨rfl, rfl, rfl⟩ : f1 = f ∧ n1 = xs.length ∧ m1 = m := by simpa using hxv
  obtain ⟨s0, rfl, rfl, rfl, hs0⟩ := open_string Try.underlying9 (hval 1 9 v1 rfl rfl) h1
  obtain ⟨i1, rfl⟩ := okWide_int Try.underlying3 (hval 2 3 v2 rfl rfl)
  clear hA0 hval0
  simp only [List.append_nil] at hW'
  refine (walk f1 m1 xs hx (fun x h => Nat.le_trans (hsz x h) (by unfold maxLen; decide)) s0 i1 hs0 W hs2).mono fun e W' ⟨he, hg⟩ => ?_
  subst he
  have hlt : ∀ x ∈ p0, x.block < W.heap.size := fun x hx => hW'.lt x (by simp [hx])
  have harg := Below.trod laidOutAll (by kernel_rfl) (of_decide_eq_true (by kernel_rfl)) h0 hg (fun x hx => hlt x hx)
  have harg2 := Below.trod laidOutAll (by kernel_rfl) (of_decide_eq_true (by kernel_rfl)) h2 hg (fun x hx => hW'.lt x (by simp [hx]))
  exact ⟨_, rfl, _, _, _, [], _, [], hW', trodAll_mk1 (shut_bool Try.underlying4 _), trodAll_mk3 harg (shut_string Try.underlying9 hs0) harg2, rfl, hg.frame _, fun h => by cases h⟩
end LawRankPrio

/-- At every argument: the law returns true, and the arguments read as they did. -/
theorem fnExactRankPrio_holds : Rows.FnExactRankPrioSaid :=
  OpenClaim.holds_of_wide 11 Try.f11 rfl rfl rfl rfl rfl rfl rfl ⟨rfl, rfl, rfl, rfl, rfl⟩ rfl rfl rfl rfl rfl (by kernel_rfl) Try.func11 (by kernel_rfl)
    (of_decide_eq_true (by kernel_rfl)) (by unfold Func.isWrapper; rw [if_neg (of_decide_eq_false (by kernel_rfl))]; exact ⟨rfl, rfl⟩)
    (fun os started H enc _ => LawRankPrio.lifted os started H enc)
#print axioms fnExactRankPrio_holds
end Go.Proofs.Ytpjfampfhofeaaa
