/- FnExactHeapOf: for every list of dues the program's HeapOf answers as the specification's, and its answer owns its memory; no condition. -/
import Derived.Test.YtdmmjggkdkmeaaaHqK
import Derived.Test.YtdmmjggkdkmeaaaDlP
import Derived.Test.YtdmmjggkdkmeaaaDlC
import Derived.Test.YtdmmjggkdkmeaaaLawP
import Derived.Test.YtdmmjggkdkmeaaaRows
import Derived.Test.YtdmmjggkdkmeaaaChecked
import Derived.ProofKit
import Derived.OpenShut
import Derived.Carry
namespace Go.Proofs.Ytdmmjggkdkmeaaa
namespace LawHeapOf
open Go.ChangeShapes Go.WideShapes Go.ChangeAt Go.RowKit Go.Joins

set_option maxHeartbeats 8000000 in
set_option maxRecDepth 100000 in
theorem walk (a : Option Addr) (c : Nat) (xs : List Du) (hx : xs.length ≤ maxLen) (w : World) (h : Sq w a (flatD xs)) :
    Calls Try.prog 8 #[.slice a xs.length c] w fun e w' => e = .returned (.bool true) ∧ Below w.heap.size w w' := by
  have H : Hid (Sq w a (flatD xs)) := h
  have Hx : Hid (xs.length ≤ maxLen) := hx
  clear h hx
  go_enter Try.func8, Try.ntmps8
  go_wp2_with fail
  have HB1 : Hid (Below w.heap.size w w) := Below.refl _ _
  refine (szDueS_c a xs.length c Hx.out 1048576 (by omega) (by omega) _).mono ?_
  rintro e w0 ⟨rfl, rfl⟩
  by_cases h2 : (1048576 : Int) - xs.length < 0
  · rw [if_pos h2]
    clear h2
    go_wp2_with fail
    go_ret
    exact ⟨rfl, HB1.out⟩
  · rw [if_neg h2]
    have hx2 : xs.length ≤ 1048576 := by omega
    obtain ⟨K, hK⟩ : ∃ K : Bool, (dof [] xs).isSome = K := ⟨_, rfl⟩
    have HK : Hid ((dof [] xs).isSome = K) := hK
    clear hK
    obtain ⟨r, hR⟩ : ∃ r, ((dof [] xs).getD []) = r := ⟨_, rfl⟩
    have hrl : r.length ≤ 1048576 := by rw [← hR]; exact dof_len hx2
    have HR : Hid (((dof [] xs).getD []) = r) := hR
    clear hR
    clear h2
    go_wp2_with fail
    refine (toDueS_c a c xs hx2 _ (H.out.below HB1.out)).mono ?_
    rintro e w2 ⟨gp, rfl, hgp, hr, hb⟩
    have HB2 : Hid (Below w0.heap.size w0 w2) := below_then HB1.out hb
    have HXp2 : Hid (Row w2 gp (flatD xs)) := hr
    have hlp : gp < w2.heap.size := hr.lt
    have hop : w0.heap.size ≤ w2.heap.size := hb.size
    clear hb hr HB1
    go_wp2_with fail
    refine (specHeapOf_c _ _ xs hx2 _ (Sq.of_row HXp2.out)).mono ?_
    rintro e w3 ⟨kp, vp, rfl, hk, hans, hb⟩
    obtain rfl : K = kp := HK.out.symm.trans hk
    rw [HR.out] at hans
    have HB3 : Hid (Below w0.heap.size w0 w3) := below_then HB2.out hb
    have HAp3 : Hid (AnsD w2.heap.size w3.heap.size w3 r.length (flatD r) vp) := hans
    have hqp : w2.heap.size ≤ w3.heap.size := hb.size
    clear hb hans hk HB2
    go_wp2_with fail
    refine (toDueS_c a c xs hx2 _ (H.out.below HB3.out)).mono ?_
    rintro e w4 ⟨gx, rfl, hgx, hr, hb⟩
    have HB4 : Hid (Below w0.heap.size w0 w4) := below_then HB3.out hb
    have HAp4 : Hid (AnsD w2.heap.size w3.heap.size w4 r.length (flatD r) vp) := HAp3.out.below hb
    have HXx4 : Hid (Row w4 gx (flatD xs)) := hr
    have hlx : gx < w4.heap.size := hr.lt
    have hox : w3.heap.size ≤ w4.heap.size := hb.size
    clear hb hr HB3 HAp3
    go_wp2_with fail
    refine (implHeapOf_c _ _ xs hx2 _ (Sq.of_row HXx4.out)).mono ?_
    rintro e w5 ⟨kg, vg, rfl, hk, hans, hb⟩
    obtain rfl : K = kg := HK.out.symm.trans hk
    rw [HR.out] at hans
    have HB5 : Hid (Below w0.heap.size w0 w5) := below_then HB4.out hb
    have HAp5 : Hid (AnsD w2.heap.size w3.heap.size w5 r.length (flatD r) vp) := HAp4.out.below hb
    have HXx5 : Hid (Row w5 gx (flatD xs)) := HXx4.out.below hb
    have HAg5 : Hid (AnsD w4.heap.size w5.heap.size w5 r.length (flatD r) vg) := hans
    have hqg : w4.heap.size ≤ w5.heap.size := hb.size
    clear hb hans hk HB4 HAp4 HXx4
    go_wp2_with fail
    refine (eq_ansD HAg5.out HAp5.out hrl).mono ?_
    rintro e w6 ⟨rfl, hb⟩
    have HB6 : Hid (Below w0.heap.size w0 w6) := below_then HB5.out hb
    have HAp6 : Hid (AnsD w2.heap.size w3.heap.size w6 r.length (flatD r) vp) := HAp5.out.below hb
    have HXx6 : Hid (Row w6 gx (flatD xs)) := HXx5.out.below hb
    have HAg6 : Hid (AnsD w4.heap.size w5.heap.size w6 r.length (flatD r) vg) := HAg5.out.below hb
    clear hb HB5 HAp5 HXx5 HAg5
    go_wp2_with fail
    refine (toDueS_c a c xs hx2 _ (H.out.below HB6.out)).mono ?_
    rintro e w7 ⟨gu, rfl, hgu, hr, hb⟩
    have HB7 : Hid (Below w0.heap.size w0 w7) := below_then HB6.out hb
    have HAp7 : Hid (AnsD w2.heap.size w3.heap.size w7 r.length (flatD r) vp) := HAp6.out.below hb
    have HXx7 : Hid (Row w7 gx (flatD xs)) := HXx6.out.below hb
    have HAg7 : Hid (AnsD w4.heap.size w5.heap.size w7 r.length (flatD r) vg) := HAg6.out.below hb
    have HXu7 : Hid (Row w7 gu (flatD xs)) := hr
    have hlu : gu < w7.heap.size := hr.lt
    have hou : w6.heap.size ≤ w7.heap.size := hb.size
    clear hb hr HB6 HAp6 HXx6 HAg6
    go_wp2_with fail
    refine (eqDueS_c _ _ _ _ xs hx2 _ (Sq.of_row HXx7.out) (Sq.of_row HXu7.out)).mono ?_
    rintro e w8 ⟨rfl, hb⟩
    have HB8 : Hid (Below w0.heap.size w0 w8) := below_then HB7.out hb
    have HAp8 : Hid (AnsD w2.heap.size w3.heap.size w8 r.length (flatD r) vp) := HAp7.out.below hb
    have HXx8 : Hid (Row w8 gx (flatD xs)) := HXx7.out.below hb
    have HAg8 : Hid (AnsD w4.heap.size w5.heap.size w8 r.length (flatD r) vg) := HAg7.out.below hb
    have HXu8 : Hid (Row w8 gu (flatD xs)) := HXu7.out.below hb
    clear hb HB7 HAp7 HXx7 HAg7 HXu7
    go_wp2_with fail
    refine (mark_ansD (k0 := 1) (B := gx) (T := gx + 1) (AnsD.of_row (cap := xs.length) (flatD_len xs) HXx8.out (Nat.le_refl _) (Nat.lt_succ_self _)) hx2 (by omega)).mono ?_
    rintro e w9 ⟨rfl, hG, hk, hbw⟩
    have HB9 : Hid (Below w0.heap.size w0 w9) := hbw w0 HB8.out (by omega)
    have HAp9 : Hid (AnsD w2.heap.size w3.heap.size w9 r.length (flatD r) vp) := HAp8.out.keep fun g' h1 h2 hr' => hk g' _ hr' (.inl (by omega))
    have HAg9 : Hid (AnsD w4.heap.size w5.heap.size w9 r.length (flatD r) vg) := HAg8.out.keep fun g' h1 h2 hr' => hk g' _ hr' (.inr (by omega))
    clear hG hk hbw HB8 HAp8 HAg8 HXx8
    generalize hM : 1 + 2 * xs.length = M
    have hM0 : (0 : Int) ≤ (M : Int) := by omega
    go_wp2_with fail
    refine (eq_ansD HAg9.out HAp9.out hrl).mono ?_
    rintro e w10 ⟨rfl, hb⟩
    have HB10 : Hid (Below w0.heap.size w0 w10) := below_then HB9.out hb
    have HAp10 : Hid (AnsD w2.heap.size w3.heap.size w10 r.length (flatD r) vp) := HAp9.out.below hb
    have HAg10 : Hid (AnsD w4.heap.size w5.heap.size w10 r.length (flatD r) vg) := HAg9.out.below hb
    clear hb HB9 HAp9 HAg9
    go_wp2_with fail
    refine (mark_ansD (k0 := 1) HAg10.out hrl (by omega)).mono ?_
    rintro e w11 ⟨rfl, hG, hk, hbw⟩
    have HB11 : Hid (Below w0.heap.size w0 w11) := hbw w0 HB10.out (by omega)
    have HAp11 : Hid (AnsD w2.heap.size w3.heap.size w11 r.length (flatD r) vp) := HAp10.out.keep fun g' h1 h2 hr' => hk g' _ hr' (.inl (by omega))
    have HAg11 : Hid (AnsD w4.heap.size w5.heap.size w11 r.length (upFrom 1 (2 * r.length)) vg) := hG
    clear hG hk hbw HB10 HAp10 HAg10
    have HH : Hid (∀ W : World, AnsD w4.heap.size w5.heap.size W r.length (upFrom 1 (2 * r.length)) vg → Calls Try.prog 25 #[vg, .int .i64 1] W fun e w' => e = .returned (.int .i64 ((1 + 2 * r.length : Nat) : Int)) ∧ Below W.heap.size W w') := fun W h => held_ansD (k0 := 1) h hrl (by omega)
    generalize hKq : 1 + 2 * r.length = Kq at HH ⊢
    have hK0 : (0 : Int) ≤ (Kq : Int) := by omega
    clear hKq
    go_wp2_with fail
    refine (HH.out _ HAg11.out).mono ?_
    rintro e w12 ⟨rfl, hb⟩
    have HB12 : Hid (Below w0.heap.size w0 w12) := below_then HB11.out hb
    have HAp12 : Hid (AnsD w2.heap.size w3.heap.size w12 r.length (flatD r) vp) := HAp11.out.below hb
    have HAg12 : Hid (AnsD w4.heap.size w5.heap.size w12 r.length (upFrom 1 (2 * r.length)) vg) := HAg11.out.below hb
    clear hb HB11 HAp11 HAg11
    go_wp2_with fail
    refine (toDueS_c a c xs hx2 _ (H.out.below HB12.out)).mono ?_
    rintro e w13 ⟨gv, rfl, hgv, hr, hb⟩
    have HB13 : Hid (Below w0.heap.size w0 w13) := below_then HB12.out hb
    have HAp13 : Hid (AnsD w2.heap.size w3.heap.size w13 r.length (flatD r) vp) := HAp12.out.below hb
    have HAg13 : Hid (AnsD w4.heap.size w5.heap.size w13 r.length (upFrom 1 (2 * r.length)) vg) := HAg12.out.below hb
    have HXv13 : Hid (Row w13 gv (flatD xs)) := hr
    have hlv : gv < w13.heap.size := hr.lt
    have hov : w12.heap.size ≤ w13.heap.size := hb.size
    clear hb hr HB12 HAp12 HAg12
    go_wp2_with fail
    refine (implHeapOf_c _ _ xs hx2 _ (Sq.of_row HXv13.out)).mono ?_
    rintro e w14 ⟨kh, vh, rfl, hk, hans, hb⟩
    obtain rfl : K = kh := HK.out.symm.trans hk
    rw [HR.out] at hans
    have HB14 : Hid (Below w0.heap.size w0 w14) := below_then HB13.out hb
    have HAp14 : Hid (AnsD w2.heap.size w3.heap.size w14 r.length (flatD r) vp) := HAp13.out.below hb
    have HAg14 : Hid (AnsD w4.heap.size w5.heap.size w14 r.length (upFrom 1 (2 * r.length)) vg) := HAg13.out.below hb
    have HAh14 : Hid (AnsD w13.heap.size w14.heap.size w14 r.length (flatD r) vh) := hans
    have hqh : w13.heap.size ≤ w14.heap.size := hb.size
    clear hb hans hk HB13 HAp13 HAg13
    go_wp2_with fail
    refine (eq_ansD HAh14.out HAp14.out hrl).mono ?_
    rintro e w15 ⟨rfl, hb⟩
    have HB15 : Hid (Below w0.heap.size w0 w15) := below_then HB14.out hb
    have HAp15 : Hid (AnsD w2.heap.size w3.heap.size w15 r.length (flatD r) vp) := HAp14.out.below hb
    have HAg15 : Hid (AnsD w4.heap.size w5.heap.size w15 r.length (upFrom 1 (2 * r.length)) vg) := HAg14.out.below hb
    have HAh15 : Hid (AnsD w13.heap.size w14.heap.size w15 r.length (flatD r) vh) := HAh14.out.below hb
    clear hb HB14 HAp14 HAg14 HAh14
    go_wp2_with fail
    refine (HH.out _ HAg15.out).mono ?_
    rintro e w16 ⟨rfl, hb⟩
    have HB16 : Hid (Below w0.heap.size w0 w16) := below_then HB15.out hb
    have HAp16 : Hid (AnsD w2.heap.size w3.heap.size w16 r.length (flatD r) vp) := HAp15.out.below hb
    have HAg16 : Hid (AnsD w4.heap.size w5.heap.size w16 r.length (upFrom 1 (2 * r.length)) vg) := HAg15.out.below hb
    have HAh16 : Hid (AnsD w13.heap.size w14.heap.size w16 r.length (flatD r) vh) := HAh15.out.below hb
    clear hb HB15 HAp15 HAg15 HAh15
    go_wp2_with fail
    go_ret
    exact ⟨rfl, HB16.out⟩

set_option maxRecDepth 100000 in
theorem lifted (os : Os) (started : os.Started) (H : Type) (enc : TypeId × Value → H) :
    ReturnsInHanded {} Try.checked os 8 .any (Rows.fnExactHeapOfSpec.pre6 enc Try.prog Try.f8 Rows.fnExactHeapOfRow.domain false) (Rows.fnExactHeapOfSpec.post enc Try.prog Try.f8 false true false false) := by
  refine returnsInHanded_of_change (C := Try.checked) own started (by kernel_rfl) Try.func8
    (ChangeSpec.witness6 (enc := enc) (C := Try.checked) false ⟨#[], #[.slice none 0 0], []⟩ 8 (by kernel_rfl) (by kernel_rfl) (by kernel_rfl) (by kernel_rfl)) ?_
  intro W base args ds gs before hval0 hW _ _
  have hval : ∀ (j : Nat) t v, Try.f8.params[j]? = some t → args[j]? = some v → Value.okWide Try.prog W .any base t v := hval0
  have hW' := hW
  obtain ⟨p, q, hA0, hV, rfl, _, _⟩ := hW
  have hA : DataW.TrodAll enc Try.prog W 0 (fun _ => true) true Try.f8.params.toList args.toList ds p := hA0
  rw [Try.params8] at hA hval
  obtain ⟨v0, d0, rfl, rfl, h0⟩ := trodAll_one hA
  obtain ⟨rfl, rfl⟩ := trodVars_none hV
  have h1' := h0
  obtain ⟨fuel, hfuel⟩ := h1'
  obtain ⟨f1, n1, m1, rfl⟩ := okWide_slice Try.underlying36 (hval 0 36 v0 rfl rfl)
  obtain ⟨f, xs, m, hxv, hx, hs2⟩ := dues_opened (v := .slice f1 n1 m1) hfuel
  obtain ⟨rfl, rfl, rfl⟩ : f1 = f ∧ n1 = xs.length ∧ m1 = m := by simpa using hxv
  clear hA0 hval0
  simp only [List.append_nil] at hW'
  refine (walk f1 m1 xs hx W hs2).mono fun e W' ⟨he, hg⟩ => ?_
  subst he
  have hlt : ∀ x ∈ p, x.block < W.heap.size := fun x hx => by simpa using hW'.lt x hx
  have harg := Below.trod laidOutAll (by kernel_rfl) (of_decide_eq_true (by kernel_rfl)) h0 hg hlt
  exact ⟨_, rfl, _, _, _, [], _, [], hW', trodAll_mk1 (shut_bool Try.underlying4 _), trodAll_mk1 harg, rfl, hg.frame _, fun h => by cases h⟩
end LawHeapOf

/-- For every list of dues: the law returns true, and the list reads as it did. -/
theorem fnExactHeapOf_holds : Rows.FnExactHeapOfSaid :=
  OpenClaim.holds_of_wide 8 Try.f8 rfl rfl rfl rfl rfl rfl rfl ⟨rfl, rfl, rfl, rfl, rfl⟩ rfl rfl rfl rfl rfl (by kernel_rfl) Try.func8 (by kernel_rfl)
    (of_decide_eq_true (by kernel_rfl)) (by unfold Func.isWrapper; rw [if_neg (of_decide_eq_false (by kernel_rfl))]; exact ⟨rfl, rfl⟩)
    (fun os started H enc _ => LawHeapOf.lifted os started H enc)
#print axioms fnExactHeapOf_holds
end Go.Proofs.Ytdmmjggkdkmeaaa
