/- FnExactFade: at every argument the program's Fade answers as the specification's; no condition. -/
import Derived.Test.YtpjfampfhofeaaaShK
import Derived.Test.YtpjfampfhofeaaaShI
import Derived.Test.YtpjfampfhofeaaaAcP
import Derived.Test.YtpjfampfhofeaaaAcC
import Derived.Test.YtpjfampfhofeaaaLawP
import Derived.Test.YtpjfampfhofeaaaRows
import Derived.Test.YtpjfampfhofeaaaChecked
import Derived.ProofKit
import Derived.OpenShut
import Derived.Carry
import Derived.ChangeMaps5
namespace Go.Proofs.Ytpjfampfhofeaaa
namespace LawFade
open Go.ChangeShapes Go.WideShapes Go.ChangeAt Go.RowKit Go.Joins Go.ChangeMaps

set_option maxHeartbeats 8000000 in
set_option maxRecDepth 100000 in
theorem walk (a : Option Addr) (c : Nat) (xs : List Ac) (hx : xs.length ≤ maxLen) (hzx : ∀ x ∈ xs, szAc x ≤ 9223372036854775807) (w : World) (h : Sq w a (flatAc xs)) :
    Calls Try.prog 9 #[.slice a xs.length c] w fun e w' => e = .returned (.bool true) ∧ Below w.heap.size w w' := by
  have H : Hid (Sq w a (flatAc xs)) := h
  have Hx : Hid (xs.length ≤ maxLen) := hx
  clear h hx
  go_enter Try.func9, Try.ntmps9
  go_wp2_with fail
  refine (szAccountS_c a c xs Hx.out hzx 1048576 (by omega) (by omega) _ H.out).mono ?_
  rintro e w1 ⟨r0, rfl, hr1, hr2, hr3, hb⟩
  have HB1 : Hid (Below w.heap.size w w1) := hb
  have hw1 : w.heap.size ≤ w1.heap.size := hb.size
  clear hb
  by_cases h2 : r0 < 0
  · clear hr3
    go_wp2_with fail
    go_ret
    exact ⟨rfl, HB1.out⟩
  · obtain ⟨hx1, hz1⟩ := hr3 (by omega)
    have hx2 : xs.length ≤ 1048576 := by omega
    have hz : ∀ x ∈ xs, x.nm.size ≤ 1048576 := fun x hx => by have := hz1 x hx; unfold szAc at this; omega
    have hr5 : r0 ≤ 1048576 := hr2
    clear hr3 hz1 hx1 hr2
    obtain ⟨r, hR⟩ : ∃ r, (fdL xs) = r := ⟨_, rfl⟩
    have hrl : r.length ≤ 1048576 := by rw [← hR]; exact lenFade hx2
    have HR : Hid ((fdL xs) = r) := hR
    clear hR
    go_wp2_with fail
    refine (toAccountS_c a c xs hx2 _ (H.out.below HB1.out)).mono ?_
    rintro e w2 ⟨gp, rfl, hgp, hr, hb⟩
    have HB2 : Hid (Below w.heap.size w w2) := below_then HB1.out hb
    have HXp2 : Hid (Row w2 gp (flatAc xs)) := hr
    have hlp : gp < w2.heap.size := hr.lt
    have hop : w1.heap.size ≤ w2.heap.size := hb.size
    clear hb hr HB1
    go_wp2_with fail
    refine (specFade_c _ _ xs hx2 hz _ (Sq.of_row HXp2.out)).mono ?_
    rintro e w3 ⟨vp, rfl, hans, hb⟩
    rw [HR.out] at hans
    have HB3 : Hid (Below w.heap.size w w3) := below_then HB2.out hb
    have HAp3 : Hid (AnsAc w2.heap.size w3.heap.size w3 r.length (flatAc r) vp) := hans
    have hqp : w2.heap.size ≤ w3.heap.size := hb.size
    clear hb hans HB2
    go_wp2_with fail
    refine (toAccountS_c a c xs hx2 _ (H.out.below HB3.out)).mono ?_
    rintro e w4 ⟨gx, rfl, hgx, hr, hb⟩
    have HB4 : Hid (Below w.heap.size w w4) := below_then HB3.out hb
    have HAp4 : Hid (AnsAc w2.heap.size w3.heap.size w4 r.length (flatAc r) vp) := HAp3.out.below hb
    have HXx4 : Hid (Row w4 gx (flatAc xs)) := hr
    have hlx : gx < w4.heap.size := hr.lt
    have hox : w3.heap.size ≤ w4.heap.size := hb.size
    clear hb hr HB3 HAp3
    go_wp2_with fail
    refine (implFade_c _ _ xs hx2 hz _ (Sq.of_row HXx4.out)).mono ?_
    rintro e w5 ⟨vg, rfl, hans, hb⟩
    rw [HR.out] at hans
    have HB5 : Hid (Below w.heap.size w w5) := below_then HB4.out hb
    have HAp5 : Hid (AnsAc w2.heap.size w3.heap.size w5 r.length (flatAc r) vp) := HAp4.out.below hb
    have HXx5 : Hid (Row w5 gx (flatAc xs)) := HXx4.out.below hb
    have HAg5 : Hid (AnsAc w4.heap.size w5.heap.size w5 r.length (flatAc r) vg) := hans
    have hqg : w4.heap.size ≤ w5.heap.size := hb.size
    clear hb hans HB4 HAp4 HXx4
    go_wp2_with fail
    refine (eq_ansAc HAg5.out HAp5.out hrl).mono ?_
    rintro e w6 ⟨rfl, hb⟩
    have HB6 : Hid (Below w.heap.size w w6) := below_then HB5.out hb
    have HAp6 : Hid (AnsAc w2.heap.size w3.heap.size w6 r.length (flatAc r) vp) := HAp5.out.below hb
    have HXx6 : Hid (Row w6 gx (flatAc xs)) := HXx5.out.below hb
    have HAg6 : Hid (AnsAc w4.heap.size w5.heap.size w6 r.length (flatAc r) vg) := HAg5.out.below hb
    clear hb HB5 HAp5 HXx5 HAg5
    go_wp2_with fail
    refine (toAccountS_c a c xs hx2 _ (H.out.below HB6.out)).mono ?_
    rintro e w7 ⟨gu, rfl, hgu, hr, hb⟩
    have HB7 : Hid (Below w.heap.size w w7) := below_then HB6.out hb
    have HAp7 : Hid (AnsAc w2.heap.size w3.heap.size w7 r.length (flatAc r) vp) := HAp6.out.below hb
    have HXx7 : Hid (Row w7 gx (flatAc xs)) := HXx6.out.below hb
    have HAg7 : Hid (AnsAc w4.heap.size w5.heap.size w7 r.length (flatAc r) vg) := HAg6.out.below hb
    have HXu7 : Hid (Row w7 gu (flatAc xs)) := hr
    have hlu : gu < w7.heap.size := hr.lt
    have hou : w6.heap.size ≤ w7.heap.size := hb.size
    clear hb hr HB6 HAp6 HXx6 HAg6
    go_wp2_with fail
    refine (eqAccountS_c _ _ _ _ xs hx2 _ (Sq.of_row HXx7.out) (Sq.of_row HXu7.out)).mono ?_
    rintro e w8 ⟨rfl, hb⟩
    have HB8 : Hid (Below w.heap.size w w8) := below_then HB7.out hb
    have HAp8 : Hid (AnsAc w2.heap.size w3.heap.size w8 r.length (flatAc r) vp) := HAp7.out.below hb
    have HXx8 : Hid (Row w8 gx (flatAc xs)) := HXx7.out.below hb
    have HAg8 : Hid (AnsAc w4.heap.size w5.heap.size w8 r.length (flatAc r) vg) := HAg7.out.below hb
    have HXu8 : Hid (Row w8 gu (flatAc xs)) := HXu7.out.below hb
    clear hb HB7 HAp7 HXx7 HAg7 HXu7
    go_wp2_with fail
    refine (mark_ansAc (k0 := 1) (B := gx) (T := gx + 1) (AnsAc.of_row (cap := xs.length) (flatAc_len xs) HXx8.out (Nat.le_refl _) (Nat.lt_succ_self _)) hx2 (by omega) (by omega)).mono ?_
    rintro e w9 ⟨rfl, hG, hk, hbw⟩
    have HB9 : Hid (Below w.heap.size w w9) := hbw w HB8.out (by omega)
    have HAp9 : Hid (AnsAc w2.heap.size w3.heap.size w9 r.length (flatAc r) vp) := HAp8.out.keep fun g' h1 h2 hr' => hk g' _ hr' (.inl (by omega))
    have HAg9 : Hid (AnsAc w4.heap.size w5.heap.size w9 r.length (flatAc r) vg) := HAg8.out.keep fun g' h1 h2 hr' => hk g' _ hr' (.inr (by omega))
    clear hG hk hbw HB8 HAp8 HAg8 HXx8
    generalize hM : 1 + 3 * xs.length = M
    have hM0 : (0 : Int) ≤ (M : Int) := by omega
    go_wp2_with fail
    refine (eq_ansAc HAg9.out HAp9.out hrl).mono ?_
    rintro e w10 ⟨rfl, hb⟩
    have HB10 : Hid (Below w.heap.size w w10) := below_then HB9.out hb
    have HAp10 : Hid (AnsAc w2.heap.size w3.heap.size w10 r.length (flatAc r) vp) := HAp9.out.below hb
    have HAg10 : Hid (AnsAc w4.heap.size w5.heap.size w10 r.length (flatAc r) vg) := HAg9.out.below hb
    clear hb HB9 HAp9 HAg9
    go_wp2_with fail
    refine (mark_ansAc (k0 := 1) HAg10.out hrl (by omega) (by omega)).mono ?_
    rintro e w11 ⟨rfl, hG, hk, hbw⟩
    have HB11 : Hid (Below w.heap.size w w11) := hbw w HB10.out (by omega)
    have HAp11 : Hid (AnsAc w2.heap.size w3.heap.size w11 r.length (flatAc r) vp) := HAp10.out.keep fun g' h1 h2 hr' => hk g' _ hr' (.inl (by omega))
    have HAg11 : Hid (AnsAc w4.heap.size w5.heap.size w11 r.length (upAc 1 r.length) vg) := hG
    clear hG hk hbw HB10 HAp10 HAg10
    have HH : Hid (∀ W : World, AnsAc w4.heap.size w5.heap.size W r.length (upAc 1 r.length) vg → Calls Try.prog 31 #[vg, .int .i64 1] W fun e w' => e = .returned (.int .i64 ((1 + 3 * r.length : Nat) : Int)) ∧ Below W.heap.size W w') := fun W h => held_ansAc (k0 := 1) h hrl (by omega) (by omega)
    generalize hKq : 1 + 3 * r.length = Kq at HH ⊢
    have hK0 : (0 : Int) ≤ (Kq : Int) := by omega
    clear hKq
    go_wp2_with fail
    refine (HH.out _ HAg11.out).mono ?_
    rintro e w12 ⟨rfl, hb⟩
    have HB12 : Hid (Below w.heap.size w w12) := below_then HB11.out hb
    have HAp12 : Hid (AnsAc w2.heap.size w3.heap.size w12 r.length (flatAc r) vp) := HAp11.out.below hb
    have HAg12 : Hid (AnsAc w4.heap.size w5.heap.size w12 r.length (upAc 1 r.length) vg) := HAg11.out.below hb
    clear hb HB11 HAp11 HAg11
    go_wp2_with fail
    refine (toAccountS_c a c xs hx2 _ (H.out.below HB12.out)).mono ?_
    rintro e w13 ⟨gv, rfl, hgv, hr, hb⟩
    have HB13 : Hid (Below w.heap.size w w13) := below_then HB12.out hb
    have HAp13 : Hid (AnsAc w2.heap.size w3.heap.size w13 r.length (flatAc r) vp) := HAp12.out.below hb
    have HAg13 : Hid (AnsAc w4.heap.size w5.heap.size w13 r.length (upAc 1 r.length) vg) := HAg12.out.below hb
    have HXv13 : Hid (Row w13 gv (flatAc xs)) := hr
    have hlv : gv < w13.heap.size := hr.lt
    have hov : w12.heap.size ≤ w13.heap.size := hb.size
    clear hb hr HB12 HAp12 HAg12
    go_wp2_with fail
    refine (implFade_c _ _ xs hx2 hz _ (Sq.of_row HXv13.out)).mono ?_
    rintro e w14 ⟨vh, rfl, hans, hb⟩
    rw [HR.out] at hans
    have HB14 : Hid (Below w.heap.size w w14) := below_then HB13.out hb
    have HAp14 : Hid (AnsAc w2.heap.size w3.heap.size w14 r.length (flatAc r) vp) := HAp13.out.below hb
    have HAg14 : Hid (AnsAc w4.heap.size w5.heap.size w14 r.length (upAc 1 r.length) vg) := HAg13.out.below hb
    have HAh14 : Hid (AnsAc w13.heap.size w14.heap.size w14 r.length (flatAc r) vh) := hans
    have hqh : w13.heap.size ≤ w14.heap.size := hb.size
    clear hb hans HB13 HAp13 HAg13
    go_wp2_with fail
    refine (eq_ansAc HAh14.out HAp14.out hrl).mono ?_
    rintro e w15 ⟨rfl, hb⟩
    have HB15 : Hid (Below w.heap.size w w15) := below_then HB14.out hb
    have HAp15 : Hid (AnsAc w2.heap.size w3.heap.size w15 r.length (flatAc r) vp) := HAp14.out.below hb
    have HAg15 : Hid (AnsAc w4.heap.size w5.heap.size w15 r.length (upAc 1 r.length) vg) := HAg14.out.below hb
    have HAh15 : Hid (AnsAc w13.heap.size w14.heap.size w15 r.length (flatAc r) vh) := HAh14.out.below hb
    clear hb HB14 HAp14 HAg14 HAh14
    go_wp2_with fail
    refine (HH.out _ HAg15.out).mono ?_
    rintro e w16 ⟨rfl, hb⟩
    have HB16 : Hid (Below w.heap.size w w16) := below_then HB15.out hb
    have HAp16 : Hid (AnsAc w2.heap.size w3.heap.size w16 r.length (flatAc r) vp) := HAp15.out.below hb
    have HAg16 : Hid (AnsAc w4.heap.size w5.heap.size w16 r.length (upAc 1 r.length) vg) := HAg15.out.below hb
    have HAh16 : Hid (AnsAc w13.heap.size w14.heap.size w16 r.length (flatAc r) vh) := HAh15.out.below hb
    clear hb HB15 HAp15 HAg15 HAh15
    go_wp2_with fail
    go_ret
    exact ⟨rfl, HB16.out⟩

set_option maxRecDepth 100000 in
theorem lifted (os : Os) (started : os.Started) (H : Type) (enc : TypeId × Value → H) :
    ReturnsInHanded {} Try.checked os 9 .any (Rows.fnExactFadeSpec.pre6 enc Try.prog Try.f9 Rows.fnExactFadeRow.domain false) (Rows.fnExactFadeSpec.post enc Try.prog Try.f9 false true false false) := by
  refine returnsInHanded_of_change (C := Try.checked) own started (by kernel_rfl) Try.func9
    (ChangeSpec.witness6 (enc := enc) (C := Try.checked) false ⟨#[], #[.slice none 0 0], []⟩ 8 (by kernel_rfl) (by kernel_rfl) (by kernel_rfl) (by kernel_rfl)) ?_
  intro W base args ds gs before hval0 hW _ _
  have hval : ∀ (j : Nat) t v, Try.f9.params[j]? = some t → args[j]? = some v → Value.okWide Try.prog W .any base t v := hval0
  have hW' := hW
  obtain ⟨p, q, hA0, hV, rfl, _, _⟩ := hW
  have hA : DataW.TrodAll enc Try.prog W 0 (fun _ => true) true Try.f9.params.toList args.toList ds p := hA0
  rw [Try.params9] at hA hval
  obtain ⟨v0, d0, rfl, rfl, h0⟩ := trodAll_one hA
  obtain ⟨rfl, rfl⟩ := trodVars_none hV
  have h1' := h0
  obtain ⟨fuel, hfuel⟩ := h1'
  obtain ⟨f1, n1, m1, rfl⟩ := okWide_slice Try.underlying39 (hval 0 39 v0 rfl rfl)
  obtain ⟨f, xs, m, hxv, hx, hs2, hsz⟩ := accounts_opened (v := .slice f1 n1 m1) hfuel
  obtain ⟨rfl, rfl, rfl⟩ : f1 = f ∧ n1 = xs.length ∧ m1 = m := by simpa using hxv
  clear hA0 hval0
  simp only [List.append_nil] at hW'
  refine (walk f1 m1 xs hx (fun x h => Nat.le_trans (hsz x h) (by unfold maxLen; decide)) W hs2).mono fun e W' ⟨he, hg⟩ => ?_
  subst he
  have hlt : ∀ x ∈ p, x.block < W.heap.size := fun x hx => by simpa using hW'.lt x hx
  have harg := Below.trod laidOutAll (by kernel_rfl) (of_decide_eq_true (by kernel_rfl)) h0 hg hlt
  exact ⟨_, rfl, _, _, _, [], _, [], hW', trodAll_mk1 (shut_bool Try.underlying4 _), trodAll_mk1 harg, rfl, hg.frame _, fun h => by cases h⟩
end LawFade

/-- At every argument: the law returns true, and the arguments read as they did. -/
theorem fnExactFade_holds : Rows.FnExactFadeSaid :=
  OpenClaim.holds_of_wide 9 Try.f9 rfl rfl rfl rfl rfl rfl rfl ⟨rfl, rfl, rfl, rfl, rfl⟩ rfl rfl rfl rfl rfl (by kernel_rfl) Try.func9 (by kernel_rfl)
    (of_decide_eq_true (by kernel_rfl)) (by unfold Func.isWrapper; rw [if_neg (of_decide_eq_false (by kernel_rfl))]; exact ⟨rfl, rfl⟩)
    (fun os started H enc _ => LawFade.lifted os started H enc)
#print axioms fnExactFade_holds
end Go.Proofs.Ytpjfampfhofeaaa
