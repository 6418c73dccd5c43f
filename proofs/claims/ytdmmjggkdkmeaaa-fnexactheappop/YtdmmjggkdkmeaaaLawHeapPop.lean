/- FnExactHeapPop: for every list of dues the program's HeapPop answers as the specification's, and its answer owns its memory; no condition. -/
import Derived.Test.YtdmmjggkdkmeaaaHqK
import Derived.Test.YtdmmjggkdkmeaaaDlP
import Derived.Test.YtdmmjggkdkmeaaaDlC
import Derived.Test.YtdmmjggkdkmeaaaLawP
import Derived.Test.YtdmmjggkdkmeaaaRows
import Derived.Test.YtdmmjggkdkmeaaaChecked
import Derived.ProofKit
import Derived.OpenShut
import Derived.Carry
namespace Go.Proofs.Ytdmmjggkdkmeaaa
namespace LawHeapPop
open Go.ChangeShapes Go.WideShapes Go.ChangeAt Go.RowKit Go.Joins

set_option maxHeartbeats 8000000 in
set_option maxRecDepth 100000 in
theorem walk (a : Option Addr) (c : Nat) (xs : List Du) (hx : xs.length ≤ maxLen) (w : World) (h : Sq w a (flatD xs)) :
    Calls Try.prog 7 #[.slice a xs.length c] w fun e w' => e = .returned (.bool true) ∧ Below w.heap.size w w' := by
  have H : Hid (Sq w a (flatD xs)) := h
  have Hx : Hid (xs.length ≤ maxLen) := hx
  clear h hx
  go_enter Try.func7, Try.ntmps7
  go_wp2_with fail
  have HB1 : Hid (Below w.heap.size w w) := Below.refl _ _
  refine (szDueS_c a xs.length c Hx.out 1048576 (by omega) (by omega) _).mono ?_
  rintro e w0 ⟨rfl, rfl⟩
  by_cases h2 : (1048576 : Int) - xs.length < 0
  · rw [if_pos h2]
    clear h2
    go_wp2_with fail
    go_ret
    exact ⟨rfl, HB1.out⟩
  · rw [if_neg h2]
    have hx2 : xs.length ≤ 1048576 := by omega
    obtain ⟨K, hK⟩ : ∃ K : Bool, (K = true ↔ POkp xs) := by
      by_cases hp : POkp xs
      · exact ⟨true, by simp [hp]⟩
      · exact ⟨false, by simp [hp]⟩
    have HK : Hid (K = true ↔ POkp xs) := hK
    clear hK
    obtain ⟨y, hy⟩ : ∃ y, (bif K then dg xs 0 else du0) = y := ⟨_, rfl⟩
    have HF : Hid ((bif K then dg xs 0 else du0) = y) := hy
    clear hy
    obtain ⟨r, hR⟩ : ∃ r, (bif K then dpop xs else []) = r := ⟨_, rfl⟩
    have hrl : r.length ≤ 1048576 := by rw [← hR]; exact by cases K <;> simp [dpop_len]; omega
    have HR : Hid ((bif K then dpop xs else []) = r) := hR
    clear hR
    clear h2
    go_wp2_with fail
    refine (toDueS_c a c xs hx2 _ (H.out.below HB1.out)).mono ?_
    rintro e w2 ⟨gp, rfl, hgp, hr, hb⟩
    have HB2 : Hid (Below w0.heap.size w0 w2) := below_then HB1.out hb
    have HXp2 : Hid (Row w2 gp (flatD xs)) := hr
    have hlp : gp < w2.heap.size := hr.lt
    have hop : w0.heap.size ≤ w2.heap.size := hb.size
    clear hb hr HB1
    go_wp2_with fail
    refine (specHeapPop_c _ _ xs hx2 (Nat.le_refl _) _ (Sq.of_row HXp2.out)).mono ?_
    rintro e w3 ⟨kp, vp, rfl, hk, hans, hcap, hb⟩
    obtain rfl : K = kp := by rw [Bool.eq_iff_iff, hk, HK.out]
    rw [HR.out] at hans
    rw [HF.out]
    have HB3 : Hid (Below w0.heap.size w0 w3) := below_then HB2.out hb
    have HAp3 : Hid (AnsD w2.heap.size w3.heap.size w3 r.length (flatD r) vp) := hans
    have hqp : w2.heap.size ≤ w3.heap.size := hb.size
    clear hb hans hk hcap HB2
    have hb := low_alloc w3 (.cells #[.int .i64 y.t, .int .i64 y.n] 30)
    have HB4 : Hid (Below w0.heap.size w0 (w3.alloc (.cells #[.int .i64 y.t, .int .i64 y.n] 30))) := below_then HB3.out hb
    have HAp4 : Hid (AnsD w2.heap.size w3.heap.size (w3.alloc (.cells #[.int .i64 y.t, .int .i64 y.n] 30)) r.length (flatD r) vp) := HAp3.out.below hb
    have HYp4 : Hid (Row (w3.alloc (.cells #[.int .i64 y.t, .int .i64 y.n] 30)) w3.heap.size [.int .i64 y.t, .int .i64 y.n]) := row_fresh w3 [.int .i64 y.t, .int .i64 y.n] 30
    have hzp : w3.heap.size < (w3.alloc (.cells #[.int .i64 y.t, .int .i64 y.n] 30)).heap.size := by simp [go_sem]
    clear hb HB3 HAp3
    go_wp2_with fail
    generalize (w3.alloc (.cells #[.int .i64 y.t, .int .i64 y.n] 30)) = w4 at HB4 HAp4 HYp4 hzp ⊢
    refine (toDueS_c a c xs hx2 _ (H.out.below HB4.out)).mono ?_
    rintro e w5 ⟨gx, rfl, hgx, hr, hb⟩
    have HB5 : Hid (Below w0.heap.size w0 w5) := below_then HB4.out hb
    have HAp5 : Hid (AnsD w2.heap.size w3.heap.size w5 r.length (flatD r) vp) := HAp4.out.below hb
    have HYp5 : Hid (Row w5 w3.heap.size [.int .i64 y.t, .int .i64 y.n]) := HYp4.out.below hb
    have HXx5 : Hid (Row w5 gx (flatD xs)) := hr
    have hlx : gx < w5.heap.size := hr.lt
    have hox : w4.heap.size ≤ w5.heap.size := hb.size
    clear hb hr HB4 HAp4 HYp4
    go_wp2_with fail
    refine (implHeapPop_c _ _ xs hx2 _ (Sq.of_row HXx5.out)).mono ?_
    rintro e w6 ⟨kg, vg, rfl, hk, hans, hcap, hb⟩
    obtain rfl : K = kg := by rw [Bool.eq_iff_iff, hk, HK.out]
    rw [HR.out] at hans
    rw [HF.out]
    have HB6 : Hid (Below w0.heap.size w0 w6) := below_then HB5.out hb
    have HAp6 : Hid (AnsD w2.heap.size w3.heap.size w6 r.length (flatD r) vp) := HAp5.out.below hb
    have HYp6 : Hid (Row w6 w3.heap.size [.int .i64 y.t, .int .i64 y.n]) := HYp5.out.below hb
    have HXx6 : Hid (Row w6 gx (flatD xs)) := HXx5.out.below hb
    have HAg6 : Hid (AnsD w5.heap.size w6.heap.size w6 r.length (flatD r) vg) := hans
    have hqg : w5.heap.size ≤ w6.heap.size := hb.size
    clear hb hans hk hcap HB5 HAp5 HYp5 HXx5
    have hb := low_alloc w6 (.cells #[.int .i64 y.t, .int .i64 y.n] 30)
    have HB7 : Hid (Below w0.heap.size w0 (w6.alloc (.cells #[.int .i64 y.t, .int .i64 y.n] 30))) := below_then HB6.out hb
    have HAp7 : Hid (AnsD w2.heap.size w3.heap.size (w6.alloc (.cells #[.int .i64 y.t, .int .i64 y.n] 30)) r.length (flatD r) vp) := HAp6.out.below hb
    have HYp7 : Hid (Row (w6.alloc (.cells #[.int .i64 y.t, .int .i64 y.n] 30)) w3.heap.size [.int .i64 y.t, .int .i64 y.n]) := HYp6.out.below hb
    have HXx7 : Hid (Row (w6.alloc (.cells #[.int .i64 y.t, .int .i64 y.n] 30)) gx (flatD xs)) := HXx6.out.below hb
    have HAg7 : Hid (AnsD w5.heap.size w6.heap.size (w6.alloc (.cells #[.int .i64 y.t, .int .i64 y.n] 30)) r.length (flatD r) vg) := HAg6.out.below hb
    have HYg7 : Hid (Row (w6.alloc (.cells #[.int .i64 y.t, .int .i64 y.n] 30)) w6.heap.size [.int .i64 y.t, .int .i64 y.n]) := row_fresh w6 [.int .i64 y.t, .int .i64 y.n] 30
    have hzg : w6.heap.size < (w6.alloc (.cells #[.int .i64 y.t, .int .i64 y.n] 30)).heap.size := by simp [go_sem]
    clear hb HB6 HAp6 HYp6 HXx6 HAg6
    have c00 := HYp7.out.cell 0 _ rfl
    have c01 := HYp7.out.cell 1 _ rfl
    have c10 := HYg7.out.cell 0 _ rfl
    have c11 := HYg7.out.cell 1 _ rfl
    go_wp2_with fail
    clear c00 c01 c10 c11
    generalize (w6.alloc (.cells #[.int .i64 y.t, .int .i64 y.n] 30)) = w7 at HB7 HAp7 HYp7 HXx7 HAg7 HYg7 hzg ⊢
    refine (eqDue_c y _).mono ?_
    rintro e w8 ⟨rfl, hb⟩
    have HB8 : Hid (Below w0.heap.size w0 w8) := below_then HB7.out hb
    have HAp8 : Hid (AnsD w2.heap.size w3.heap.size w8 r.length (flatD r) vp) := HAp7.out.below hb
    have HYp8 : Hid (Row w8 w3.heap.size [.int .i64 y.t, .int .i64 y.n]) := HYp7.out.below hb
    have HXx8 : Hid (Row w8 gx (flatD xs)) := HXx7.out.below hb
    have HAg8 : Hid (AnsD w5.heap.size w6.heap.size w8 r.length (flatD r) vg) := HAg7.out.below hb
    have HYg8 : Hid (Row w8 w6.heap.size [.int .i64 y.t, .int .i64 y.n]) := HYg7.out.below hb
    clear hb HB7 HAp7 HYp7 HXx7 HAg7 HYg7
    go_wp2_with fail
    refine (eq_ansD HAg8.out HAp8.out hrl).mono ?_
    rintro e w9 ⟨rfl, hb⟩
    have HB9 : Hid (Below w0.heap.size w0 w9) := below_then HB8.out hb
    have HAp9 : Hid (AnsD w2.heap.size w3.heap.size w9 r.length (flatD r) vp) := HAp8.out.below hb
    have HYp9 : Hid (Row w9 w3.heap.size [.int .i64 y.t, .int .i64 y.n]) := HYp8.out.below hb
    have HXx9 : Hid (Row w9 gx (flatD xs)) := HXx8.out.below hb
    have HAg9 : Hid (AnsD w5.heap.size w6.heap.size w9 r.length (flatD r) vg) := HAg8.out.below hb
    have HYg9 : Hid (Row w9 w6.heap.size [.int .i64 y.t, .int .i64 y.n]) := HYg8.out.below hb
    clear hb HB8 HAp8 HYp8 HXx8 HAg8 HYg8
    go_wp2_with fail
    refine (toDueS_c a c xs hx2 _ (H.out.below HB9.out)).mono ?_
    rintro e w10 ⟨gu, rfl, hgu, hr, hb⟩
    have HB10 : Hid (Below w0.heap.size w0 w10) := below_then HB9.out hb
    have HAp10 : Hid (AnsD w2.heap.size w3.heap.size w10 r.length (flatD r) vp) := HAp9.out.below hb
    have HYp10 : Hid (Row w10 w3.heap.size [.int .i64 y.t, .int .i64 y.n]) := HYp9.out.below hb
    have HXx10 : Hid (Row w10 gx (flatD xs)) := HXx9.out.below hb
    have HAg10 : Hid (AnsD w5.heap.size w6.heap.size w10 r.length (flatD r) vg) := HAg9.out.below hb
    have HYg10 : Hid (Row w10 w6.heap.size [.int .i64 y.t, .int .i64 y.n]) := HYg9.out.below hb
    have HXu10 : Hid (Row w10 gu (flatD xs)) := hr
    have hlu : gu < w10.heap.size := hr.lt
    have hou : w9.heap.size ≤ w10.heap.size := hb.size
    clear hb hr HB9 HAp9 HYp9 HXx9 HAg9 HYg9
    go_wp2_with fail
    refine (eqDueS_c _ _ _ _ xs hx2 _ (Sq.of_row HXx10.out) (Sq.of_row HXu10.out)).mono ?_
    rintro e w11 ⟨rfl, hb⟩
    have HB11 : Hid (Below w0.heap.size w0 w11) := below_then HB10.out hb
    have HAp11 : Hid (AnsD w2.heap.size w3.heap.size w11 r.length (flatD r) vp) := HAp10.out.below hb
    have HYp11 : Hid (Row w11 w3.heap.size [.int .i64 y.t, .int .i64 y.n]) := HYp10.out.below hb
    have HXx11 : Hid (Row w11 gx (flatD xs)) := HXx10.out.below hb
    have HAg11 : Hid (AnsD w5.heap.size w6.heap.size w11 r.length (flatD r) vg) := HAg10.out.below hb
    have HYg11 : Hid (Row w11 w6.heap.size [.int .i64 y.t, .int .i64 y.n]) := HYg10.out.below hb
    have HXu11 : Hid (Row w11 gu (flatD xs)) := HXu10.out.below hb
    clear hb HB10 HAp10 HYp10 HXx10 HAg10 HYg10 HXu10
    go_wp2_with fail
    refine (mark_ansD (k0 := 1) (B := gx) (T := gx + 1) (AnsD.of_row (cap := xs.length) (flatD_len xs) HXx11.out (Nat.le_refl _) (Nat.lt_succ_self _)) hx2 (by omega)).mono ?_
    rintro e w12 ⟨rfl, hG, hk, hbw⟩
    have HB12 : Hid (Below w0.heap.size w0 w12) := hbw w0 HB11.out (by omega)
    have HAp12 : Hid (AnsD w2.heap.size w3.heap.size w12 r.length (flatD r) vp) := HAp11.out.keep fun g' h1 h2 hr' => hk g' _ hr' (.inl (by omega))
    have HYp12 : Hid (Row w12 w3.heap.size [.int .i64 y.t, .int .i64 y.n]) := hk _ _ HYp11.out (.inl (by omega))
    have HAg12 : Hid (AnsD w5.heap.size w6.heap.size w12 r.length (flatD r) vg) := HAg11.out.keep fun g' h1 h2 hr' => hk g' _ hr' (.inr (by omega))
    have HYg12 : Hid (Row w12 w6.heap.size [.int .i64 y.t, .int .i64 y.n]) := hk _ _ HYg11.out (.inr (by omega))
    clear hG hk hbw HB11 HAp11 HYp11 HAg11 HYg11 HXx11
    generalize hM : 1 + 2 * xs.length = M
    have hM0 : (0 : Int) ≤ (M : Int) := by omega
    have c00 := HYp12.out.cell 0 _ rfl
    have c01 := HYp12.out.cell 1 _ rfl
    have c10 := HYg12.out.cell 0 _ rfl
    have c11 := HYg12.out.cell 1 _ rfl
    go_wp2_with fail
    clear c00 c01 c10 c11
    refine (eqDue_c y _).mono ?_
    rintro e w13 ⟨rfl, hb⟩
    have HB13 : Hid (Below w0.heap.size w0 w13) := below_then HB12.out hb
    have HAp13 : Hid (AnsD w2.heap.size w3.heap.size w13 r.length (flatD r) vp) := HAp12.out.below hb
    have HYp13 : Hid (Row w13 w3.heap.size [.int .i64 y.t, .int .i64 y.n]) := HYp12.out.below hb
    have HAg13 : Hid (AnsD w5.heap.size w6.heap.size w13 r.length (flatD r) vg) := HAg12.out.below hb
    have HYg13 : Hid (Row w13 w6.heap.size [.int .i64 y.t, .int .i64 y.n]) := HYg12.out.below hb
    clear hb HB12 HAp12 HYp12 HAg12 HYg12
    go_wp2_with fail
    refine (eq_ansD HAg13.out HAp13.out hrl).mono ?_
    rintro e w14 ⟨rfl, hb⟩
    have HB14 : Hid (Below w0.heap.size w0 w14) := below_then HB13.out hb
    have HAp14 : Hid (AnsD w2.heap.size w3.heap.size w14 r.length (flatD r) vp) := HAp13.out.below hb
    have HYp14 : Hid (Row w14 w3.heap.size [.int .i64 y.t, .int .i64 y.n]) := HYp13.out.below hb
    have HAg14 : Hid (AnsD w5.heap.size w6.heap.size w14 r.length (flatD r) vg) := HAg13.out.below hb
    have HYg14 : Hid (Row w14 w6.heap.size [.int .i64 y.t, .int .i64 y.n]) := HYg13.out.below hb
    clear hb HB13 HAp13 HYp13 HAg13 HYg13
    go_wp2_with fail
    refine (mark_ansD (k0 := 1) HAg14.out hrl (by omega)).mono ?_
    rintro e w15 ⟨rfl, hG, hk, hbw⟩
    have HB15 : Hid (Below w0.heap.size w0 w15) := hbw w0 HB14.out (by omega)
    have HAp15 : Hid (AnsD w2.heap.size w3.heap.size w15 r.length (flatD r) vp) := HAp14.out.keep fun g' h1 h2 hr' => hk g' _ hr' (.inl (by omega))
    have HYp15 : Hid (Row w15 w3.heap.size [.int .i64 y.t, .int .i64 y.n]) := hk _ _ HYp14.out (.inl (by omega))
    have HYg15 : Hid (Row w15 w6.heap.size [.int .i64 y.t, .int .i64 y.n]) := hk _ _ HYg14.out (.inr (by omega))
    have HAg15 : Hid (AnsD w5.heap.size w6.heap.size w15 r.length (upFrom 1 (2 * r.length)) vg) := hG
    clear hG hk hbw HB14 HAp14 HYp14 HYg14 HAg14
    have HH : Hid (∀ W : World, AnsD w5.heap.size w6.heap.size W r.length (upFrom 1 (2 * r.length)) vg → Calls Try.prog 25 #[vg, .int .i64 1] W fun e w' => e = .returned (.int .i64 ((1 + 2 * r.length : Nat) : Int)) ∧ Below W.heap.size W w') := fun W h => held_ansD (k0 := 1) h hrl (by omega)
    generalize hKq : 1 + 2 * r.length = Kq at HH ⊢
    have hK0 : (0 : Int) ≤ (Kq : Int) := by omega
    clear hKq
    go_wp2_with fail
    refine (HH.out _ HAg15.out).mono ?_
    rintro e w16 ⟨rfl, hb⟩
    have HB16 : Hid (Below w0.heap.size w0 w16) := below_then HB15.out hb
    have HAp16 : Hid (AnsD w2.heap.size w3.heap.size w16 r.length (flatD r) vp) := HAp15.out.below hb
    have HYp16 : Hid (Row w16 w3.heap.size [.int .i64 y.t, .int .i64 y.n]) := HYp15.out.below hb
    have HYg16 : Hid (Row w16 w6.heap.size [.int .i64 y.t, .int .i64 y.n]) := HYg15.out.below hb
    have HAg16 : Hid (AnsD w5.heap.size w6.heap.size w16 r.length (upFrom 1 (2 * r.length)) vg) := HAg15.out.below hb
    clear hb HB15 HAp15 HYp15 HYg15 HAg15
    go_wp2_with fail
    refine (toDueS_c a c xs hx2 _ (H.out.below HB16.out)).mono ?_
    rintro e w17 ⟨gv, rfl, hgv, hr, hb⟩
    have HB17 : Hid (Below w0.heap.size w0 w17) := below_then HB16.out hb
    have HAp17 : Hid (AnsD w2.heap.size w3.heap.size w17 r.length (flatD r) vp) := HAp16.out.below hb
    have HYp17 : Hid (Row w17 w3.heap.size [.int .i64 y.t, .int .i64 y.n]) := HYp16.out.below hb
    have HAg17 : Hid (AnsD w5.heap.size w6.heap.size w17 r.length (upFrom 1 (2 * r.length)) vg) := HAg16.out.below hb
    have HXv17 : Hid (Row w17 gv (flatD xs)) := hr
    have hlv : gv < w17.heap.size := hr.lt
    have hov : w16.heap.size ≤ w17.heap.size := hb.size
    clear hb hr HB16 HAp16 HYp16 HAg16
    go_wp2_with fail
    refine (implHeapPop_c _ _ xs hx2 _ (Sq.of_row HXv17.out)).mono ?_
    rintro e w18 ⟨kh, vh, rfl, hk, hans, hcap, hb⟩
    obtain rfl : K = kh := by rw [Bool.eq_iff_iff, hk, HK.out]
    rw [HR.out] at hans
    rw [HF.out]
    have HB18 : Hid (Below w0.heap.size w0 w18) := below_then HB17.out hb
    have HAp18 : Hid (AnsD w2.heap.size w3.heap.size w18 r.length (flatD r) vp) := HAp17.out.below hb
    have HYp18 : Hid (Row w18 w3.heap.size [.int .i64 y.t, .int .i64 y.n]) := HYp17.out.below hb
    have HAg18 : Hid (AnsD w5.heap.size w6.heap.size w18 r.length (upFrom 1 (2 * r.length)) vg) := HAg17.out.below hb
    have HAh18 : Hid (AnsD w17.heap.size w18.heap.size w18 r.length (flatD r) vh) := hans
    have hqh : w17.heap.size ≤ w18.heap.size := hb.size
    clear hb hans hk hcap HB17 HAp17 HYp17 HAg17
    have hb := low_alloc w18 (.cells #[.int .i64 y.t, .int .i64 y.n] 30)
    have HB19 : Hid (Below w0.heap.size w0 (w18.alloc (.cells #[.int .i64 y.t, .int .i64 y.n] 30))) := below_then HB18.out hb
    have HAp19 : Hid (AnsD w2.heap.size w3.heap.size (w18.alloc (.cells #[.int .i64 y.t, .int .i64 y.n] 30)) r.length (flatD r) vp) := HAp18.out.below hb
    have HYp19 : Hid (Row (w18.alloc (.cells #[.int .i64 y.t, .int .i64 y.n] 30)) w3.heap.size [.int .i64 y.t, .int .i64 y.n]) := HYp18.out.below hb
    have HAg19 : Hid (AnsD w5.heap.size w6.heap.size (w18.alloc (.cells #[.int .i64 y.t, .int .i64 y.n] 30)) r.length (upFrom 1 (2 * r.length)) vg) := HAg18.out.below hb
    have HAh19 : Hid (AnsD w17.heap.size w18.heap.size (w18.alloc (.cells #[.int .i64 y.t, .int .i64 y.n] 30)) r.length (flatD r) vh) := HAh18.out.below hb
    have HYh19 : Hid (Row (w18.alloc (.cells #[.int .i64 y.t, .int .i64 y.n] 30)) w18.heap.size [.int .i64 y.t, .int .i64 y.n]) := row_fresh w18 [.int .i64 y.t, .int .i64 y.n] 30
    have hzh : w18.heap.size < (w18.alloc (.cells #[.int .i64 y.t, .int .i64 y.n] 30)).heap.size := by simp [go_sem]
    clear hb HB18 HAp18 HYp18 HAg18 HAh18
    have c00 := HYp19.out.cell 0 _ rfl
    have c01 := HYp19.out.cell 1 _ rfl
    have c10 := HYh19.out.cell 0 _ rfl
    have c11 := HYh19.out.cell 1 _ rfl
    go_wp2_with fail
    clear c00 c01 c10 c11
    generalize (w18.alloc (.cells #[.int .i64 y.t, .int .i64 y.n] 30)) = w19 at HB19 HAp19 HYp19 HAg19 HAh19 HYh19 hzh ⊢
    refine (eqDue_c y _).mono ?_
    rintro e w20 ⟨rfl, hb⟩
    have HB20 : Hid (Below w0.heap.size w0 w20) := below_then HB19.out hb
    have HAp20 : Hid (AnsD w2.heap.size w3.heap.size w20 r.length (flatD r) vp) := HAp19.out.below hb
    have HYp20 : Hid (Row w20 w3.heap.size [.int .i64 y.t, .int .i64 y.n]) := HYp19.out.below hb
    have HAg20 : Hid (AnsD w5.heap.size w6.heap.size w20 r.length (upFrom 1 (2 * r.length)) vg) := HAg19.out.below hb
    have HAh20 : Hid (AnsD w17.heap.size w18.heap.size w20 r.length (flatD r) vh) := HAh19.out.below hb
    have HYh20 : Hid (Row w20 w18.heap.size [.int .i64 y.t, .int .i64 y.n]) := HYh19.out.below hb
    clear hb HB19 HAp19 HYp19 HAg19 HAh19 HYh19
    go_wp2_with fail
    refine (eq_ansD HAh20.out HAp20.out hrl).mono ?_
    rintro e w21 ⟨rfl, hb⟩
    have HB21 : Hid (Below w0.heap.size w0 w21) := below_then HB20.out hb
    have HAp21 : Hid (AnsD w2.heap.size w3.heap.size w21 r.length (flatD r) vp) := HAp20.out.below hb
    have HYp21 : Hid (Row w21 w3.heap.size [.int .i64 y.t, .int .i64 y.n]) := HYp20.out.below hb
    have HAg21 : Hid (AnsD w5.heap.size w6.heap.size w21 r.length (upFrom 1 (2 * r.length)) vg) := HAg20.out.below hb
    have HAh21 : Hid (AnsD w17.heap.size w18.heap.size w21 r.length (flatD r) vh) := HAh20.out.below hb
    have HYh21 : Hid (Row w21 w18.heap.size [.int .i64 y.t, .int .i64 y.n]) := HYh20.out.below hb
    clear hb HB20 HAp20 HYp20 HAg20 HAh20 HYh20
    go_wp2_with fail
    refine (HH.out _ HAg21.out).mono ?_
    rintro e w22 ⟨rfl, hb⟩
    have HB22 : Hid (Below w0.heap.size w0 w22) := below_then HB21.out hb
    have HAp22 : Hid (AnsD w2.heap.size w3.heap.size w22 r.length (flatD r) vp) := HAp21.out.below hb
    have HYp22 : Hid (Row w22 w3.heap.size [.int .i64 y.t, .int .i64 y.n]) := HYp21.out.below hb
    have HAg22 : Hid (AnsD w5.heap.size w6.heap.size w22 r.length (upFrom 1 (2 * r.length)) vg) := HAg21.out.below hb
    have HAh22 : Hid (AnsD w17.heap.size w18.heap.size w22 r.length (flatD r) vh) := HAh21.out.below hb
    have HYh22 : Hid (Row w22 w18.heap.size [.int .i64 y.t, .int .i64 y.n]) := HYh21.out.below hb
    clear hb HB21 HAp21 HYp21 HAg21 HAh21 HYh21
    go_wp2_with fail
    go_ret
    exact ⟨rfl, HB22.out⟩

set_option maxRecDepth 100000 in
theorem lifted (os : Os) (started : os.Started) (H : Type) (enc : TypeId × Value → H) :
    ReturnsInHanded {} Try.checked os 7 .any (Rows.fnExactHeapPopSpec.pre6 enc Try.prog Try.f7 Rows.fnExactHeapPopRow.domain false) (Rows.fnExactHeapPopSpec.post enc Try.prog Try.f7 false true false false) := by
  refine returnsInHanded_of_change (C := Try.checked) own started (by kernel_rfl) Try.func7
    (ChangeSpec.witness6 (enc := enc) (C := Try.checked) false ⟨#[], #[.slice none 0 0], []⟩ 8 (by kernel_rfl) (by kernel_rfl) (by kernel_rfl) (by kernel_rfl)) ?_
  intro W base args ds gs before hval0 hW _ _
  have hval : ∀ (j : Nat) t v, Try.f7.params[j]? = some t → args[j]? = some v → Value.okWide Try.prog W .any base t v := hval0
  have hW' := hW
  obtain ⟨p, q, hA0, hV, rfl, _, _⟩ := hW
  have hA : DataW.TrodAll enc Try.prog W 0 (fun _ => true) true Try.f7.params.toList args.toList ds p := hA0
  rw [Try.params7] at hA hval
  obtain ⟨v0, d0, rfl, rfl, h0⟩ := trodAll_one hA
  obtain ⟨rfl, rfl⟩ := trodVars_none hV
  have h1' := h0
  obtain ⟨fuel, hfuel⟩ := h1'
  obtain ⟨f1, n1, m1, rfl⟩ := okWide_slice Try.underlying36 (hval 0 36 v0 rfl rfl)
  obtain ⟨f, xs, m, hxv, hx, hs2⟩ := dues_opened (v := .slice f1 n1 m1) hfuel
  obtain ⟨rfl, rfl, rfl⟩ : f1 = f ∧ n1 = xs.length ∧ m1 = m := by simpa using hxv
  clear hA0 hval0
  simp only [List.append_nil] at hW'
  refine (walk f1 m1 xs hx W hs2).mono fun e W' ⟨he, hg⟩ => ?_
  subst he
  have hlt : ∀ x ∈ p, x.block < W.heap.size := fun x hx => by simpa using hW'.lt x hx
  have harg := Below.trod laidOutAll (by kernel_rfl) (of_decide_eq_true (by kernel_rfl)) h0 hg hlt
  exact ⟨_, rfl, _, _, _, [], _, [], hW', trodAll_mk1 (shut_bool Try.underlying4 _), trodAll_mk1 harg, rfl, hg.frame _, fun h => by cases h⟩
end LawHeapPop

/-- For every list of dues: the law returns true, and the list reads as it did. -/
theorem fnExactHeapPop_holds : Rows.FnExactHeapPopSaid :=
  OpenClaim.holds_of_wide 7 Try.f7 rfl rfl rfl rfl rfl rfl rfl ⟨rfl, rfl, rfl, rfl, rfl⟩ rfl rfl rfl rfl rfl (by kernel_rfl) Try.func7 (by kernel_rfl)
    (of_decide_eq_true (by kernel_rfl)) (by unfold Func.isWrapper; rw [if_neg (of_decide_eq_false (by kernel_rfl))]; exact ⟨rfl, rfl⟩)
    (fun os started H enc _ => LawHeapPop.lifted os started H enc)
#print axioms fnExactHeapPop_holds
end Go.Proofs.Ytdmmjggkdkmeaaa
