/- Accounts: the specification's AccountsOk and AccountAt. -/
import Derived.Test.YtpjfampfhofeaaaShA
namespace Go.Proofs.Ytpjfampfhofeaaa
open Go.ChangeShapes Go.WideShapes Go.ChangeAt Go.RowKit

set_option maxHeartbeats 4000000 in
set_option maxRecDepth 100000 in
theorem specAccountsOk_c (b : Option Addr) (d : Nat) (l : List Ac) (hl : l.length ≤ 1048576) (hz : ∀ x ∈ l, x.nm.size ≤ 1048576) (w : World) (h : Sq w b (flatAc l)) :
    Calls Try.prog 25 #[.slice b l.length d] w (Says w (AOk l)) := by
  have H : Hid (Sq w b (flatAc l)) := h
  have HZ : Hid (∀ x ∈ l, x.nm.size ≤ 1048576) := hz
  clear h hz
  by_cases h12 : 12 < l.length
  · have hi : (12 : Int) < (l.length : Int) := by omega
    have HN : Hid (¬ AOk l) := fun t => by have := t.1; omega
    go_enter Try.func25, Try.ntmps25
    go_wp2_with fail
    go_ret
    exact says_no rfl HN.out (Below.refl _ _)
  · have hi : ¬ (12 : Int) < (l.length : Int) := by omega
    go_enter Try.func25, Try.ntmps25
    go_wp2_with fail
    go_loopw [10] (fun i wr => ∃ j : Nat, j ≤ l.length ∧ i = .int .i64 j ∧ ATo l j ∧ Below w.heap.size w wr) (fun i _ => l.length - (intOf i).toNat)
    case atStart => exact ⟨0, Nat.zero_le _, rfl, fun i hi => by omega, Below.refl _ _⟩
    case round =>
      obtain ⟨j, hj, rfl, hto, hb⟩ := hrel
      have HI : Hid (ATo l j) := hto
      have HB : Hid (Below w.heap.size w wr) := hb
      clear hto hb
      by_cases hlt : j < l.length
      · have hj0 : (0 : Int) ≤ (j : Int) := by omega
        have hj1 : (j : Int) < (l.length : Int) := by omega
        have HX : Hid (l[j]? = some l[j]) := List.getElem?_eq_getElem hlt
        have HG : Hid (ag l j = l[j]) := ag_eq hlt
        have HS : Hid (l[j].nm.size ≤ 1048576) := HZ.out _ (List.getElem_mem hlt)
        obtain ⟨p, rfl⟩ := H.out.some_ofAc j hlt
        generalize l[j] = x at HX HG HS
        have c0 := (H.out.below HB.out).account0 HX.out
        have c1 := (H.out.below HB.out).accountK HX.out 1 (by decide) _ rfl
        have c2 := (H.out.below HB.out).accountK HX.out 2 (by decide) _ rfl
        go_wp2_with fail
        have HX3 : Hid (Row (wr.alloc (.cells #[.string x.nm, .int .i64 x.sh, .int .i64 x.us] 30)) wr.heap.size [.string x.nm, .int .i64 x.sh, .int .i64 x.us]) := row_fresh wr [.string x.nm, .int .i64 x.sh, .int .i64 x.us] 30
        have HB3 : Hid (Below w.heap.size w (wr.alloc (.cells #[.string x.nm, .int .i64 x.sh, .int .i64 x.us] 30))) := behind_alloc HB.out _
        generalize wr.alloc (.cells #[.string x.nm, .int .i64 x.sh, .int .i64 x.us] 30) = U at HX3 HB3 ⊢
        generalize wr.heap.size = X at HX3 ⊢
        have HS3 : Hid (Sq U (some p) (flatAc l)) := H.out.below HB3.out
        clear c0 c1 c2 HB
        have hsome := beh_some U
        have x0 := Beh.row HX3.out 0 _ rfl
        have x1 := Beh.row HX3.out 1 _ rfl
        have x2 := Beh.row HX3.out 2 _ rfl
        have HW : Hid (∀ W : World, Calls Try.prog 22 #[.string x.nm] W fun e w' => e = .returned (.bool (wordB x.nm)) ∧ w' = W) := fun W => specWordOk_c x.nm HS.out W
        have HU : Hid (∀ W : World, Calls Try.prog 49 #[.int .i64 x.us] W fun e w' => e = .returned (.bool (useB x.us)) ∧ w' = W) := fun W => l11Used_c x.us W
        have HNo : Hid (accB x = false → ¬ AOk l) := fun h t => by have := (t.2 j hlt).1; rw [HG.out, h] at this; cases this
        cases hw : wordB x.nm
        · have HN : Hid (¬ AOk l) := HNo.out (by simp [accB, hw])
          rw [hw] at HW
          clear hw
          (refine wp_region_beh (by kernel_rfl) (by kernel_rfl) ?_; (repeat (go_big_quiet_step (first | (go_at_call 22; with_reducible exact calls_beh_same (HW.out _)) | (go_at_call 49; with_reducible exact calls_beh_same (HU.out _))))); refine wpQuiet_nil ?_; rintro ⟨w2, hb2⟩; have HB4 : Hid (Below w.heap.size w w2) := below_then HB3.out hb2; go_wp2_with fail; go_ret; exact says_no rfl HN.out HB4.out)
        · rw [hw] at HW
          by_cases hj00 : j = 0
          · have hg0 : decide (0 < j) = false := by simp; omega
            have HI2 : Hid (accB x = true → ATo l (j + 1)) := fun ha i hi => by
              have e : i = j := by omega
              subst e
              exact ⟨by rw [HG.out]; exact ha, fun h => by omega⟩
            have HAc : Hid (accB x = (decide (1 ≤ x.sh) && (decide (x.sh ≤ 1000) && useB x.us))) := by show _ = _; rw [accB, hw, Bool.true_and]
            clear hw hj00 HI
            by_cases h1 : x.sh < 1
            · have HN : Hid (¬ AOk l) := HNo.out (by rw [HAc.out]; simp; omega)
              have g1 : decide (x.sh < 1) = true := decide_eq_true h1
              clear HAc HI2
              (refine wp_region_beh (by kernel_rfl) (by kernel_rfl) ?_; (repeat (go_big_quiet_step (first | (go_at_call 22; with_reducible exact calls_beh_same (HW.out _)) | (go_at_call 49; with_reducible exact calls_beh_same (HU.out _))))); refine wpQuiet_nil ?_; rintro ⟨w2, hb2⟩; have HB4 : Hid (Below w.heap.size w w2) := below_then HB3.out hb2; go_wp2_with fail; go_ret; exact says_no rfl HN.out HB4.out)
            · have g1 : decide (x.sh < 1) = false := decide_eq_false h1
              by_cases h2 : 1000 < x.sh
              · have HN : Hid (¬ AOk l) := HNo.out (by rw [HAc.out]; simp; omega)
                have g2 : decide (1000 < x.sh) = true := decide_eq_true h2
                clear HAc HI2
                (refine wp_region_beh (by kernel_rfl) (by kernel_rfl) ?_; (repeat (go_big_quiet_step (first | (go_at_call 22; with_reducible exact calls_beh_same (HW.out _)) | (go_at_call 49; with_reducible exact calls_beh_same (HU.out _))))); refine wpQuiet_nil ?_; rintro ⟨w2, hb2⟩; have HB4 : Hid (Below w.heap.size w w2) := below_then HB3.out hb2; go_wp2_with fail; go_ret; exact says_no rfl HN.out HB4.out)
              · have g2 : decide (1000 < x.sh) = false := decide_eq_false h2
                cases hu : useB x.us
                · have HN : Hid (¬ AOk l) := HNo.out (by rw [HAc.out, hu]; simp)
                  rw [hu] at HU
                  clear HAc HI2 hu
                  (refine wp_region_beh (by kernel_rfl) (by kernel_rfl) ?_; (repeat (go_big_quiet_step (first | (go_at_call 22; with_reducible exact calls_beh_same (HW.out _)) | (go_at_call 49; with_reducible exact calls_beh_same (HU.out _))))); refine wpQuiet_nil ?_; rintro ⟨w2, hb2⟩; have HB4 : Hid (Below w.heap.size w w2) := below_then HB3.out hb2; go_wp2_with fail; go_ret; exact says_no rfl HN.out HB4.out)
                · have HI3 : Hid (ATo l (j + 1)) := HI2.out (by rw [HAc.out, hu]; simp; omega)
                  rw [hu] at HU
                  clear HAc HI2 hu
                  refine wp_region_beh (by kernel_rfl) (by kernel_rfl) ?_; (repeat (go_big_quiet_step (first | (go_at_call 22; with_reducible exact calls_beh_same (HW.out _)) | (go_at_call 49; with_reducible exact calls_beh_same (HU.out _))))); refine wpQuiet_nil ?_; rintro ⟨w2, hb2⟩; have HB4 : Hid (Below w.heap.size w w2) := below_then HB3.out hb2
                  go_wp2_with fail
                  go_roundw
                  case rel => exact ⟨j + 1, by omega, by go_num, HI3.out, HB4.out⟩
                  case measure => simp [intOf]; omega
          · have hg0 : decide (0 < j) = true := by simp; omega
            obtain ⟨m, hm⟩ : ∃ m, m = j - 1 := ⟨_, rfl⟩
            have hml : m < l.length := by omega
            have HY : Hid (l[m]? = some l[m]) := List.getElem?_eq_getElem hml
            have HGm : Hid (ag l m = l[m]) := ag_eq hml
            generalize l[m] = y at HY HGm
            have y0 := Beh.account0 HS3.out HY.out
            have hm0 : (0 : Int) ≤ (m : Int) := by omega
            have hm1 : (m : Int) < (l.length : Int) := by omega
            have hmj : (j : Int) - 1 = (m : Int) := by omega
            cases hn : ntL y.nm x.nm
            · have HN : Hid (¬ AOk l) := fun t => by
                have := (t.2 j hlt).2 (by omega)
                rw [← hm, HGm.out, HG.out, hn] at this
                cases this
              have hn' : Op.bytesLess y.nm.toList x.nm.toList = false := hn
              clear hw hn hm hml
              (refine wp_region_beh (by kernel_rfl) (by kernel_rfl) ?_; (repeat (go_big_quiet_step (first | (go_at_call 22; with_reducible exact calls_beh_same (HW.out _)) | (go_at_call 49; with_reducible exact calls_beh_same (HU.out _))))); refine wpQuiet_nil ?_; rintro ⟨w2, hb2⟩; have HB4 : Hid (Below w.heap.size w w2) := below_then HB3.out hb2; go_wp2_with fail; go_ret; exact says_no rfl HN.out HB4.out)
            · have hn' : Op.bytesLess y.nm.toList x.nm.toList = true := hn
              have HI2 : Hid (accB x = true → ATo l (j + 1)) := fun ha i hi => by
                rcases Nat.lt_or_ge i j with h' | h'
                · exact HI.out i h'
                · have e : i = j := by omega
                  subst e
                  exact ⟨by rw [HG.out]; exact ha, fun _ => by rw [← hm, HGm.out, HG.out, hn]⟩
              have HAc : Hid (accB x = (decide (1 ≤ x.sh) && (decide (x.sh ≤ 1000) && useB x.us))) := by show _ = _; rw [accB, hw, Bool.true_and]
              clear hw hn hj00 HI hm hml
              by_cases h1 : x.sh < 1
              · have HN : Hid (¬ AOk l) := HNo.out (by rw [HAc.out]; simp; omega)
                have g1 : decide (x.sh < 1) = true := decide_eq_true h1
                clear HAc HI2
                (refine wp_region_beh (by kernel_rfl) (by kernel_rfl) ?_; (repeat (go_big_quiet_step (first | (go_at_call 22; with_reducible exact calls_beh_same (HW.out _)) | (go_at_call 49; with_reducible exact calls_beh_same (HU.out _))))); refine wpQuiet_nil ?_; rintro ⟨w2, hb2⟩; have HB4 : Hid (Below w.heap.size w w2) := below_then HB3.out hb2; go_wp2_with fail; go_ret; exact says_no rfl HN.out HB4.out)
              · have g1 : decide (x.sh < 1) = false := decide_eq_false h1
                by_cases h2 : 1000 < x.sh
                · have HN : Hid (¬ AOk l) := HNo.out (by rw [HAc.out]; simp; omega)
                  have g2 : decide (1000 < x.sh) = true := decide_eq_true h2
                  clear HAc HI2
                  (refine wp_region_beh (by kernel_rfl) (by kernel_rfl) ?_; (repeat (go_big_quiet_step (first | (go_at_call 22; with_reducible exact calls_beh_same (HW.out _)) | (go_at_call 49; with_reducible exact calls_beh_same (HU.out _))))); refine wpQuiet_nil ?_; rintro ⟨w2, hb2⟩; have HB4 : Hid (Below w.heap.size w w2) := below_then HB3.out hb2; go_wp2_with fail; go_ret; exact says_no rfl HN.out HB4.out)
                · have g2 : decide (1000 < x.sh) = false := decide_eq_false h2
                  cases hu : useB x.us
                  · have HN : Hid (¬ AOk l) := HNo.out (by rw [HAc.out, hu]; simp)
                    rw [hu] at HU
                    clear HAc HI2 hu
                    (refine wp_region_beh (by kernel_rfl) (by kernel_rfl) ?_; (repeat (go_big_quiet_step (first | (go_at_call 22; with_reducible exact calls_beh_same (HW.out _)) | (go_at_call 49; with_reducible exact calls_beh_same (HU.out _))))); refine wpQuiet_nil ?_; rintro ⟨w2, hb2⟩; have HB4 : Hid (Below w.heap.size w w2) := below_then HB3.out hb2; go_wp2_with fail; go_ret; exact says_no rfl HN.out HB4.out)
                  · have HI3 : Hid (ATo l (j + 1)) := HI2.out (by rw [HAc.out, hu]; simp; omega)
                    rw [hu] at HU
                    clear HAc HI2 hu
                    refine wp_region_beh (by kernel_rfl) (by kernel_rfl) ?_; (repeat (go_big_quiet_step (first | (go_at_call 22; with_reducible exact calls_beh_same (HW.out _)) | (go_at_call 49; with_reducible exact calls_beh_same (HU.out _))))); refine wpQuiet_nil ?_; rintro ⟨w2, hb2⟩; have HB4 : Hid (Below w.heap.size w w2) := below_then HB3.out hb2
                    go_wp2_with fail
                    go_roundw
                    case rel => exact ⟨j + 1, by omega, by go_num, HI3.out, HB4.out⟩
                    case measure => simp [intOf]; omega
      · have HY : Hid (AOk l) := ⟨by omega, fun i hi => HI.out i (by omega)⟩
        go_wp2_with fail
        go_ret
        exact ⟨true, rfl, by simp [HY.out], HB.out⟩
noncomputable section
set_option maxHeartbeats 4000000 in
set_option maxRecDepth 100000 in
theorem specAccountAt_c (b : Option Addr) (d : Nat) (l : List Ac) (hl : l.length ≤ 1048576) (hz : ∀ x ∈ l, x.nm.size ≤ 1048576) (s : ByteArray) (w : World) (h : Sq w b (flatAc l)) :
    Calls Try.prog 28 #[.slice b l.length d, .string s] w (fun e w' => e = .returned (.int .i64 (aAt l s)) ∧ Below w.heap.size w w') := by
  have H : Hid (Sq w b (flatAc l)) := h
  clear h
  go_enter Try.func28, Try.ntmps28
  go_wp2_with fail
  refine (specAccountsOk_c b d l hl hz _ H.out).mono ?_
  rintro e w1 ⟨k, rfl, hk, hb⟩
  have HB1 : Hid (Below w.heap.size w w1) := hb
  have HK : Hid (k = true ↔ AOk l) := hk
  clear hk hb
  cases k
  · have HN : Hid (aAt l s = -1) := by show _ = _; unfold aAt; rw [if_neg (fun t => by have := HK.out.2 t; cases this)]
    go_wp2_with fail
    go_ret
    exact ⟨by rw [HN.out]; rfl, HB1.out⟩
  · have HE : Hid (aAt l s = atF l s 0) := by show _ = _; unfold aAt; rw [if_pos (HK.out.1 rfl)]
    clear HK
    go_wp2_with fail
    go_loopw [12] (fun i wr => ∃ j : Nat, j ≤ l.length ∧ i = .int .i64 j ∧ atF (l.drop j) s j = atF l s 0 ∧ Below w.heap.size w wr) (fun i _ => l.length - (intOf i).toNat)
    case atStart => exact ⟨0, Nat.zero_le _, rfl, rfl, HB1.out⟩
    case round =>
      obtain ⟨j, hj, rfl, hat, hb⟩ := hrel
      have HI : Hid (atF (l.drop j) s j = atF l s 0) := hat
      have HB : Hid (Below w.heap.size w wr) := hb
      clear hat hb HB1
      by_cases hlt : j < l.length
      · have hj0 : (0 : Int) ≤ (j : Int) := by omega
        have hj1 : (j : Int) < (l.length : Int) := by omega
        have HX : Hid (l[j]? = some l[j]) := List.getElem?_eq_getElem hlt
        have HD : Hid (l.drop j = l[j] :: l.drop (j + 1)) := List.drop_eq_getElem_cons hlt
        obtain ⟨p, rfl⟩ := H.out.some_ofAc j hlt
        generalize l[j] = x at HX HD
        have c0 := (H.out.below HB.out).account0 HX.out
        have c1 := (H.out.below HB.out).accountK HX.out 1 (by decide) _ rfl
        have c2 := (H.out.below HB.out).accountK HX.out 2 (by decide) _ rfl
        have HB3 : Hid (Below w.heap.size w (wr.alloc (.cells #[.string x.nm, .int .i64 x.sh, .int .i64 x.us] 30))) := behind_alloc HB.out _
        cases hq : nmB x s
        · have hq' : (x.nm.toList == s.toList) = false := hq
          have HI2 : Hid (atF (l.drop (j + 1)) s (j + 1) = atF l s 0) := by
            show _ = _
            rw [← HI.out, HD.out, atF, hq]
            simp
          clear hq
          go_wp2_with fail
          go_roundw
          case rel => exact ⟨j + 1, by omega, by go_num, HI2.out, HB3.out⟩
          case measure => simp [intOf]; omega
        · have hq' : (x.nm.toList == s.toList) = true := hq
          have HR : Hid (aAt l s = (j : Int)) := by
            show _ = _
            rw [HE.out, ← HI.out, HD.out, atF, hq]
            simp
          clear hq
          go_wp2_with fail
          go_ret
          exact ⟨by rw [HR.out]; rfl, HB3.out⟩
      · have HR : Hid (aAt l s = -1) := by
          show _ = _
          rw [HE.out, ← HI.out, List.drop_of_length_le (by omega)]
          rfl
        go_wp2_with fail
        go_ret
        exact ⟨by rw [HR.out]; rfl, HB.out⟩
end
end Go.Proofs.Ytpjfampfhofeaaa
