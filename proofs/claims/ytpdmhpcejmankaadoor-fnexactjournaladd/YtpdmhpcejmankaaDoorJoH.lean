/- ReadRecords: the specification's. -/
import Derived.Test.YtpdmhpcejmankaaDoorJoG
import Derived.Test.YtpdmhpcejmankaaDoorBehA
namespace Go.Proofs.YtpdmhpcejmankaaDoor
open Go.ChangeShapes Go.WideShapes Go.ChangeAt Go.RowKit
open Go.Joins (ownsRow_forms)

theorem spec_num (n : Nat) (w : World) : Calls Tryd.prog 47 #[.int .i64 (n : Int)] w fun e w' => e = .returned (.string ⟨(numL (n : Int)).toArray⟩) ∧ Below w.heap.size w w' := specNumText_all _ w

theorem num_len (n : Nat) : (numL (n : Int)).length + 1 = (hdL n).length := by simp [hdL]

set_option maxHeartbeats 1000000 in
theorem l07Record_c (n : Nat) (s : List UInt8) (hs : s.length ≤ 1000) (w : World) :
    Calls Tryd.prog 39 #[.int .i64 (n : Int), .string ⟨s.toArray⟩] w fun e w' => e = .returned (.string ⟨(hdL n ++ s ++ [10]).toArray⟩) ∧ Below w.heap.size w w' := by
  have hh := hd_len n
  have h1 := add_blank n
  have h2 : ∀ W, (Op.stringOp .add ⟨(hdL n).toArray⟩ ⟨s.toArray⟩).run Tryd.prog W = .ok (.string ⟨(hdL n ++ s).toArray⟩) W := fun W => run_string_add_lists W _ _ (by omega) (by omega)
  have h3 : ∀ W, (Op.stringOp .add ⟨(hdL n ++ s).toArray⟩ ⟨#[10]⟩).run Tryd.prog W = .ok (.string ⟨(hdL n ++ s ++ [10]).toArray⟩) W := fun W => run_string_add_lists W _ [10] (by simp; omega) (by simp)
  generalize hz1 : (⟨(hdL n).toArray⟩ : ByteArray) = z1 at *
  generalize hz2 : (⟨(hdL n ++ s).toArray⟩ : ByteArray) = z2 at *
  generalize hz3 : (⟨(hdL n ++ s ++ [10]).toArray⟩ : ByteArray) = z3 at *
  clear hz1 hz2 hz3 hh
  go_enter Tryd.func39, Tryd.ntmps39
  go_wp2_with fail
  refine (spec_num n _).mono ?_
  rintro e w1 ⟨rfl, hb⟩
  have HB : Hid (Below w.heap.size w w1) := hb
  clear hb
  go_wp2_with fail
  go_ret
  exact ⟨rfl, HB.out⟩

theorem win_bytes {w : World} {p : Option Addr} {l : List UInt8} (h : ByA w p l) (a b c : Nat) (hc : l.length ≤ c) (hab : a ≤ b) (hb : b ≤ l.length) (hac : ¬ c = a) :
    (convert 22 9 (.slice (p.map (fun x => x.add a)) (b - a) (c - a))).run Tryd.prog w = .ok (.string ⟨((l.take b).drop a).toArray⟩) w := by
  have h1 := (h.upto b).from a c (by rw [List.length_take]; omega) (by rw [List.length_take]; omega)
  rw [if_neg hac] at h1
  have := conv_bytes h1 (c - a)
  rwa [List.length_drop, List.length_take, Nat.min_eq_left hb] at this

set_option maxHeartbeats 4000000 in
set_option maxRecDepth 100000 in
theorem specReadRecords_c (w : World) (p : Option Addr) (c : Nat) (l : List UInt8) (hl : ByA w p l) (hc : l.length ≤ c) (hbig : l.length ≤ 1048576) :
    Calls Tryd.prog 14 #[.slice p l.length c] w fun e w' => ∃ v, e = .returned (.tuple #[v, .int .i64 ((rdR l).2 : Int)]) ∧ w'.ownsRow w.heap.size 9 1 v (rdR l).1.length (strs (rdR l).1) ∧ Below w.heap.size w w' := by
  have Hl : Hid (ByA w p l) := hl
  obtain ⟨i0, hi, hz0, hz1, hz2⟩ := info_parts infoStr
  clear hl
  go_enter Tryd.func14, Tryd.ntmps14
  go_wp2_with fail
  go_loopw [4, 5] (fun o at1 wr => ∃ (acc : List (List UInt8)) (k : Nat), at1 = .int .i64 (k : Int) ∧ RdI l acc k ∧ wr.ownsRow w.heap.size 9 1 o acc.length (strs acc) ∧ Below w.heap.size w wr) (fun _ at1 _ => l.length - (intOf at1).toNat)
  case atStart => exact ⟨[], 0, rfl, rd_start l, World.ownsRow_made w #[] 0 (Nat.le_refl _) (by decide) rfl, by go_grown⟩
  case round =>
    obtain ⟨acc, k, rfl, hrd, hown, hb⟩ := hrel
    have HD : Hid (RdI l acc k) := hrd
    have HO : Hid (wr.ownsRow w.heap.size 9 1 u4 acc.length (strs acc)) := hown
    have HB : Hid (Below w.heap.size w wr) := hb
    have hkl : k ≤ l.length := hrd.1
    have hak : acc.length ≤ k := hrd.2.1
    have hform : ∃ a cap, u4 = .slice a acc.length cap := by
      rcases ownsRow_forms hown with ⟨rfl, hn⟩ | ⟨g, cap, rfl⟩
      · exact ⟨none, 0, by rw [hn]⟩
      · exact ⟨_, _, rfl⟩
    obtain ⟨a0, cap0, rfl⟩ := hform
    clear hrd hown hb
    go_wp2_with fail
    refine (l07Line_c wr p c l k (Hl.out.below HB.out) hbig hkl).mono ?_
    rintro e w1 ⟨rfl, rfl⟩
    generalize hln : lineR l k = ln
    have HLN : Hid (lineR l k = ln) := hln
    have hln0 : -1 ≤ ln ∧ ln ≤ 1048577 := by
      rw [← hln]
      unfold lineR
      have hge := Lib.indexByte_ge (l.drop k) 10
      split
      · omega
      · have h1 : Lib.indexByte (l.drop k) 10 = ((Lib.indexByte (l.drop k) 10).toNat : Nat) := by omega
        have h2 := (List.getElem?_eq_some_iff.1 (Lib.indexByte_some h1).1).1
        rw [List.length_drop] at h2
        omega
    clear hln
    go_wp2_with fail
    refine (spec_num acc.length _).mono ?_
    rintro e w2 ⟨rfl, hb2⟩
    have HO2 : Hid (w2.ownsRow w.heap.size 9 1 (.slice a0 acc.length cap0) acc.length (strs acc)) := owns_kept HO.out hb2
    have HB2 : Hid (Below w.heap.size w w2) := below_then HB.out hb2
    generalize hz : (⟨(numL (acc.length : Int)).toArray⟩ : ByteArray) = z
    have hzs : z.size + 1 = (hdL acc.length).length := by rw [← num_len, ← hz]; simp [ByteArray.size]
    have hzb : z.size ≤ 10 := by have := hd_len acc.length; omega
    have Hzs : Hid (z.size + 1 = (hdL acc.length).length) := hzs
    clear hb2 HO HB hz hzs
    by_cases hneg : ln < 0
    · have HS : Hid (rdR l = (acc, k)) := rd_stop HD.out (rec1_noten (by
        have h1 := HLN.out
        unfold lineR at h1
        have hge := Lib.indexByte_ge (l.drop k) 10
        by_cases h0 : Lib.indexByte (l.drop k) 10 < 0
        · omega
        · rw [if_neg h0] at h1; omega))
      go_wp2_with fail
      go_ret2
      exact ⟨.slice a0 acc.length cap0, by rw [HS.out]; rfl, by rw [HS.out]; exact HO2.out, HB2.out⟩
    · obtain ⟨i, hi⟩ : ∃ i : Nat, ln = (k : Int) + i + 1 ∧ Lib.indexByte (l.drop k) 10 = i := by
        have h1 := HLN.out
        unfold lineR at h1
        by_cases h0 : Lib.indexByte (l.drop k) 10 < 0
        · rw [if_pos h0] at h1; omega
        · rw [if_neg h0] at h1
          exact ⟨(Lib.indexByte (l.drop k) 10).toNat, by omega, by omega⟩
      obtain ⟨rfl, hix⟩ := hi
      have HI : Hid (Lib.indexByte (l.drop k) 10 = i) := hix
      have hil : k + i < l.length := by
        have h2 := (List.getElem?_eq_some_iff.1 (Lib.indexByte_some hix).1).1
        rw [List.length_drop] at h2
        omega
      clear hix HLN
      by_cases hearly : i < z.size + 1
      · have HS : Hid (rdR l = (acc, k)) := rd_stop HD.out (rec1_early HI.out (by have := Hzs.out; omega))
        have hc1 : (k : Int) + i + 1 - 1 - k < (z.size : Int) + 1 := by omega
        go_wp2_with fail
        go_ret2
        exact ⟨.slice a0 acc.length cap0, by rw [HS.out]; rfl, by rw [HS.out]; exact HO2.out, HB2.out⟩
      · have hlate : ¬ ((k : Int) + i + 1 - 1 - k < (z.size : Int) + 1) := by omega
        obtain ⟨q, o, rfl, _, _⟩ := Hl.out.cell k l[k] (List.getElem?_eq_getElem (by omega))
        have n1 : ¬ (c : Int) < (k : Int) + ((z.size : Int) + 1) := by omega
        have n2 : ¬ (c = k + (z.size + 1)) := by omega
        have n3 : ¬ (c = k) := by omega
        have hB2 : ByA w2 (some ⟨q, o, none⟩) l := Hl.out.below HB2.out
        have hcv : (convert 22 9 (.slice (some ⟨q, o + (k + (z.size + 1)), none⟩) (k + i - (k + (z.size + 1))) (c - (k + (z.size + 1))))).run Tryd.prog w2 = .ok (.string ⟨((l.take (k + i)).drop (k + (z.size + 1))).toArray⟩) w2 := by
          have := win_bytes hB2 (k + (z.size + 1)) (k + i) c hc (by omega) (by omega) n2
          simpa [Addr.add] using this
        have HT : Hid ((l.take (k + i)).drop (k + (z.size + 1)) = ((l.drop k).take i).drop (hdL acc.length).length) := by
          show _ = _
          rw [List.take_drop, List.drop_drop, Hzs.out]
        generalize ht : (l.take (k + i)).drop (k + (z.size + 1)) = t at hcv
        have HT2 : Hid (t = ((l.drop k).take i).drop (hdL acc.length).length) := by show _ = _; rw [← ht]; exact HT.out
        clear hB2 HT
        have htl : t.length ≤ 1048576 := by rw [← ht]; simp; omega
        clear ht
        go_wp2_with fail
        have hsz : (⟨t.toArray⟩ : ByteArray).size ≤ maxLen := by simp [ByteArray.size, maxLen]; omega
        have HRk : Hid (∀ W, Calls Tryd.prog 44 #[.string ⟨t.toArray⟩] W fun e w' => e = .returned (.bool (recB t)) ∧ w' = W) := fun W => specRecordOk_c ⟨t.toArray⟩ W hsz
        have hsome := beh_some w2
        clear hcv hsz
        cases hr : recB t
        · have HS : Hid (rdR l = (acc, k)) := rd_stop HD.out (rec1_no HI.out (fun h => by rw [← HT2.out, hr] at h; cases h.1))
          rw [hr] at HRk
          clear hr
          refine wp_region_beh (by kernel_rfl) (by kernel_rfl) ?_
          repeat (go_big_quiet_step (first | (go_at_call 44; exact calls_beh_same (HRk.out _))))
          refine wpQuiet_nil ?_
          rintro ⟨w3, hb3⟩
          have HO3 : Hid (w3.ownsRow w.heap.size 9 1 (.slice a0 acc.length cap0) acc.length (strs acc)) := owns_kept HO2.out hb3
          have HB3 : Hid (Below w.heap.size w w3) := below_then HB2.out hb3
          go_wp2_with fail
          go_ret2
          exact ⟨.slice a0 acc.length cap0, by rw [HS.out]; rfl, by rw [HS.out]; exact HO3.out, HB3.out⟩
        · have ht2 : t.length ≤ 200 := by
            have := hr
            unfold recB at this
            simp only [Bool.and_eq_true, decide_eq_true_eq] at this
            exact this.2.2
          have Hr : Hid (recB t = true) := hr
          have HNk : Hid (∀ W, Calls Tryd.prog 39 #[.int .i64 (acc.length : Int), .string ⟨t.toArray⟩] W fun e w' => e = .returned (.string ⟨(hdL acc.length ++ t ++ [10]).toArray⟩) ∧ Below W.heap.size W w') := fun W => l07Record_c acc.length t (by omega) W
          have hB2 : ByA w2 (some ⟨q, o, none⟩) l := Hl.out.below HB2.out
          have hcv : ∀ n : Beh w2, (convert 22 9 (.slice (some ⟨q, o + k, none⟩) (k + i + 1 - k) (c - k))).run Tryd.prog n.w = .ok (.string ⟨((l.take (k + i + 1)).drop k).toArray⟩) n.w := fun n => by
            have := win_bytes (hB2.below n.low) k (k + i + 1) c hc (by omega) (by omega) n3
            rw [Option.map_some, add_plain] at this
            exact this
          have HW : Hid ((l.take (k + i + 1)).drop k = (l.drop k).take (i + 1)) := by
            show _ = _
            rw [List.take_drop]
            rfl
          rw [hr] at HRk
          clear hr hB2
          by_cases hxy : hdL acc.length ++ t ++ [10] = (l.take (k + i + 1)).drop k
          · rw [← hxy] at hcv
            have HX : Hid (rec1 acc.length (l.drop k) = some (t, (l.drop k).drop (i + 1))) := by
              have h1 := rec1_yes (n := acc.length) HI.out (by have := Hzs.out; omega) (by rw [← HT2.out]; exact Hr.out) (by rw [← HT2.out, hxy]; exact HW.out)
              rw [← HT2.out] at h1
              exact h1
            clear hxy
            generalize (⟨(hdL acc.length ++ t ++ [10]).toArray⟩ : ByteArray) = x at hcv HNk
            refine wp_region_beh (by kernel_rfl) (by kernel_rfl) ?_
            repeat (go_big_quiet_step (first | (go_at_call 44; exact calls_beh_same (HRk.out _)) | (go_at_call 39; exact calls_beh (HNk.out _))))
            refine wpQuiet_nil ?_
            rintro ⟨w3, hb3⟩
            have HO3 : Hid (w3.ownsRow w.heap.size 9 1 (.slice a0 acc.length cap0) acc.length (strs acc)) := owns_kept HO2.out hb3
            have HB3 : Hid (Below w.heap.size w w3) := below_then HB2.out hb3
            have hR : w.heap.size ≤ w3.heap.size := HB3.out.size
            clear hcv
            go_wp2_with (at_builtin; refine wpList_append_own _ rfl _ _ 29 rfl w.heap.size 9 i0 (.string ByteArray.empty) 1 16 Tryd.underlying29 hi hz0 hz1 hz2 rfl (by decide) _ _ _ rfl (HO3.out.alloc _) ⟨w3.heap.size, 0, none⟩ 1 1 [.string ⟨t.toArray⟩] rfl rfl ?q1 ?q2 ?q3 ?q4 ?q5 ?_)
            case q1 =>
              intro j u hj
              match j, hj with
              | 0, hj => simp at hj; subst hj; simp [Addr.add]
            case q2 => intro u hu; simp at hu; subst hu; rfl
            case q3 => unfold maxLen; omega
            case q4 => omega
            case q5 => simp; omega
            intro v1 w6 hown6 hgrow6 _
            have HO6 : Hid (w6.ownsRow w.heap.size 9 1 v1 (acc ++ [t]).length (strs (acc ++ [t]))) := by
              show World.ownsRow _ _ _ _ _ _ _
              rw [strs_append, List.length_append]
              exact hown6
            have HB6 : Hid (Below w.heap.size w w6) := (HB3.out.alloc hR _).grown hgrow6 (by simp; omega) (fun q hq => (HO3.out.lt q hq).1)
            have HD6 : Hid (RdI l (acc ++ [t]) (k + i + 1)) := by
              obtain ⟨h1, _, _⟩ := rd_more HD.out HX.out
              have : l.length - ((l.drop k).drop (i + 1)).length = k + i + 1 := by rw [List.drop_drop, List.length_drop]; omega
              rw [this] at h1
              exact h1
            clear hown6 hgrow6
            go_wp2_with fail
            go_roundw
            case rel => exact ⟨acc ++ [t], k + i + 1, by go_num, HD6.out, HO6.out, HB6.out⟩
            case measure => simp [intOf]; omega
          · have HS : Hid (rdR l = (acc, k)) := rd_stop HD.out (rec1_no HI.out (fun h => hxy (by
              have h2 := h.2
              rw [← HT2.out] at h2
              rw [h2]
              exact HW.out.symm)))
            have hb : ((⟨(hdL acc.length ++ t ++ [10]).toArray⟩ : ByteArray).toList == (⟨((l.take (k + i + 1)).drop k).toArray⟩ : ByteArray).toList) = false := by
              rw [ByteArray.toList_eq, ByteArray.toList_eq, beq_eq_false_iff_ne]
              exact hxy
            clear hxy
            generalize (⟨(hdL acc.length ++ t ++ [10]).toArray⟩ : ByteArray) = x at HNk hb
            generalize (⟨((l.take (k + i + 1)).drop k).toArray⟩ : ByteArray) = y at hcv hb
            refine wp_region_beh (by kernel_rfl) (by kernel_rfl) ?_
            repeat (go_big_quiet_step (first | (go_at_call 44; exact calls_beh_same (HRk.out _)) | (go_at_call 39; exact calls_beh (HNk.out _))))
            refine wpQuiet_nil ?_
            rintro ⟨w3, hb3⟩
            have HO3 : Hid (w3.ownsRow w.heap.size 9 1 (.slice a0 acc.length cap0) acc.length (strs acc)) := owns_kept HO2.out hb3
            have HB3 : Hid (Below w.heap.size w w3) := below_then HB2.out hb3
            clear hcv
            go_wp2_with fail
            go_ret2
            exact ⟨.slice a0 acc.length cap0, by rw [HS.out]; rfl, by rw [HS.out]; exact HO3.out, HB3.out⟩
end Go.Proofs.YtpdmhpcejmankaaDoor
