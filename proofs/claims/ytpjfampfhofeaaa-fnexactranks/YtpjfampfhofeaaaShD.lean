/- Accounts: the specification's Fade. -/
import Derived.Test.YtpjfampfhofeaaaShC
namespace Go.Proofs.Ytpjfampfhofeaaa
open Go.ChangeShapes Go.WideShapes Go.ChangeAt Go.RowKit

theorem fdL_yes {l : List Ac} (h : AOk l) : fdL l = l.map fdA := by unfold fdL; rw [if_pos h]
theorem fdL_no {l : List Ac} (h : ¬ AOk l) : fdL l = [] := by unfold fdL; rw [if_neg h]
set_option maxHeartbeats 4000000 in
set_option maxRecDepth 100000 in
theorem specFade_c (b : Option Addr) (d : Nat) (l : List Ac) (hl : l.length ≤ 1048576) (hz : ∀ x ∈ l, x.nm.size ≤ 1048576) (w : World) (h : Sq w b (flatAc l)) :
    Calls Try.prog 32 #[.slice b l.length d] w (RetF w (fdL l)) := by
  have H : Hid (Sq w b (flatAc l)) := h
  clear h
  obtain ⟨i0, hi2, hz0, hz1, hz2⟩ := info_parts infoAcc
  go_enter Try.func32, Try.ntmps32
  go_wp2_with fail
  have HO0 : Hid ((w.alloc (.cells #[] 30)).ownsRow w.heap.size 30 3 (.slice (some ⟨w.heap.size, 0, none⟩) 0 0) 0 []) := World.ownsRow_made w #[] 0 (Nat.le_refl _) (by decide) rfl
  have HB0 : Hid (Below w.heap.size w (w.alloc (.cells #[] 30))) := low_alloc _ _
  generalize w.alloc (.cells #[] 30) = w0 at HO0 HB0 ⊢
  refine (specAccountsOk_c b d l hl hz _ (H.out.below HB0.out)).mono ?_
  rintro e w1 ⟨k, rfl, hk, hb⟩
  have HB1 : Hid (Below w.heap.size w w1) := below_then HB0.out hb
  have HO1 : Hid (w1.ownsRow w.heap.size 30 3 (.slice (some ⟨w.heap.size, 0, none⟩) 0 0) 0 []) := owsBelow HO0.out hb
  have HK : Hid (k = true ↔ AOk l) := hk
  clear hk hb HB0 HO0
  cases k
  · have HN : Hid (fdL l = []) := fdL_no (fun t => by have := HK.out.2 t; cases this)
    go_wp2_with fail
    go_ret
    exact ⟨_, rfl, by rw [HN.out]; exact AnsAc.none _ _ _ _ _, HB1.out⟩
  · have HY : Hid (AOk l) := HK.out.1 rfl
    have HE : Hid (fdL l = l.map fdA) := fdL_yes HY.out
    have h12 : l.length ≤ 12 := HY.out.1
    clear HK
    go_wp2_with fail
    go_loopw [13, 3] (fun i o wr => ∃ (j g c : Nat) (acc : List Ac), j ≤ l.length ∧ i = .int .i64 j ∧ o = .slice (some ⟨g, 0, none⟩) j c ∧ acc.length = j ∧ acc ++ (l.drop j).map fdA = fdL l ∧ wr.ownsRow w.heap.size 30 3 (.slice (some ⟨g, 0, none⟩) j c) j (flatAc acc) ∧ Below w.heap.size w wr) (fun i _ _ => l.length - (intOf i).toNat)
    case atStart => exact ⟨0, w.heap.size, 0, [], Nat.zero_le _, rfl, rfl, rfl, by rw [HE.out]; rfl, HO1.out, HB1.out⟩
    case round =>
      obtain ⟨j, g, c, acc, hj, rfl, rfl, hal, hac, ho, hb⟩ := hrel
      have HAl : Hid (acc.length = j) := hal
      have HAc : Hid (acc ++ (l.drop j).map fdA = fdL l) := hac
      have HO : Hid (wr.ownsRow w.heap.size 30 3 (.slice (some ⟨g, 0, none⟩) j c) j (flatAc acc)) := ho
      have HB : Hid (Below w.heap.size w wr) := hb
      clear ho hb hal hac HO1 HB1
      by_cases hlt : j < l.length
      · have hj0 : (0 : Int) ≤ (j : Int) := by omega
        have hj1 : (j : Int) < (l.length : Int) := by omega
        have HX : Hid (l[j]? = some l[j]) := List.getElem?_eq_getElem hlt
        have HT : Hid ((acc ++ [fdA l[j]]) ++ (l.drop (j + 1)).map fdA = fdL l) := by
          show _ = _
          rw [← HAc.out, List.drop_eq_getElem_cons hlt, List.map_cons, List.append_assoc]
          rfl
        have hx := acc_parts (HY.out.acc (List.getElem_mem hlt))
        obtain ⟨p, rfl⟩ := H.out.some_ofAc j hlt
        generalize l[j] = x at HX HT hx
        have hu0 := hx.2.2.2.1
        have hu1 := hx.2.2.2.2
        have hq0 : 0 ≤ x.us.tdiv 2 := Int.tdiv_nonneg hu0 (by decide)
        have hq1 : x.us.tdiv 2 ≤ 1000000000 := by rw [Int.tdiv_eq_ediv_of_nonneg hu0]; omega
        have c0 := (H.out.below HB.out).account0 HX.out
        have c1 := (H.out.below HB.out).accountK HX.out 1 (by decide) _ rfl
        have c2 := (H.out.below HB.out).accountK HX.out 2 (by decide) _ rfl
        clear hx
        have HO4 : Hid (((wr.alloc (.cells #[.string x.nm, .int .i64 x.sh, .int .i64 (x.us.tdiv 2)] 30)).alloc (.cells #[.string x.nm, .int .i64 x.sh, .int .i64 (x.us.tdiv 2)] 30)).ownsRow w.heap.size 30 3 (.slice (some ⟨g, 0, none⟩) j c) j (flatAc acc)) := (HO.out.alloc _).alloc _
        have HB4 : Hid (Below w.heap.size w ((wr.alloc (.cells #[.string x.nm, .int .i64 x.sh, .int .i64 (x.us.tdiv 2)] 30)).alloc (.cells #[.string x.nm, .int .i64 x.sh, .int .i64 (x.us.tdiv 2)] 30))) := behind_alloc (behind_alloc HB.out _) _
        have hs3 : (wr.alloc (.cells #[.string x.nm, .int .i64 x.sh, .int .i64 (x.us.tdiv 2)] 30)).heap.size = wr.heap.size + 1 := by simp [go_sem]
        have hs4 := HB4.out.size
        have HN4 : Hid (Row ((wr.alloc (.cells #[.string x.nm, .int .i64 x.sh, .int .i64 (x.us.tdiv 2)] 30)).alloc (.cells #[.string x.nm, .int .i64 x.sh, .int .i64 (x.us.tdiv 2)] 30)) (wr.heap.size + 1) [.string x.nm, .int .i64 x.sh, .int .i64 (x.us.tdiv 2)]) := by
          have h := row_fresh (wr.alloc (.cells #[.string x.nm, .int .i64 x.sh, .int .i64 (x.us.tdiv 2)] 30)) [.string x.nm, .int .i64 x.sh, .int .i64 (x.us.tdiv 2)] 30
          rwa [hs3] at h
        clear hs3
        go_wp2_with (at_builtin; refine wpList_append_own_at _ rfl _ _ 23 rfl w.heap.size 30 i0 (.agg #[.string ⟨#[]⟩, .int .i64 0, .int .i64 0]) 3 32 Try.underlying23 hi2 hz0 hz1 hz2 rfl (by decide) (.slice (some ⟨g, 0, none⟩) j c) j (flatAc acc) rfl HO4.out ⟨wr.heap.size + 1, 0, none⟩ 1 1 [.string x.nm, .int .i64 x.sh, .int .i64 (x.us.tdiv 2)] rfl rfl ?c1 ?c2 ?c3 ?c4 ?c5 ?_)
        case c1 =>
          intro q v hv
          rw [add_plain, Nat.zero_add]
          exact HN4.out.cell q v hv
        case c2 => simp [Value.oneCell']
        case c3 => unfold maxLen; omega
        case c4 => omega
        case c5 => exact hs4
        · intro v' w7 hown hgrow _ hat
          obtain ⟨g', c', rfl⟩ : ∃ g' c', v' = .slice (some ⟨g', 0, none⟩) (j + 1) c' := by
            rcases hown.2 with ⟨_, hz⟩ | ⟨g', cap, _, e, _⟩
            · omega
            · exact ⟨g', cap, e⟩
          have HO7 : Hid (w7.ownsRow w.heap.size 30 3 (.slice (some ⟨g', 0, none⟩) (j + 1) c') (j + 1) (flatAc (acc ++ [fdA x]))) := by
            show World.ownsRow _ _ _ _ _ _ _
            rw [flatAc_add]
            exact hown
          have HB7 : Hid (Below w.heap.size w w7) := HB4.out.grown hgrow hs4 (fun k hk => (HO4.out.lt k hk).1)
          clear hown hgrow hat HO4 HB4 hs4 HN4 c0 c1 c2
          go_wp2_with fail
          go_roundw
          case rel => exact ⟨j + 1, g', c', acc ++ [fdA x], by omega, by go_num, rfl, by rw [List.length_append, HAl.out]; rfl, HT.out, HO7.out, HB7.out⟩
          case measure => simp [intOf]; omega
      · have hjl : j = l.length := by omega
        have HAn : Hid (AnsAc w.heap.size wr.heap.size wr (fdL l).length (flatAc (fdL l)) (.slice (some ⟨g, 0, none⟩) j c)) := by
          show AnsAc _ _ _ _ _ _
          have h := AnsAc.of_owns HO.out
          have e : acc = fdL l := by
            have e2 := HAc.out
            rw [List.drop_of_length_le (by omega)] at e2
            simpa using e2
          have e3 : (fdL l).length = j := by rw [← e, HAl.out]
          rw [e] at h
          rw [e3]
          exact h
        clear hjl
        go_wp2_with fail
        go_ret
        exact ⟨_, rfl, HAn.out, HB.out⟩
end Go.Proofs.Ytpjfampfhofeaaa
