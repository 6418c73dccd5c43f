/- The lowest switch, by the specification. -/
import Derived.Test.YtcjamjfdkpgjkaaLowA
import Derived.Deep.DeepCutAuto
import Derived.Deep.Light
namespace Go.Proofs.Ytcjamjfdkpgjkaa
open Go.ChangeShapes Go.WideShapes Go.ChangeAt Go.RowKit

/-- Two cells of an old block. -/
theorem held2 {V w' : World} {B : Nat} {x y : Value} (hr : Row V B [x, y]) (h : Below V.heap.size V w') : Below V.heap.size V w' ∧ w'.cell? ⟨B, 0, none⟩ = some x ∧ w'.cell? ⟨B, 1, none⟩ = some y :=
  ⟨h, (hr.below h).cell 0 _ rfl, (hr.below h).cell 1 _ rfl⟩

set_option maxHeartbeats 4000000 in
theorem specLowest_c (a b f : Option Addr) (c d m : Nat) (ps : List Int) (ns : List Nd) (xs : List Int) (hp : ps.length ≤ 1048576) (hn : ns.length ≤ 1048576) (hx : xs.length ≤ 1048576) (w : World) (h : Sq w a (ints ps)) (h' : Sq w b (flat ns)) (h2 : Sq w f (ints xs)) :
    Calls Try.prog 6 #[.agg #[.slice a ps.length c, .slice b ns.length d], .slice f xs.length m] w fun e w' => e = .returned (.int .i64 (lowR ps ns xs)) ∧ Below w.heap.size w w' := by
  have H : Hid (Sq w a (ints ps)) := h
  have H' : Hid (Sq w b (flat ns)) := h'
  have H2 : Hid (Sq w f (ints xs)) := h2
  clear h h' h2
  go_enter Try.func6, Try.ntmps6
  go_wp2_with fail
  generalize hV : w.alloc (.cells #[.slice a ps.length c, .slice b ns.length d] 26) = V
  have HA : Hid (Row V w.heap.size [.slice a ps.length c, .slice b ns.length d]) := by subst hV; exact row_fresh w [.slice a ps.length c, .slice b ns.length d] 26
  have HV : Hid (Below w.heap.size w V) := by subst hV; exact low_alloc _ _
  clear hV
  refine (l02Nodes_c a b f c d m ps ns xs hp hn hx _ (H.out.below HV.out) (H'.out.below HV.out) (H2.out.below HV.out)).mono ?_
  rintro e w1 ⟨k, rfl, hk, hb⟩
  have HB1 : Hid (Below V.heap.size V w1) := hb
  have t0 := (HA.out.below hb).cell 0 _ rfl
  clear hb
  cases k
  · have HN : Hid (lowR ps ns xs = -1) := by
      show _ = _
      rw [lowR, if_neg (fun t => by have := hk.2 t.1; cases this)]
    clear hk
    go_wp2_with fail
    go_ret
    exact ⟨by rw [HN.out]; rfl, below_then HV.out HB1.out⟩
  · have HY : Hid (NdOk ps ns xs) := hk.1 rfl
    clear hk
    by_cases hx0 : xs.length = 0
    · have HN : Hid (lowR ps ns xs = -1) := by
        show _ = _
        rw [lowR, if_neg (fun t => t.2 (List.length_eq_zero_iff.1 hx0))]
      have hxi : ((xs.length : Int) == 0) = true := by simp [hx0]
      clear hx0
      go_wp2_with fail
      go_ret
      exact ⟨by rw [HN.out]; rfl, below_then HV.out HB1.out⟩
    · have hne : xs ≠ [] := fun e => hx0 (by rw [e]; rfl)
      have HNe : Hid (xs ≠ []) := hne
      have HN : Hid (lowR ps ns xs = bestTo ps ns xs ps.length) := by
        show _ = _
        rw [lowR, if_pos ⟨HY.out, hne⟩]
      have hxi : ((xs.length : Int) == 0) = false := by simp; omega
      have hfew := HY.out.1.few
      clear hx0 hne
      go_wp2_with fail
      clear t0
      go_loopw [5, 23] (fun o i wr => ∃ k : Nat, k ≤ ps.length ∧ i = .int .i64 k ∧ o = .int .i64 (bestTo ps ns xs k) ∧ Below V.heap.size V wr) (fun _ i _ => ps.length - (intOf i).toNat)
      case atStart => exact ⟨0, Nat.zero_le _, rfl, rfl, HB1.out⟩
      case round =>
        obtain ⟨k, hk, rfl, rfl, hb⟩ := hrel
        have HB : Hid (Below V.heap.size V wr) := hb
        clear hb
        by_cases hlt : k < ps.length
        · have hk1 : (k : Int) < (ps.length : Int) := by omega
          go_wp2_with fail
          go_loopw [7, 28] (fun q i wq => ∃ (j : Nat) (t : Bool), j ≤ xs.length ∧ i = .int .i64 j ∧ q = .bool t ∧ (t = true ↔ ∀ x ∈ xs.take j, (k : Int) ∈ upLeaf ps ns x) ∧ Below V.heap.size V wq) (fun _ i _ => xs.length - (intOf i).toNat)
          case atStart => exact ⟨0, true, Nat.zero_le _, rfl, rfl, by simp, HB.out⟩
          case round =>
            obtain ⟨j, t, hj, rfl, rfl, ht, hb⟩ := hrel
            have HT : Hid (t = true ↔ ∀ x ∈ xs.take j, (k : Int) ∈ upLeaf ps ns x) := ht
            have HB2 : Hid (Below V.heap.size V wr) := hb
            clear ht hb HB
            by_cases hlt2 : j < xs.length
            · have hj0 : (0 : Int) ≤ (j : Int) := by omega
              have hj1 : (j : Int) < (xs.length : Int) := by omega
              obtain ⟨p, rfl, _, hc⟩ := ((H2.out.below HV.out).below HB2.out).cell j _ (ints_at xs j hlt2)
              have HX : Hid (xs[j]? = some xs[j]) := List.getElem?_eq_getElem hlt2
              generalize xs[j] = x at hc HX
              obtain ⟨q, n, l, rfl, hq, hql, hnl, hll, hlf⟩ := leaf_of HY.out.1 (HY.out.2 x (List.mem_of_getElem? HX.out))
              have HF : Hid (upLeaf ps ns (q : Int) = upF ps l l) := by show _ = _; rw [upLeaf, hlf, Int.toNat_natCast]
              have hq0 : (0 : Int) ≤ (q : Int) := by omega
              have hq1 : (q : Int) < (ns.length : Int) := by omega
              obtain ⟨p2, rfl, c0, _, _, _⟩ := ((H'.out.below HV.out).below HB2.out).node q hql
              rw [show ns[q] = n by rw [List.getElem?_eq_getElem hql] at hq; exact Option.some.inj hq, hnl] at c0
              clear hlf hnl hq
              have e0 := (HA.out.below HB2.out).cell 0 _ rfl
              have e1 := (HA.out.below HB2.out).cell 1 _ rfl
              have HD : Hid (Below wr.heap.size wr wr.drew) := ⟨rfl, rfl, rfl, Nat.le_refl _, fun _ _ => rfl⟩
              have HSq : Hid (Sq wr.drew a (ints ps)) := ((H.out.below HV.out).below HB2.out).below HD.out
              have hul := up_len ps l l
              go_wp2_with fail
              go_cut [42] (fun v wc => v = .bool (!decide ((k : Int) ∈ upF ps l l)) ∧ Below V.heap.size V wc)
              case first =>
                go_region_with (first
                  | (go_at_call 18; refine (l02Up_c a (some p2) c ns.length d ps l hfew HY.out.1.tree hll wr.drew HSq.out).mono ?_; rintro e w4 ⟨a4, cap4, rfl, hs4, hb4⟩; have HS4 : Hid (Sq w4 a4 (ints (upF ps l l))) := hs4; have HB4 : Hid (Below V.heap.size V w4) := below_then (below_then HB2.out HD.out) hb4; clear hs4 hb4)
                  | (go_at_call 17; refine (l02Has_c a4 cap4 (upF ps l l) k (by omega) w4 HS4.out).mono ?_; rintro e w5 ⟨rfl, hb5⟩; have HB5 : Hid (Below V.heap.size V w5) := below_then HB4.out hb5; clear hb5))
                all_goals
                  go_wp2_with fail
                  go_meet
                  case rel => exact ⟨rfl, HB5.out⟩
              case rest =>
                obtain ⟨rfl, hb⟩ := hcut
                have HBc : Hid (Below V.heap.size V wc) := hb
                clear hb e0 e1 hc c0
                cases hd : decide ((k : Int) ∈ upF ps l l)
                · have HT1 : Hid (false = true ↔ ∀ x ∈ xs.take (j + 1), (k : Int) ∈ upLeaf ps ns x) := ⟨fun h => (by cases h), fun h => by
                    have := h (q : Int) (by rw [List.take_add_one, HX.out]; simp)
                    rw [HF.out] at this
                    exact absurd this (of_decide_eq_false hd)⟩
                  clear hd
                  go_wp2_with fail
                  go_roundw
                  case rel => exact ⟨j + 1, false, by omega, by go_num, rfl, HT1.out, HBc.out⟩
                  case measure => simp [intOf]; omega
                · have HT1 : Hid (t = true ↔ ∀ x ∈ xs.take (j + 1), (k : Int) ∈ upLeaf ps ns x) := by
                    show _ ↔ _
                    rw [HT.out, List.take_add_one, HX.out, Option.toList_some]
                    refine ⟨fun h x hx => ?_, fun h x hx => h x (List.mem_append_left _ hx)⟩
                    rcases List.mem_append.1 hx with hx | hx
                    · exact h x hx
                    · have e := List.mem_singleton.1 hx
                      subst e
                      rw [HF.out]
                      exact of_decide_eq_true hd
                  clear hd
                  go_wp2_with fail
                  go_roundw
                  case rel => exact ⟨j + 1, t, by omega, by go_num, rfl, HT1.out, HBc.out⟩
                  case measure => simp [intOf]; omega
            · have HC : Hid (t = true ↔ cov ps ns xs k) := by
                show _ ↔ _
                rw [HT.out, List.take_of_length_le (by omega)]
                exact Iff.rfl
              have HA2 : Hid (Row wr w.heap.size [.slice a ps.length c, .slice b ns.length d]) := HA.out.below HB2.out
              have e0 := HA2.out.cell 0 _ rfl
              have e1 := HA2.out.cell 1 _ rfl
              clear HT
              cases t
              · have HS : Hid (bestTo ps ns xs (k + 1) = bestTo ps ns xs k) := by
                  show _ = _
                  rw [bestTo, if_neg (fun h => by have := HC.out.2 h; cases this)]
                generalize bestTo ps ns xs k = best at *
                go_wp2_with fail
                go_quiet (fail)
                go_wp2
                exact ⟨⟨k + 1, by omega, by go_num, by rw [HS.out], below_then HB2.out ⟨rfl, rfl, rfl, Nat.le_refl _, fun _ _ => rfl⟩⟩, by simp [intOf]; omega⟩
              · have hcov := HC.out.1 rfl
                have HS : Hid (bestTo ps ns xs (k + 1) = k) := by
                  show _ = _
                  rw [bestTo, if_pos hcov]
                by_cases hb0 : bestTo ps ns xs k < 0
                · generalize bestTo ps ns xs k = best at *
                  clear hcov
                  go_wp2_with fail
                  go_quiet (fail)
                  go_wp2
                  exact ⟨⟨k + 1, by omega, by go_num, by rw [HS.out], below_then HB2.out ⟨rfl, rfl, rfl, Nat.le_refl _, fun _ _ => rfl⟩⟩, by simp [intOf]; omega⟩
                · obtain ⟨r, hrk, hr, hle⟩ : ∃ r : Nat, r < k ∧ bestTo ps ns xs k = r ∧ lvF ps ps.length k ≤ lvF ps ps.length r := by
                    have h1 := best_step HY.out HNe.out k hcov (by omega)
                    rcases best_cases ps ns xs k with ⟨h2, _⟩ | ⟨r, h2, h3, _⟩
                    · omega
                    · rw [h3] at h1
                      exact ⟨r, h2, h3, h1⟩
                  rw [hr]
                  clear hr hb0 hcov
                  have hd0 : decide ((r : Int) < 0) = false := by simp
                  have HSW : Hid (∀ W, Below wr.heap.size wr W → Sq W a (ints ps)) := fun W hW => ((H.out.below HV.out).below HB2.out).below hW
                  have H0 : Hid (Below wr.heap.size wr wr) := Below.refl _ _
                  go_wp2_with fail
                  go_cut [57] (fun v wc => v = .bool true ∧ Below V.heap.size V wc)
                  case first =>
                    go_region_held3 (fun w' => Below wr.heap.size wr w' ∧ w'.cell? ⟨w.heap.size, 0, none⟩ = some (.slice a ps.length c) ∧ w'.cell? ⟨w.heap.size, 1, none⟩ = some (.slice b ns.length d)) ((go_split_ands; refine held2 HA2.out ?_; first | (exact Hid.out (by with_reducible assumption)) | (with_reducible assumption) | (exact behind (by with_reducible assumption) (by with_reducible assumption)) | go_grown))
                      ((go_at_call 19; refine (l02Level_c a b c ns.length d ps hp HY.out.1.tree ps.length _ _ (by omega) (by omega) (by omega) (HSW.out _ (And.left (by with_reducible assumption)))).mono ?_; rintro e wk ⟨rfl, hbk⟩; have Bk : Hid (Below wr.heap.size wr wk) := behind hbk (And.left (by with_reducible assumption))))
                    all_goals
                      go_split_ands
                      go_wp2_with fail
                      go_meet
                      case rel => exact ⟨rfl, below_then HB2.out (by with_reducible assumption)⟩
                  case rest =>
                    obtain ⟨rfl, hb⟩ := hcut
                    have HBc : Hid (Below V.heap.size V wc) := hb
                    clear hb
                    go_wp2_with fail
                    go_roundw
                    case rel => exact ⟨k + 1, by omega, by go_num, by rw [HS.out], HBc.out⟩
                    case measure => simp [intOf]; omega
        · obtain rfl : k = ps.length := by omega
          generalize bestTo ps ns xs ps.length = best at *
          go_wp2_with fail
          go_ret
          exact ⟨by rw [HN.out]; rfl, below_then HV.out HB.out⟩
end Go.Proofs.Ytcjamjfdkpgjkaa
