/- FnCut: for every code the law returns true: what is cut is free from then on as it was; no condition. -/
import Derived.Test.YtgpogglaffehcaaMgC
import Derived.Test.YtgpogglaffehcaaPCutO
import Derived.Test.YtgpogglaffehcaaPSame
import Derived.Test.YtgpogglaffehcaaPTm
import Derived.Test.YtgpogglaffehcaaPAtC
import Derived.Deep.RegionWith
import Derived.Deep.DeepCutAuto
import Derived.Test.YtgpogglaffehcaaMgA
import Derived.ProofKit
import Derived.OpenShut
namespace Go.Proofs.Ytgpogglaffehcaa
open Go.ChangeShapes Go.WideShapes Go.ChangeAt Go.RowKit

theorem atR_yes2 {ns : List Nd} {t : Int} (h : POk ns) (ht : timeB t = true) : atR ns t = atL ns t := by
  unfold atR
  rw [if_pos ⟨h, ht⟩]
theorem says_t {w w' : World} {P : Prop} {e : Ending} (h : Says w P e w') (hp : P) : e = .returned (.bool true) ∧ Below w.heap.size w w' := by
  obtain ⟨k, rfl, hk, hb⟩ := h
  have : k = true := hk.2 hp
  subst this
  exact ⟨rfl, hb⟩
theorem says_f {w w' : World} {P : Prop} {e : Ending} (h : Says w P e w') (hp : ¬ P) : e = .returned (.bool false) ∧ Below w.heap.size w w' := by
  obtain ⟨k, rfl, hk, hb⟩ := h
  have : k = false := by cases k with | false => rfl | true => exact absurd (hk.1 rfl) hp
  subst this
  exact ⟨rfl, hb⟩
theorem not_pok_nil : ¬ POk [] := fun h => by have := h.one; simp at this

set_option maxHeartbeats 4000000 in
set_option maxRecDepth 100000 in
theorem fnCut_walk (a : Option Addr) (n cap : Nat) (w : World) (hc : n ≤ 1048576 → CodeIs w a n) :
    Calls Try.prog 5 #[.slice a n cap] w fun e w' => e = .returned (.bool true) ∧ Below w.heap.size w w' := by
  by_cases hbig : 1048576 < n
  · have hi : (1048576 : Int) < (n : Int) := by omega
    clear hc hbig
    go_enter Try.func5, Try.ntmps5
    go_wp2_with fail
    go_ret
    exact ⟨rfl, Below.refl _ _⟩
  · have H : Hid (CodeIs w a n) := hc (by omega)
    have hi : ¬ (1048576 : Int) < (n : Int) := by omega
    clear hc hbig
    go_enter Try.func5, Try.ntmps5
    go_wp2_with fail
    refine (drawProfCut_c a n cap w H.out).mono ?_
    rintro e w1 ⟨q, c, ns, t, rfl, hns, hnc, sq, hb⟩
    have HS1 : Hid (Sq w1 q (flat ns)) := sq
    have HB1 : Hid (Below w.heap.size w w1) := hb
    clear sq hb
    go_wp2_with fail
    have HS2 : Hid (Sq (w1.alloc (.cells #[.slice q ns.length c] 25)) q (flat ns)) := HS1.out.below (low_alloc _ _)
    have HB2 : Hid (Below w.heap.size w (w1.alloc (.cells #[.slice q ns.length c] 25))) := behind_alloc HB1.out _
    have HP2 : Hid (Row (w1.alloc (.cells #[.slice q ns.length c] 25)) w1.heap.size [.slice q ns.length c]) := row_fresh w1 [.slice q ns.length c] 25
    generalize w1.alloc (.cells #[.slice q ns.length c] 25) = V at *
    generalize w1.heap.size = P at *
    clear HS1 HB1
    have hPV := HP2.out.lt
    refine (implProfCut_o q c ns t hnc _ HS2.out).mono ?_
    rintro e w3 ⟨⟨v3, he3, hans, hb⟩, a3, c3, rfl, hc3⟩
    cases he3
    have hs3 := hans.sq.2
    have HS3 : Hid (Sq (w3.alloc (.cells #[.slice a3 (cutR ns t).length c3] 25)) a3 (flat (cutR ns t))) := hs3.below (low_alloc _ _)
    have B3 : Hid (Below V.heap.size V (w3.alloc (.cells #[.slice a3 (cutR ns t).length c3] 25))) := behind_alloc hb _
    have Q3 : Hid (Row (w3.alloc (.cells #[.slice a3 (cutR ns t).length c3] 25)) w3.heap.size [.slice a3 (cutR ns t).length c3]) := row_fresh w3 [.slice a3 (cutR ns t).length c3] 25
    have p3 := (HP2.out.below hb).cell 0 _ rfl
    have h3 := hb.size
    have n3 : P ≠ w3.heap.size := by omega
    have n3' : P < w3.heap.size := by omega
    clear hans hs3 hb
    go_wp2_with fail
    generalize w3.alloc (.cells #[.slice a3 (cutR ns t).length c3] 25) = U at *
    generalize w3.heap.size = Q at *
    clear p3 n3 n3'
    have hsome := beh_some U
    have q0 := Beh.row (HP2.out.below B3.out) 0 _ rfl
    have q1 := Beh.row Q3.out 0 _ rfl
    by_cases hY : POk ns ∧ timeB t = true
    · obtain ⟨hok, htt⟩ := hY
      have HOk : Hid (POk ns) := hok
      have HTt : Hid (timeB t = true) := htt
      have HRk : Hid (POk (cutR ns t)) := cut_pok hok htt
      have ht0 : 0 ≤ t := (time_iff.1 htt).1
      have ht1 : t ≤ 1000000000 := (time_iff.1 htt).2
      have hd0 : decide (0 ≤ t) = true := decide_eq_true ht0
      have hd1 : decide (t ≤ 1000000000) = true := decide_eq_true ht1
      clear hok htt
      have HC1 : Hid (∀ N : Beh U, Calls Try.prog 19 #[.agg #[.slice a3 (cutR ns t).length c3]] N.w fun e w' => e = .returned (.bool true) ∧ Below N.w.heap.size N.w w') := fun N => (implProfOk_c a3 c3 (cutR ns t) N.w (HS3.out.below N.low)).mono fun _ _ h => says_t h HRk.out
      have HC2 : Hid (∀ N : Beh U, Calls Try.prog 26 #[.agg #[.slice q ns.length c]] N.w fun e w' => e = .returned (.bool true) ∧ Below N.w.heap.size N.w w') := fun N => (specProfOk_c q c ns N.w ((HS2.out.below B3.out).below N.low)).mono fun _ _ h => says_t h HOk.out
      refine wp_region_beh (by kernel_rfl) (by kernel_rfl) ?_
      repeat (go_big_quiet_step (first | with_reducible exact calls_beh (HC1.out _) | with_reducible exact calls_beh (HC2.out _)))
      refine wpQuiet_nil ?_
      rintro ⟨w5, hb5⟩
      have B5 : Hid (Below U.heap.size U w5) := hb5
      have q5 := (Q3.out.below B5.out).cell 0 _ rfl
      clear hd0 hd1 q0 q1 hsome
      go_wp2_with fail
      refine (HC1.out ⟨w5, B5.out⟩).mono ?_
      rintro e w6 ⟨rfl, hb⟩
      have B6 : Hid (Below U.heap.size U w6) := below_then B5.out hb
      clear hb q5 B5
      have p6 := ((HP2.out.below B3.out).below B6.out).cell 0 _ rfl
      have HSU : Hid (Sq U q (flat ns)) := HS2.out.below B3.out
      have HPU : Hid (Row U P [.slice q ns.length c]) := HP2.out.below B3.out
      have hrl : (cutR ns t).length ≤ 201 := cut_len ns t
      go_wp2_with fail
      clear p6
      go_loopw [42] (fun i wr => ∃ j : Nat, j ≤ ns.length ∧ i = .int .i64 j ∧ Below U.heap.size U wr) (fun i _ => ns.length - (intOf i).toNat)
      case atStart => exact ⟨0, Nat.zero_le _, rfl, B6.out⟩
      case round =>
        obtain ⟨j, hj, rfl, hb⟩ := hrel
        have B7 : Hid (Below U.heap.size U wr) := hb
        clear hb B6
        by_cases hlt : j < ns.length
        · have hj0 : (0 : Int) ≤ (j : Int) := by omega
          have hj1 : (j : Int) < (ns.length : Int) := by omega
          obtain ⟨p, hp, c0, c1, c2, c3'⟩ := (HSU.out.below B7.out).node j hlt
          subst hp
          have HE : Hid (ns[j]? = some ns[j]) := List.getElem?_eq_getElem hlt
          generalize ns[j] = x at c0 c1 c2 c3' HE
          have hxt : timeB x.l = true := (HOk.out.each j x HE.out).1
          go_wp2_with fail
          have B8 : Hid (Below U.heap.size U (wr.alloc (.cells #[.int .i64 x.l, .int .i64 x.a, .int .i64 x.b, .int .i64 x.c] 47))) := behind_alloc B7.out _
          have X8 : Hid (Row (wr.alloc (.cells #[.int .i64 x.l, .int .i64 x.a, .int .i64 x.b, .int .i64 x.c] 47)) wr.heap.size [.int .i64 x.l, .int .i64 x.a, .int .i64 x.b, .int .i64 x.c]) := row_fresh wr [.int .i64 x.l, .int .i64 x.a, .int .i64 x.b, .int .i64 x.c] 47
          generalize wr.alloc (.cells #[.int .i64 x.l, .int .i64 x.a, .int .i64 x.b, .int .i64 x.c] 47) = U8 at *
          generalize wr.heap.size = Xb at *
          clear c0 c1 c2 c3'
          have hsome := beh_some U8
          have e0 := Beh.row X8.out 0 _ rfl
          have e1 := Beh.row X8.out 1 _ rfl
          have e2 := Beh.row X8.out 2 _ rfl
          have e3 := Beh.row X8.out 3 _ rfl
          have e4 := Beh.row (Q3.out.below B8.out) 0 _ rfl
          by_cases hge : t ≤ x.l
          · have hd : decide (t ≤ x.l) = true := decide_eq_true hge
            have hval := cut_at HOk.out HTt.out hge
            rw [at_point HOk.out HE.out] at hval
            simp only [val, Prod.mk.injEq] at hval
            obtain ⟨f1, f2, f3⟩ := hval
            have HC3 : Hid (∀ N : Beh U8, Calls Try.prog 15 #[.agg #[.slice a3 (cutR ns t).length c3], .int .i64 x.l] N.w fun e w' => e = .returned (.agg #[.int .i64 x.a, .int .i64 x.b, .int .i64 x.c]) ∧ Below N.w.heap.size N.w w') := fun N => by
              have h := implProfAt_c a3 c3 (cutR ns t) x.l N.w (HS3.out.below (below_then B8.out N.low))
              rw [atR_yes2 HRk.out hxt, f1, f2, f3] at h
              exact h
            have hvq : ∀ W : World, (Op.equalIn 10000 27 (.agg #[.int .i64 x.a, .int .i64 x.b, .int .i64 x.c]) (.agg #[.int .i64 x.a, .int .i64 x.b, .int .i64 x.c])).run Try.prog W = .ok true W := fun W => by rw [eq_vec]; simp
            clear f1 f2 f3 hge
            refine wp_region_beh (by kernel_rfl) (by kernel_rfl) ?_
            repeat (go_big_quiet_step (with_reducible exact calls_beh (HC3.out _)))
            refine wpQuiet_nil ?_
            rintro ⟨w9, hb9⟩
            have B9 : Hid (Below U.heap.size U w9) := below_then B8.out hb9
            clear e0 e1 e2 e3 e4 hsome hd
            go_wp2_with fail
            exact ⟨⟨j + 1, by omega, by go_num, B9.out⟩, by simp [intOf]; omega⟩
          · have hd : decide (t ≤ x.l) = false := decide_eq_false hge
            clear hge
            refine wp_region_beh (by kernel_rfl) (by kernel_rfl) ?_
            repeat (go_big_quiet_step (fail))
            refine wpQuiet_nil ?_
            rintro ⟨w9, hb9⟩
            have B9 : Hid (Below U.heap.size U w9) := below_then B8.out hb9
            clear e0 e1 e2 e3 e4 hsome hd
            go_wp2_with fail
            exact ⟨⟨j + 1, by omega, by go_num, B9.out⟩, by simp [intOf]; omega⟩
        · have hval := cut_first HOk.out HTt.out
          simp only [val, Prod.mk.injEq] at hval
          obtain ⟨f1, f2, f3⟩ := hval
          have HTl : Hid (((timesR (cutR ns t)).length : Int) ≤ ((timesR ns).length : Int)) := by
            have h := cut_less HOk.out HTt.out
            show _ ≤ _
            rw [timesR, if_pos HRk.out, timesR, if_pos HOk.out, ats_len, ats_len]
            omega
          have HD1 : Hid (∀ W, Below U.heap.size U W → Calls Try.prog 15 #[.agg #[.slice a3 (cutR ns t).length c3], .int .i64 0] W fun e w' => e = .returned (.agg #[.int .i64 (atL ns t).a, .int .i64 (atL ns t).b, .int .i64 (atL ns t).c]) ∧ Below W.heap.size W w') := fun W hW => by
            have h := implProfAt_c a3 c3 (cutR ns t) 0 W (HS3.out.below hW)
            rw [atR_yes2 HRk.out (by decide), f1, f2, f3] at h
            exact h
          have HD2 : Hid (∀ W, Below U.heap.size U W → Calls Try.prog 15 #[.agg #[.slice q ns.length c], .int .i64 t] W fun e w' => e = .returned (.agg #[.int .i64 (atL ns t).a, .int .i64 (atL ns t).b, .int .i64 (atL ns t).c]) ∧ Below W.heap.size W w') := fun W hW => by
            have h := implProfAt_c q c ns t W (HSU.out.below hW)
            rw [atR_yes2 HOk.out HTt.out] at h
            exact h
          have HD3 : Hid (∀ W, Below U.heap.size U W → Calls Try.prog 27 #[.agg #[.slice a3 (cutR ns t).length c3]] W fun e w' => ∃ a' c', e = .returned (.slice a' (timesR (cutR ns t)).length c') ∧ Below W.heap.size W w') := fun W hW => by
            refine (implProfTimes_c a3 c3 (cutR ns t) W (HS3.out.below hW)).mono ?_
            rintro e w' ⟨v, rfl, hans, hb⟩
            obtain ⟨a', c', hv⟩ := hans.form
            rw [ints_len] at hv
            exact ⟨a', c', by rw [hv], hb⟩
          have HD4 : Hid (∀ W, Below U.heap.size U W → Calls Try.prog 27 #[.agg #[.slice q ns.length c]] W fun e w' => ∃ a' c', e = .returned (.slice a' (timesR ns).length c') ∧ Below W.heap.size W w') := fun W hW => by
            refine (implProfTimes_c q c ns W (HSU.out.below hW)).mono ?_
            rintro e w' ⟨v, rfl, hans, hb⟩
            obtain ⟨a', c', hv⟩ := hans.form
            rw [ints_len] at hv
            exact ⟨a', c', by rw [hv], hb⟩
          have HD5 : Hid (∀ W, Below U.heap.size U W → Calls Try.prog 25 #[.agg #[.slice a3 (cutR ns t).length c3], .int .i64 t] W fun e w' => ∃ a' c', e = .returned (.agg #[.slice a' (cutR ns t).length c']) ∧ Sq w' a' (flat (cutR ns t)) ∧ Below W.heap.size W w') := fun W hW => by
            have h := implProfCut_c a3 c3 (cutR ns t) t hc3 W (HS3.out.below hW)
            rw [cut_again HOk.out HTt.out] at h
            refine h.mono ?_
            rintro e w' ⟨v, rfl, hans, hb⟩
            obtain ⟨a', c', hv, hs⟩ := hans.form
            subst hv
            exact ⟨a', c', rfl, hs, hb⟩
          have HD6 : Hid (∀ a' c' W, Below U.heap.size U W → Sq W a' (flat (cutR ns t)) → Calls Try.prog 18 #[.agg #[.slice a' (cutR ns t).length c'], .agg #[.slice a3 (cutR ns t).length c3]] W fun e w' => e = .returned (.bool true) ∧ Below W.heap.size W w') := fun a' c' W hW hs => (implSameProf_c a' a3 c' c3 (cutR ns t) (cutR ns t) W hs (HS3.out.below hW)).mono fun _ _ h => says_t h ⟨HRk.out, HRk.out, rfl⟩
          have HK : Hid (∀ W : World, Below U.heap.size U W → Below U.heap.size U W ∧ U.heap.size ≤ W.heap.size ∧ W.cell? ⟨P, 0, none⟩ = some (.slice q ns.length c) ∧ W.cell? ⟨Q, 0, none⟩ = some (.slice a3 (cutR ns t).length c3)) := fun W h => ⟨h, h.size, (HPU.out.below h).cell 0 _ rfl, (Q3.out.below h).cell 0 _ rfl⟩
          have D1 : Hid (Below U.heap.size U wr.drew) := below_then B7.out (low_drew _)
          have hcut0 : (cutR ns t).length ≤ 201 := hrl
          generalize cutR ns t = r at *
          generalize atL ns t = m at *
          have htl := HTl.out
          have hdt : decide (((timesR r).length : Int) ≤ ((timesR ns).length : Int)) = true := decide_eq_true htl
          generalize (timesR r).length = l1 at *
          generalize (timesR ns).length = l2 at *
          have hvq : ∀ W : World, (Op.equalIn 10000 27 (.agg #[.int .i64 m.a, .int .i64 m.b, .int .i64 m.c]) (.agg #[.int .i64 m.a, .int .i64 m.b, .int .i64 m.c])).run Try.prog W = .ok true W := fun W => by rw [eq_vec]; simp
          clear f1 f2 f3
          go_wp2_with fail
          go_region_held3 (fun W => Below U.heap.size U W ∧ U.heap.size ≤ W.heap.size ∧ W.cell? ⟨P, 0, none⟩ = some (.slice q ns.length c) ∧ W.cell? ⟨Q, 0, none⟩ = some (.slice a3 r.length c3)) ((go_split_ands; refine HK.out _ ?_; first | (exact Hid.out (by with_reducible assumption)) | (with_reducible assumption) | (exact behind (by with_reducible assumption) (by with_reducible assumption)) | (go_grown; done)))
            (first
            | (go_at_call_of 15 (Value.int IntKind.i64 0); refine (HD1.out _ (And.left (by with_reducible assumption))).mono ?_; rintro e wk ⟨rfl, hbk⟩; have Bk : Hid (Below U.heap.size U wk) := behind hbk (And.left (by with_reducible assumption)))
            | (go_at_call_of 15 (Value.int IntKind.i64 t); refine (HD2.out _ (And.left (by with_reducible assumption))).mono ?_; rintro e wk ⟨rfl, hbk⟩; have Bk : Hid (Below U.heap.size U wk) := behind hbk (And.left (by with_reducible assumption)))
            | (go_at_call_of 27 (Value.agg #[Value.slice a3 r.length c3]); refine (HD3.out _ (And.left (by with_reducible assumption))).mono ?_; rintro e wk ⟨a', c', rfl, hbk⟩; have Bk : Hid (Below U.heap.size U wk) := behind hbk (And.left (by with_reducible assumption)))
            | (go_at_call_of 27 (Value.agg #[Value.slice q ns.length c]); refine (HD4.out _ (And.left (by with_reducible assumption))).mono ?_; rintro e wk ⟨a', c', rfl, hbk⟩; have Bk : Hid (Below U.heap.size U wk) := behind hbk (And.left (by with_reducible assumption)))
            | (go_at_call 25; refine (HD5.out _ (And.left (by with_reducible assumption))).mono ?_; rintro e wk ⟨a', c', rfl, hsk, hbk⟩; have SK : Hid (Sq wk a' (flat r)) := hsk; clear hsk; have Bk : Hid (Below U.heap.size U wk) := behind hbk (And.left (by with_reducible assumption)))
            | (go_at_call 18; refine (HD6.out _ _ _ (And.left (by with_reducible assumption)) SK.out).mono ?_; rintro e wk ⟨rfl, hbk⟩; have Bk : Hid (Below U.heap.size U wk) := behind hbk (And.left (by with_reducible assumption))))
          all_goals
            go_split_ands
            go_wp2_with fail
            go_ret
            exact ⟨rfl, below_then HB2.out (below_then B3.out Bk.out)⟩
    · have HN : Hid (cutR ns t = []) := cut_no hY
      have HC1 : Hid (∀ N : Beh U, Calls Try.prog 19 #[.agg #[.slice a3 (cutR ns t).length c3]] N.w fun e w' => e = .returned (.bool false) ∧ Below N.w.heap.size N.w w') := fun N => (implProfOk_c a3 c3 (cutR ns t) N.w (HS3.out.below N.low)).mono fun _ _ h => says_f h (by rw [HN.out]; exact not_pok_nil)
      by_cases hok : POk ns
      case' neg =>
        have HC2 : Hid (∀ N : Beh U, Calls Try.prog 26 #[.agg #[.slice q ns.length c]] N.w fun e w' => e = .returned (.bool false) ∧ Below N.w.heap.size N.w w') := fun N => (specProfOk_c q c ns N.w ((HS2.out.below B3.out).below N.low)).mono fun _ _ h => says_f h hok
      case' pos =>
        have HC2 : Hid (∀ N : Beh U, Calls Try.prog 26 #[.agg #[.slice q ns.length c]] N.w fun e w' => e = .returned (.bool true) ∧ Below N.w.heap.size N.w w') := fun N => (specProfOk_c q c ns N.w ((HS2.out.below B3.out).below N.low)).mono fun _ _ h => says_t h hok
        have htn : ¬ (0 ≤ t ∧ t ≤ 1000000000) := fun h => hY ⟨hok, time_iff.2 h⟩
        by_cases ht0 : 0 ≤ t
        case' pos =>
          have hd0 : decide (0 ≤ t) = true := decide_eq_true ht0
          have hd1 : decide (t ≤ 1000000000) = false := decide_eq_false (fun h => htn ⟨ht0, h⟩)
        case' neg =>
          have hd0 : decide (0 ≤ t) = false := decide_eq_false ht0
      all_goals
        clear hY hok
        refine wp_region_beh (by kernel_rfl) (by kernel_rfl) ?_
        repeat (go_big_quiet_step (first | with_reducible exact calls_beh (HC1.out _) | with_reducible exact calls_beh (HC2.out _)))
        refine wpQuiet_nil ?_
        rintro ⟨w5, hb5⟩
        have B5 : Hid (Below U.heap.size U w5) := hb5
        have q5 := (Q3.out.below B5.out).cell 0 _ rfl
        clear q0 q1 hsome
        go_wp2_with fail
        refine (HC1.out ⟨w5, B5.out⟩).mono ?_
        rintro e w6 ⟨rfl, hb⟩
        have B6 : Hid (Below U.heap.size U w6) := below_then B5.out hb
        have q6 := (Q3.out.below B6.out).cell 0 _ rfl
        clear hb q5 B5
        have hz : (cutR ns t).length = 0 := by rw [HN.out]; rfl
        rw [hz] at q6
        go_wp2_with fail
        go_ret
        exact ⟨rfl, below_then HB2.out (below_then B3.out B6.out)⟩
end Go.Proofs.Ytgpogglaffehcaa

namespace Go.Proofs.Ytgpogglaffehcaa
open Go.ChangeShapes Go.WideShapes Go.ChangeAt Go.RowKit

theorem laidOutAll : laidOutB Try.prog = true := by kernel_rfl
theorem cellsByte : Try.prog.cellsOf 5 = 1 := by kernel_rfl

theorem byte_in {x : Int} (h : (Lit.int .u8 x).wf = true) : 0 ≤ x ∧ x < 256 := by
  have h1 : IntKind.u8.min = 0 := rfl
  have h2 : IntKind.u8.max = 255 := rfl
  simp only [Lit.wf, Bool.and_eq_true, decide_eq_true_eq] at h
  omega

/-- A code that came in: its length, and its bytes where it is no longer than the laws look at. -/
theorem code_opened {H : Type} {enc : TypeId × Value → H} {W : World} {a : Option Addr} {n cap : Nat} {d : DataW H} {p : List MemPlace}
    (h : DataW.Trod enc Try.prog W 0 (fun _ => true) true 22 (.slice a n cap) d p) : n ≤ maxLen ∧ (n ≤ 1048576 → CodeIs W a n) := by
  obtain ⟨fuel, hf⟩ := h
  rcases open_ints Try.underlying22 Try.underlying5 cellsByte hf with ⟨hcs, _⟩ | ⟨b, len, c, zs, hcs, _, hl, hm, hz, _, hcell, hwz⟩
  · simp [Value.cells] at hcs
    obtain ⟨rfl, rfl, rfl⟩ := hcs
    exact ⟨Nat.zero_le _, fun _ => ⟨by omega, fun i hi => by omega⟩⟩
  · simp [Value.cells] at hcs
    obtain ⟨rfl, rfl, rfl⟩ := hcs
    simp only [if_true] at hz
    refine ⟨by omega, fun hn => ⟨hn, fun i hi => ?_⟩⟩
    have hi' : i < zs.length := by omega
    have hc := hcell i hi'
    have hg : zs.getD i 0 = zs[i] := by simp [List.getD, hi']
    have hw := byte_in (hwz zs[i] (List.getElem_mem hi'))
    refine ⟨b, zs[i], rfl, ?_, by rw [hc, hg], hw.1, hw.2⟩
    have := World.block_lt_of_cell? _ _ hc
    rwa [block_add] at this
end Go.Proofs.Ytgpogglaffehcaa

namespace Go.Proofs.Ytgpogglaffehcaa
namespace LawFnCut
open Go.ChangeShapes Go.WideShapes Go.ChangeAt Go.RowKit Go.Joins

theorem own : ownKnob Try.prog.godebug = none := by kernel_rfl

set_option maxRecDepth 100000 in
theorem lifted (os : Os) (started : os.Started) (H : Type) (enc : TypeId × Value → H) :
    ReturnsInHanded {} Try.checked os 5 .any (Rows.fnCutSpec.pre6 enc Try.prog Try.f5 Rows.fnCutRow.domain false) (Rows.fnCutSpec.post enc Try.prog Try.f5 false true false false) := by
  refine returnsInHanded_of_change (C := Try.checked) own started (by kernel_rfl) Try.func5
    (ChangeSpec.witness6 (enc := enc) (C := Try.checked) false ⟨#[], #[.slice none 0 0], []⟩ 8 (by kernel_rfl) (by kernel_rfl) (by kernel_rfl) (by kernel_rfl)) ?_
  intro W base args ds gs before hval0 hW _ _
  have hval : ∀ (j : Nat) t v, Try.f5.params[j]? = some t → args[j]? = some v → Value.okWide Try.prog W .any base t v := hval0
  have hW' := hW
  obtain ⟨p, q, hA0, hV, rfl, _, _⟩ := hW
  have hA : DataW.TrodAll enc Try.prog W 0 (fun _ => true) true Try.f5.params.toList args.toList ds p := hA0
  rw [Try.params5] at hA hval
  obtain ⟨v0, d0, rfl, rfl, h0⟩ := trodAll_one hA
  obtain ⟨rfl, rfl⟩ := trodVars_none hV
  obtain ⟨a, n, cap, rfl⟩ := okWide_slice Try.underlying22 (hval 0 22 v0 rfl rfl)
  clear hA0 hval0
  simp only [List.append_nil] at hW'
  obtain ⟨_, hc⟩ := code_opened h0
  refine (fnCut_walk a n cap W hc).mono fun e W' ⟨he, hg⟩ => ?_
  subst he
  have hlt : ∀ x ∈ p, x.block < W.heap.size := fun x hx => by simpa using hW'.lt x hx
  have harg := Below.trod laidOutAll (by kernel_rfl) (of_decide_eq_true (by kernel_rfl)) h0 hg hlt
  exact ⟨_, rfl, _, _, _, [], _, [], hW', trodAll_mk1 (shut_bool Try.underlying4 _), trodAll_mk1 harg, rfl, hg.frame _, fun h => by cases h⟩
end LawFnCut

/-- For every code: the law returns true, and the code reads as it did. -/
theorem fnCut_holds : Rows.FnCutSaid :=
  OpenClaim.holds_of_wide 5 Try.f5 rfl rfl rfl rfl rfl rfl rfl ⟨rfl, rfl, rfl, rfl, rfl⟩ rfl rfl rfl rfl rfl (by kernel_rfl) Try.func5 (by kernel_rfl)
    (of_decide_eq_true (by kernel_rfl)) (by unfold Func.isWrapper; rw [if_neg (of_decide_eq_false (by kernel_rfl))]; exact ⟨rfl, rfl⟩)
    (fun os started H enc _ => LawFnCut.lifted os started H enc)
#print axioms fnCut_holds
end Go.Proofs.Ytgpogglaffehcaa
