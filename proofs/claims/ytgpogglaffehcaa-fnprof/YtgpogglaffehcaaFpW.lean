/- The law on what is taken: the walk. -/
import Derived.Test.YtgpogglaffehcaaPDrF
import Derived.Test.YtgpogglaffehcaaTkI
import Derived.Test.YtgpogglaffehcaaPSame
import Derived.Test.YtgpogglaffehcaaPAtC
import Derived.Deep.RegionWith
import Derived.Deep.DeepCutAuto
namespace Go.Proofs.Ytgpogglaffehcaa
open Go.ChangeShapes Go.WideShapes Go.ChangeAt Go.RowKit

theorem atR_yes' {ns : List Nd} {t : Int} (h : POk ns) (ht : timeB t = true) : atR ns t = atL ns t := by
  unfold atR
  rw [if_pos ⟨h, ht⟩]

set_option maxHeartbeats 4000000 in
set_option maxRecDepth 100000 in
theorem fnProf_walk (a : Option Addr) (n cap : Nat) (w : World) (hc : n ≤ 1048576 → CodeIs w a n) :
    Calls Try.prog 3 #[.slice a n cap] w fun e w' => e = .returned (.bool true) ∧ Below w.heap.size w w' := by
  by_cases hbig : 1048576 < n
  · have hi : (1048576 : Int) < (n : Int) := by omega
    clear hc hbig
    go_enter Try.func3, Try.ntmps3
    go_wp2_with fail
    go_ret
    exact ⟨rfl, Below.refl _ _⟩
  · have H : Hid (CodeIs w a n) := hc (by omega)
    have hi : ¬ (1048576 : Int) < (n : Int) := by omega
    clear hc hbig
    go_enter Try.func3, Try.ntmps3
    go_wp2_with fail
    refine (drawProfTake_c a n cap w H.out).mono ?_
    rintro e w1 ⟨q, c, ns, f, t, x, y, z, rfl, hns, hnc, sq, hb⟩
    have HS1 : Hid (Sq w1 q (flat ns)) := sq
    have HB1 : Hid (Below w.heap.size w w1) := hb
    clear sq hb
    go_wp2_with fail
    generalize hV : (w1.alloc (.cells #[.slice q ns.length c] 25)).alloc (.cells #[.int .i64 x, .int .i64 y, .int .i64 z] 27) = V
    have HS2 : Hid (Sq V q (flat ns)) := by subst hV; exact (HS1.out.below (low_alloc _ _)).below (low_alloc _ _)
    have HB2 : Hid (Below w.heap.size w V) := by subst hV; exact behind_alloc (behind_alloc HB1.out _) _
    have HP2 : Hid (Row V w1.heap.size [.slice q ns.length c]) := by subst hV; exact (row_fresh w1 [.slice q ns.length c] 25).below (low_alloc _ _)
    have HV2 : Hid (Row V (w1.heap.size + 1) [.int .i64 x, .int .i64 y, .int .i64 z]) := by
      subst hV
      have h := row_fresh (w1.alloc (.cells #[.slice q ns.length c] 25)) [.int .i64 x, .int .i64 y, .int .i64 z] 27
      rw [show (w1.alloc (.cells #[.slice q ns.length c] 25)).heap.size = w1.heap.size + 1 by simp [go_sem]] at h
      exact h
    clear hV HS1 HB1
    generalize w1.heap.size = P at *
    have hVl := HV2.out.lt
    cases hR : tkR false (⟨0, x, y, z⟩ : Nd) ns f t with
    | none =>
      have HTI := implProfTake_c q c ns f t (⟨0, x, y, z⟩ : Nd) V HS2.out
      have HTS : Hid (∀ W, Below V.heap.size V W → Calls Try.prog 14 #[.agg #[.slice q ns.length c], .int .i64 f, .int .i64 t, .agg #[.int .i64 x, .int .i64 y, .int .i64 z]] W (RetP W [] false)) := fun W hW => by
        have h := specProfTake_c q c ns f t (⟨0, x, y, z⟩ : Nd) W (HS2.out.below hW)
        rw [hR] at h
        exact h
      rw [hR] at HTI
      clear hR
      refine HTI.mono ?_
      rintro e w3 ⟨v3, rfl, hans, hb⟩
      obtain ⟨a3, c3, hv3, _⟩ := hans.form
      subst hv3
      have B3 : Hid (Below V.heap.size V w3) := hb
      clear hans hb HTI
      have h3 := B3.out.size
      have p3 := (HP2.out.below B3.out).cell 0 _ rfl
      have y0 := (HV2.out.below B3.out).cell 0 _ rfl
      have y1 := (HV2.out.below B3.out).cell 1 _ rfl
      have y2 := (HV2.out.below B3.out).cell 2 _ rfl
      have n1 : P ≠ w3.heap.size := by omega
      have n2 : P + 1 ≠ w3.heap.size := by omega
      have n3 : P < w3.heap.size := by omega
      have n4 : P + 1 < w3.heap.size := by omega
      go_wp2_with fail
      refine (HTS.out _ (behind_alloc B3.out _)).mono ?_
      rintro e w5 ⟨v5, rfl, hans, hb⟩
      obtain ⟨a5, c5, hv5, _⟩ := hans.form
      subst hv5
      have q5 := ((row_fresh w3 [.slice a3 ([] : List Nd).length c3] 25).below hb).cell 0 _ rfl
      have l5 := ((row_fresh w3 [.slice a3 ([] : List Nd).length c3] 25).below hb).lt
      have n5 : w3.heap.size ≠ w5.heap.size := by omega
      have B5 : Hid (Below V.heap.size V w5) := below_then (behind_alloc B3.out _) hb
      clear hans hb
      go_wp2_with fail
      go_ret
      exact ⟨rfl, below_then HB2.out (behind_alloc B5.out _)⟩
    | some r =>
      obtain ⟨hok, hs, _, hrok⟩ := tk_some hR
      have hsp := span_iff.1 hs
      have HTI := implProfTake_c q c ns f t (⟨0, x, y, z⟩ : Nd) V HS2.out
      have HTS : Hid (∀ W, Below V.heap.size V W → Calls Try.prog 14 #[.agg #[.slice q ns.length c], .int .i64 f, .int .i64 t, .agg #[.int .i64 x, .int .i64 y, .int .i64 z]] W (RetP W r true)) := fun W hW => by
        have h := specProfTake_c q c ns f t (⟨0, x, y, z⟩ : Nd) W (HS2.out.below hW)
        rw [hR] at h
        exact h
      rw [hR] at HTI
      have HR : Hid (tkR false (⟨0, x, y, z⟩ : Nd) ns f t = some r) := hR
      have HOk : Hid (POk ns) := hok
      have HRk : Hid (POk r) := hrok
      clear hR hok hrok hs
      refine HTI.mono ?_
      rintro e w3 ⟨v3, rfl, hans, hb⟩
      change AnsP V.heap.size w3.heap.size w3 r.length (flat r) v3 at hans
      obtain ⟨a3, c3, hv3, hs3⟩ := hans.form
      subst hv3
      have B3 : Hid (Below V.heap.size V w3) := hb
      have S3 : Hid (Sq w3 a3 (flat r)) := hs3
      clear hans hb HTI hs3
      have h3 := B3.out.size
      have p3 := (HP2.out.below B3.out).cell 0 _ rfl
      have y0 := (HV2.out.below B3.out).cell 0 _ rfl
      have y1 := (HV2.out.below B3.out).cell 1 _ rfl
      have y2 := (HV2.out.below B3.out).cell 2 _ rfl
      have n1 : P ≠ w3.heap.size := by omega
      have n2 : P + 1 ≠ w3.heap.size := by omega
      have n3 : P < w3.heap.size := by omega
      have n4 : P + 1 < w3.heap.size := by omega
      go_wp2_with fail
      refine (HTS.out _ (behind_alloc B3.out _)).mono ?_
      rintro e w5 ⟨v5, rfl, hans, hb⟩
      obtain ⟨a5, c5, hv5, _⟩ := hans.form
      subst hv5
      have Q5 : Hid (Row w5 w3.heap.size [.slice a3 r.length c3]) := (row_fresh w3 [.slice a3 r.length c3] 25).below hb
      have S5 : Hid (Sq w5 a3 (flat r)) := (S3.out.below (low_alloc _ _)).below hb
      have B5 : Hid (Below V.heap.size V w5) := below_then (behind_alloc B3.out _) hb
      clear hans hb S3 B3 p3 y0 y1 y2 n1 n2 n3 n4 HTS
      generalize w3.heap.size = Q at *
      have hq5 := Q5.out.lt
      go_wp2_with fail
      generalize hU : (w5.alloc (.cells #[.slice a5 r.length c5] 25)).alloc (.cells #[.int .i64 0, .int .i64 (f - 1), .int .i64 f, .int .i64 ((f + t) / 2), .int .i64 (t - 1), .int .i64 t, .int .i64 (t + 1), .int .i64 1000000000] 3) = U
      have B6' : Hid (Below V.heap.size V U) := by subst hU; exact behind_alloc (behind_alloc B5.out _) _
      have S6 : Hid (Sq U a3 (flat r)) := by subst hU; exact (S5.out.below (low_alloc _ _)).below (low_alloc _ _)
      have Q6 : Hid (Row U Q [.slice a3 r.length c3]) := by subst hU; exact (Q5.out.below (low_alloc _ _)).below (low_alloc _ _)
      have L6 : Hid (Row U (w5.heap.size + 1) (ints [0, f - 1, f, (f + t) / 2, t - 1, t, t + 1, 1000000000])) := by
        subst hU
        have h := row_fresh (w5.alloc (.cells #[.slice a5 r.length c5] 25)) (ints [0, f - 1, f, (f + t) / 2, t - 1, t, t + 1, 1000000000]) 3
        rw [show (w5.alloc (.cells #[.slice a5 r.length c5] 25)).heap.size = w5.heap.size + 1 by simp [go_sem]] at h
        exact h
      clear hU S5 Q5 B5
      generalize hts : [0, f - 1, f, (f + t) / 2, t - 1, t, t + 1, 1000000000] = ts at L6
      have htl : ts.length = 8 := by rw [← hts]; rfl
      clear hts
      generalize w5.heap.size + 1 = Lb at *
      have hUV := B6'.out.size
      have hLb := L6.out.lt
      have hQU := Q6.out.lt
      have HS6 : Hid (Sq U q (flat ns)) := HS2.out.below B6'.out
      have HP6 : Hid (Row U P [.slice q ns.length c]) := HP2.out.below B6'.out
      go_loopw [68] (fun i wr => ∃ j : Nat, j ≤ 8 ∧ i = .int .i64 j ∧ Below U.heap.size U wr) (fun i _ => 8 - (intOf i).toNat)
      case atStart => exact ⟨0, by omega, rfl, Below.refl _ _⟩
      case round =>
        obtain ⟨j, hj, rfl, hb⟩ := hrel
        have B6 : Hid (Below U.heap.size U wr) := hb
        clear hb
        have p6 := (HP6.out.below B6.out).cell 0 _ rfl
        by_cases hlt : j < 8
        · have hj0 : (0 : Int) ≤ (j : Int) := by omega
          have hj1 : (j : Int) < 8 := by omega
          have tc := (L6.out.below B6.out).cell j _ (ints_at ts j (by omega))
          generalize ts[j] = τ at tc
          have HA : Hid (∀ W, Below U.heap.size U W → Calls Try.prog 15 #[.agg #[.slice q ns.length c], .int .i64 τ] W fun e w' => e = .returned (.agg #[.int .i64 (atR ns τ).a, .int .i64 (atR ns τ).b, .int .i64 (atR ns τ).c]) ∧ Below W.heap.size W w') := fun W hW => implProfAt_c q c ns τ W (HS6.out.below hW)
          have HA' : Hid (∀ W, Below U.heap.size U W → Calls Try.prog 15 #[.agg #[.slice a3 r.length c3], .int .i64 τ] W fun e w' => e = .returned (.agg #[.int .i64 (atR r τ).a, .int .i64 (atR r τ).b, .int .i64 (atR r τ).c]) ∧ Below W.heap.size W w') := fun W hW => implProfAt_c a3 c3 r τ W (S6.out.below hW)
          by_cases hout : τ < 0 ∨ 1000000000 < τ
          · generalize atR ns τ = m at HA
            generalize atR r τ = m' at HA'
            by_cases ho0 : τ < 0
            case' neg => have ho1 : 1000000000 < τ := hout.resolve_left ho0
            all_goals
              clear hout
              go_wp2_with fail
              refine (HA.out wr B6.out).mono ?_
              rintro e w7 ⟨rfl, hb⟩
              have B7 : Hid (Below U.heap.size U w7) := below_then B6.out hb
              have q7 := (Q6.out.below B7.out).cell 0 _ rfl
              have h7 := B7.out.size
              have n7 : Q ≠ w7.heap.size := by omega
              have n7' : Q < w7.heap.size := by omega
              clear hb tc p6
              go_wp2_with fail
              have B8 : Hid (Below U.heap.size U (w7.alloc (.cells #[.int .i64 m.a, .int .i64 m.b, .int .i64 m.c] 27))) := behind_alloc B7.out _
              have A8 : Hid (Row (w7.alloc (.cells #[.int .i64 m.a, .int .i64 m.b, .int .i64 m.c] 27)) w7.heap.size [.int .i64 m.a, .int .i64 m.b, .int .i64 m.c]) := row_fresh w7 [.int .i64 m.a, .int .i64 m.b, .int .i64 m.c] 27
              generalize w7.alloc (.cells #[.int .i64 m.a, .int .i64 m.b, .int .i64 m.c] 27) = w8 at *
              clear q7 n7 n7' B7
              generalize w7.heap.size = Ab at *
              refine (HA'.out w8 B8.out).mono ?_
              rintro e w9 ⟨rfl, hb⟩
              have B9 : Hid (Below U.heap.size U w9) := below_then B8.out hb
              have A9 : Hid (Row w9 Ab [.int .i64 m.a, .int .i64 m.b, .int .i64 m.c]) := A8.out.below hb
              clear hb B8 A8
              have a0 := A9.out.cell 0 _ rfl
              have a1 := A9.out.cell 1 _ rfl
              have a2 := A9.out.cell 2 _ rfl
              have l9 := A9.out.lt
              have n9 : Ab ≠ w9.heap.size := by omega
              have h9 := B9.out.size
              have n10 : P + 1 ≠ w9.heap.size := by omega
              have n11 : P + 1 < w9.heap.size := by omega
              have v0 := ((HV2.out.below B6'.out).below B9.out).cell 0 _ rfl
              have v1 := ((HV2.out.below B6'.out).below B9.out).cell 1 _ rfl
              have v2 := ((HV2.out.below B6'.out).below B9.out).cell 2 _ rfl
              go_wp2_with fail
              have B10 : Hid (Below U.heap.size U (w9.alloc (.cells #[.int .i64 m'.a, .int .i64 m'.b, .int .i64 m'.c] 27))) := behind_alloc B9.out _
              exact ⟨⟨j + 1, by omega, by go_num, B10.out⟩, by simp [intOf]; omega⟩
          · have ht0 : 0 ≤ τ := by omega
            have ht1 : τ ≤ 1000000000 := by omega
            have ho0 : ¬ τ < 0 := by omega
            have ho1 : ¬ 1000000000 < τ := by omega
            have htt : timeB τ = true := time_iff.2 ⟨ht0, ht1⟩
            rw [atR_yes' HOk.out htt] at HA
            rw [atR_yes' HRk.out htt] at HA'
            obtain ⟨k1, k2⟩ := tk_at HR.out ht0
            generalize atL ns τ = m at *
            generalize atL r τ = m' at *
            clear hout htt
            by_cases hin : f ≤ τ ∧ τ < t
            · obtain ⟨cc, hcc, hval⟩ := k1 hin
              simp only [val, Prod.mk.injEq] at hval
              obtain ⟨e1, e2, e3⟩ := hval
              have HC : Hid (∀ W, Calls Try.prog 16 #[.agg #[.int .i64 m'.a, .int .i64 m'.b, .int .i64 m'.c], .agg #[.int .i64 x, .int .i64 y, .int .i64 z]] W fun e w' => e = .returned (.tuple #[.agg #[.int .i64 m.a, .int .i64 m.b, .int .i64 m.c], .bool true]) ∧ Below W.heap.size W w') := fun W => by
                have h := implVecAdd_g (⟨0, x, y, z⟩ : Nd) m' W
                rw [chV, hcc] at h
                simp only [Option.getD_some, Option.isSome_some, e1, e2, e3] at h
                exact h
              have hvq : ∀ W : World, (Op.equalIn 10000 27 (.agg #[.int .i64 m.a, .int .i64 m.b, .int .i64 m.c]) (.agg #[.int .i64 m.a, .int .i64 m.b, .int .i64 m.c])).run Try.prog W = .ok true W := fun W => by rw [eq_vec]; simp
              obtain ⟨hi1, hi2⟩ := hin
              clear k1 k2 hcc e1 e2 e3 hj
              go_wp2_with fail
              refine (HA.out wr B6.out).mono ?_
              rintro e w7 ⟨rfl, hb⟩
              have B7 : Hid (Below U.heap.size U w7) := below_then B6.out hb
              have q7 := (Q6.out.below B7.out).cell 0 _ rfl
              have h7 := B7.out.size
              have n7 : Q ≠ w7.heap.size := by omega
              have n7' : Q < w7.heap.size := by omega
              clear hb tc p6
              go_wp2_with fail
              have B8 : Hid (Below U.heap.size U (w7.alloc (.cells #[.int .i64 m.a, .int .i64 m.b, .int .i64 m.c] 27))) := behind_alloc B7.out _
              have A8 : Hid (Row (w7.alloc (.cells #[.int .i64 m.a, .int .i64 m.b, .int .i64 m.c] 27)) w7.heap.size [.int .i64 m.a, .int .i64 m.b, .int .i64 m.c]) := row_fresh w7 [.int .i64 m.a, .int .i64 m.b, .int .i64 m.c] 27
              generalize w7.alloc (.cells #[.int .i64 m.a, .int .i64 m.b, .int .i64 m.c] 27) = w8 at *
              clear q7 n7 n7' B7
              generalize w7.heap.size = Ab at *
              refine (HA'.out w8 B8.out).mono ?_
              rintro e w9 ⟨rfl, hb⟩
              have B9 : Hid (Below U.heap.size U w9) := below_then B8.out hb
              have A9 : Hid (Row w9 Ab [.int .i64 m.a, .int .i64 m.b, .int .i64 m.c]) := A8.out.below hb
              clear hb B8 A8
              have a0 := A9.out.cell 0 _ rfl
              have a1 := A9.out.cell 1 _ rfl
              have a2 := A9.out.cell 2 _ rfl
              have l9 := A9.out.lt
              have n9 : Ab ≠ w9.heap.size := by omega
              have h9 := B9.out.size
              have n10 : P + 1 ≠ w9.heap.size := by omega
              have n11 : P + 1 < w9.heap.size := by omega
              have v0 := ((HV2.out.below B6'.out).below B9.out).cell 0 _ rfl
              have v1 := ((HV2.out.below B6'.out).below B9.out).cell 1 _ rfl
              have v2 := ((HV2.out.below B6'.out).below B9.out).cell 2 _ rfl
              go_wp2_with fail
              refine (HC.out _).mono ?_
              rintro e wa ⟨rfl, hb⟩
              have Ba : Hid (Below U.heap.size U wa) := below_then (behind_alloc B9.out _) hb
              have Aa : Hid (Row wa Ab [.int .i64 m.a, .int .i64 m.b, .int .i64 m.c]) := (A9.out.below (low_alloc _ _)).below hb
              clear hb a0 a1 a2 n9
              have a0 := Aa.out.cell 0 _ rfl
              have a1 := Aa.out.cell 1 _ rfl
              have a2 := Aa.out.cell 2 _ rfl
              have n9 : Ab ≠ wa.heap.size := by have := Aa.out.lt; omega
              have l10 := Aa.out.lt
              have B10 : Hid (Below U.heap.size U (wa.alloc (.cells #[.int .i64 m.a, .int .i64 m.b, .int .i64 m.c] 27))) := behind_alloc Ba.out _
              have hjj : j ≤ 8 := by omega
              go_wp2_with fail
              exact ⟨⟨j + 1, by omega, by go_num, B10.out⟩, by simp [intOf]; omega⟩
            · have hval := k2 hin
              simp only [val, Prod.mk.injEq] at hval
              obtain ⟨e1, e2, e3⟩ := hval
              rw [e1, e2, e3] at HA'
              have hvq : ∀ W : World, (Op.equalIn 10000 27 (.agg #[.int .i64 m.a, .int .i64 m.b, .int .i64 m.c]) (.agg #[.int .i64 m.a, .int .i64 m.b, .int .i64 m.c])).run Try.prog W = .ok true W := fun W => by rw [eq_vec]; simp
              by_cases hi1 : f ≤ τ
              case' pos => have hi2 : ¬ τ < t := fun h => hin ⟨hi1, h⟩
              all_goals
                clear k1 k2 e1 e2 e3 hin
                go_wp2_with fail
                refine (HA.out wr B6.out).mono ?_
                rintro e w7 ⟨rfl, hb⟩
                have B7 : Hid (Below U.heap.size U w7) := below_then B6.out hb
                have q7 := (Q6.out.below B7.out).cell 0 _ rfl
                have h7 := B7.out.size
                have n7 : Q ≠ w7.heap.size := by omega
                have n7' : Q < w7.heap.size := by omega
                clear hb tc p6
                go_wp2_with fail
                have B8 : Hid (Below U.heap.size U (w7.alloc (.cells #[.int .i64 m.a, .int .i64 m.b, .int .i64 m.c] 27))) := behind_alloc B7.out _
                have A8 : Hid (Row (w7.alloc (.cells #[.int .i64 m.a, .int .i64 m.b, .int .i64 m.c] 27)) w7.heap.size [.int .i64 m.a, .int .i64 m.b, .int .i64 m.c]) := row_fresh w7 [.int .i64 m.a, .int .i64 m.b, .int .i64 m.c] 27
                generalize w7.alloc (.cells #[.int .i64 m.a, .int .i64 m.b, .int .i64 m.c] 27) = w8 at *
                clear q7 n7 n7' B7
                generalize w7.heap.size = Ab at *
                refine (HA'.out w8 B8.out).mono ?_
                rintro e w9 ⟨rfl, hb⟩
                have B9 : Hid (Below U.heap.size U w9) := below_then B8.out hb
                have A9 : Hid (Row w9 Ab [.int .i64 m.a, .int .i64 m.b, .int .i64 m.c]) := A8.out.below hb
                clear hb B8 A8
                have a0 := A9.out.cell 0 _ rfl
                have a1 := A9.out.cell 1 _ rfl
                have a2 := A9.out.cell 2 _ rfl
                have l9 := A9.out.lt
                have n9 : Ab ≠ w9.heap.size := by omega
                have h9 := B9.out.size
                have n10 : P + 1 ≠ w9.heap.size := by omega
                have n11 : P + 1 < w9.heap.size := by omega
                have v0 := ((HV2.out.below B6'.out).below B9.out).cell 0 _ rfl
                have v1 := ((HV2.out.below B6'.out).below B9.out).cell 1 _ rfl
                have v2 := ((HV2.out.below B6'.out).below B9.out).cell 2 _ rfl
                have B10 : Hid (Below U.heap.size U (w9.alloc (.cells #[.int .i64 m.a, .int .i64 m.b, .int .i64 m.c] 27))) := behind_alloc B9.out _
                go_wp2_with fail
                exact ⟨⟨j + 1, by omega, by go_num, B10.out⟩, by simp [intOf]; omega⟩
        · obtain rfl : j = 8 := by omega
          have q6 := (Q6.out.below B6.out).cell 0 _ rfl
          have v0 := ((HV2.out.below B6'.out).below B6.out).cell 0 _ rfl
          have v1 := ((HV2.out.below B6'.out).below B6.out).cell 1 _ rfl
          have v2 := ((HV2.out.below B6'.out).below B6.out).cell 2 _ rfl
          have HG : Hid (Calls Try.prog 17 #[.agg #[.slice a3 r.length c3], .int .i64 f, .int .i64 t, .agg #[.int .i64 x, .int .i64 y, .int .i64 z]] wr (RetP wr ns true)) := by
            have h := implProfGive_c a3 c3 r f t (⟨0, x, y, z⟩ : Nd) wr (S6.out.below B6.out)
            rw [tk_back HR.out] at h
            exact h
          go_wp2_with fail
          refine HG.out.mono ?_
          rintro e w7 ⟨v7, rfl, hans, hb⟩
          obtain ⟨a7, c7, hv7, hs7⟩ := hans.form
          subst hv7
          have B7 : Hid (Below U.heap.size U w7) := below_then B6.out hb
          have S7 : Hid (Sq w7 a7 (flat ns)) := hs7
          clear hans hb hs7 HG q6 v0 v1 v2 p6
          have h7 := B7.out.size
          have n7 : Q ≠ w7.heap.size := by omega
          have n7' : Q < w7.heap.size := by omega
          have n8 : P ≠ w7.heap.size := by omega
          have n8' : P < w7.heap.size := by omega
          have p7 := (HP6.out.below B7.out).cell 0 _ rfl
          go_wp2_with fail
          have B8 : Hid (Below U.heap.size U (w7.alloc (.cells #[.slice a7 ns.length c7] 25))) := behind_alloc B7.out _
          have K8 : Hid (Row (w7.alloc (.cells #[.slice a7 ns.length c7] 25)) w7.heap.size [.slice a7 ns.length c7]) := row_fresh w7 [.slice a7 ns.length c7] 25
          have S8 : Hid (Sq (w7.alloc (.cells #[.slice a7 ns.length c7] 25)) a7 (flat ns)) := S7.out.below (low_alloc _ _)
          generalize w7.alloc (.cells #[.slice a7 ns.length c7] 25) = U8 at *
          generalize w7.heap.size = Kb at *
          have HC1 : Hid (∀ N : Beh U8, Calls Try.prog 18 #[.agg #[.slice a7 ns.length c7], .agg #[.slice q ns.length c]] N.w fun e w' => e = .returned (.bool true) ∧ Below N.w.heap.size N.w w') := fun N => by
            refine (implSameProf_c a7 q c7 c ns ns N.w (S8.out.below N.low) (HS6.out.below (below_then B8.out N.low))).mono ?_
            rintro e w' ⟨k, rfl, hk, hb⟩
            have : k = true := hk.2 ⟨HOk.out, HOk.out, rfl⟩
            subst this
            exact ⟨rfl, hb⟩
          have HC2 : Hid (∀ N : Beh U8, Calls Try.prog 19 #[.agg #[.slice a3 r.length c3]] N.w fun e w' => e = .returned (.bool true) ∧ Below N.w.heap.size N.w w') := fun N => by
            refine (implProfOk_c a3 c3 r N.w (S6.out.below (below_then B8.out N.low))).mono ?_
            rintro e w' ⟨k, rfl, hk, hb⟩
            have : k = true := hk.2 HRk.out
            subst this
            exact ⟨rfl, hb⟩
          clear p7
          refine (HC1.out ⟨U8, Below.refl _ _⟩).mono ?_
          rintro e w9 ⟨rfl, hb⟩
          have N9 : Below U8.heap.size U8 w9 := hb
          have B9 : Hid (Below U.heap.size U w9) := below_then B8.out hb
          have q9 := (Q6.out.below B9.out).cell 0 _ rfl
          clear hb
          go_wp2_with fail
          refine (HC2.out ⟨w9, N9⟩).mono ?_
          rintro e wa ⟨rfl, hb⟩
          have Ba : Hid (Below U.heap.size U wa) := below_then B9.out hb
          clear hb q9
          go_wp2_with fail
          go_ret
          exact ⟨rfl, below_then HB2.out (below_then B6'.out Ba.out)⟩
end Go.Proofs.Ytgpogglaffehcaa
