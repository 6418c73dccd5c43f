/- The times of a change: the specification's walk. -/
import Derived.Test.YtmpjebkjopfejaaGreatMzTkA
namespace Go.Proofs.YtmpjebkjopfejaaGreat
open Go.ChangeShapes Go.WideShapes Go.ChangeAt Go.RowKit

set_option maxHeartbeats 4000000 in
theorem l03Times_c (b : Option Addr) (d : Nat) (ns : List Nd) (f u : Int) (hn : ns.length ≤ 200) (w : World) (h : Sq w b (flat ns)) :
    Calls Tryz.prog 78 #[.agg #[.slice b ns.length d], .int .i64 f, .int .i64 u] w fun e w' => ∃ v, e = .returned v ∧ w'.ownsRow w.heap.size 3 1 v (tmsL ns f u).length (ints (tmsL ns f u)) ∧ Below w.heap.size w w' := by
  have H : Hid (Sq w b (flat ns)) := h
  clear h
  go_enter Tryz.func78, Tryz.ntmps78
  go_wp2_with fail
  generalize hV : w.alloc (.cells #[.slice b ns.length d] 44) = V
  have HV : Hid (Below w.heap.size w V) := by subst hV; exact low_alloc _ _
  have hVs : w.heap.size + 1 = V.heap.size := by subst hV; simp [go_sem]
  clear hV
  rw [hVs]
  have HO0 : Hid ((V.alloc (.cells #[] 3)).ownsRow V.heap.size 3 1 (.slice (some ⟨V.heap.size, 0, none⟩) 0 0) (atsL (ns.take 0)).length (ints (atsL (ns.take 0)))) := World.ownsRow_made V #[] 0 (Nat.le_refl _) (by decide) rfl
  have HB0 : Hid (Below V.heap.size V (V.alloc (.cells #[] 3))) := low_alloc _ _
  generalize V.alloc (.cells #[] 3) = w0 at HO0 HB0
  go_loopw [7, 20] (fun o i wr => ∃ j : Nat, j ≤ ns.length ∧ i = .int .i64 j ∧ wr.ownsRow V.heap.size 3 1 o (atsL (ns.take j)).length (ints (atsL (ns.take j))) ∧ Below V.heap.size V wr) (fun _ i _ => ns.length - (intOf i).toNat)
  case atStart => exact ⟨0, Nat.zero_le _, rfl, HO0.out, HB0.out⟩
  case round =>
    obtain ⟨j, hj, rfl, hown, hb⟩ := hrel
    have HO : Hid (wr.ownsRow V.heap.size 3 1 u7 (atsL (ns.take j)).length (ints (atsL (ns.take j)))) := hown
    have HB : Hid (Below V.heap.size V wr) := hb
    have HT : Hid ((atsL (ns.take j)).length = j) := ats_to ns j hj
    clear hown hb HO0 HB0
    by_cases hlt : j < ns.length
    · have hj0 : (0 : Int) ≤ (j : Int) := by omega
      have hj1 : (j : Int) < (ns.length : Int) := by omega
      obtain ⟨p2, rfl, c0, c1, c2, c3⟩ := ((H.out.below HV.out).below HB.out).node j hlt
      have HX : Hid (ns[j]? = some ns[j]) := List.getElem?_eq_getElem hlt
      generalize ns[j] = n at c0 c1 c2 c3 HX
      have HK : Hid (atsL (ns.take (j + 1)) = atsL (ns.take j) ++ [n.l]) := ats_next HX.out
      have HB2 : Hid (Below V.heap.size V (wr.alloc (.cells #[.int .i64 n.l, .int .i64 n.a, .int .i64 n.b, .int .i64 n.c] 109))) := behind_alloc HB.out _
      have HO2 : Hid ((wr.alloc (.cells #[.int .i64 n.l, .int .i64 n.a, .int .i64 n.b, .int .i64 n.c] 109)).ownsRow V.heap.size 3 1 u7 (atsL (ns.take j)).length (ints (atsL (ns.take j)))) := HO.out.alloc _
      have hsz : (wr.alloc (.cells #[.int .i64 n.l, .int .i64 n.a, .int .i64 n.b, .int .i64 n.c] 109)).heap.size = wr.heap.size + 1 := by simp [go_sem]
      go_wp2_with (at_builtin; refine wpl_app1 (B := V) (base := V.heap.size) (xs := atsL (ns.take j)) (y := n.l) rfl rfl HO2.out (by have := HT.out; omega) HB2.out (Nat.le_refl _) HB2.out.size rfl (by rw [hsz]; rfl) ?_)
      intro v1 w6 HO5 HB6
      have HO6 : Hid (w6.ownsRow V.heap.size 3 1 v1 (atsL (ns.take (j + 1))).length (ints (atsL (ns.take (j + 1))))) := by rw [HK.out, List.length_append, List.length_singleton]; exact HO5
      clear HO5
      go_wp2_with fail
      go_roundw
      case rel => exact ⟨j + 1, by omega, by go_num, HO6.out, HB6.out⟩
      case measure => simp [intOf]; omega
    · obtain rfl : j = ns.length := by omega
      have HO1 : Hid (wr.ownsRow V.heap.size 3 1 u7 (stT ns f u 0).length (ints (stT ns f u 0))) := by have := HO.out; rw [List.take_length] at this; exact this
      clear HO HT
      go_wp2_with fail
      have HL1 : Hid (Row (wr.alloc (.cells #[.int .i64 f, .int .i64 u] 3)) wr.heap.size [.int .i64 f, .int .i64 u]) := row_fresh wr [.int .i64 f, .int .i64 u] 3
      have HO2 : Hid ((wr.alloc (.cells #[.int .i64 f, .int .i64 u] 3)).ownsRow V.heap.size 3 1 u7 (stT ns f u 0).length (ints (stT ns f u 0))) := HO1.out.alloc _
      have HB1 : Hid (Below V.heap.size V (wr.alloc (.cells #[.int .i64 f, .int .i64 u] 3))) := behind_alloc HB.out _
      generalize wr.alloc (.cells #[.int .i64 f, .int .i64 u] 3) = w1 at HL1 HO2 HB1
      generalize wr.heap.size = Lb at *
      clear HO1 HB
      go_loopw [7, 34] (fun o i wq => ∃ k : Nat, k ≤ 2 ∧ i = .int .i64 k ∧ wq.ownsRow V.heap.size 3 1 o (stT ns f u k).length (ints (stT ns f u k)) ∧ Row wq Lb [.int .i64 f, .int .i64 u] ∧ Below V.heap.size V wq) (fun _ i _ => 2 - (intOf i).toNat)
      case atStart => exact ⟨0, by omega, rfl, HO2.out, HL1.out, HB1.out⟩
      case round =>
        obtain ⟨k, hk, rfl, hown, hlit, hb⟩ := hrel
        have HO3 : Hid (wr.ownsRow V.heap.size 3 1 u7 (stT ns f u k).length (ints (stT ns f u k))) := hown
        have HL3 : Hid (Row wr Lb [.int .i64 f, .int .i64 u]) := hlit
        have HB3 : Hid (Below V.heap.size V wr) := hb
        have hsl := st_len ns f u k hk
        clear hown hlit hb HO2 HL1 HB1
        obtain ⟨a7, c7, hv7, hs7⟩ := sq_of_owns HO3.out
        subst hv7
        by_cases hlt : k < 2
        · have hk0 : (0 : Int) ≤ (k : Int) := by omega
          have hk1 : (k : Int) < 2 := by omega
          obtain ⟨t, ht⟩ : ∃ t, [f, u][k]? = some t := ⟨_, List.getElem?_eq_getElem (by simpa using hlt)⟩
          have HNx : Hid (insT t (stT ns f u k) = stT ns f u (k + 1)) := st_next ns f u k hlt t ht
          have hlc := HL3.out.cell k (.int .i64 t) (by
            match k, hlt with
            | 0, _ => simp at ht; subst ht; rfl
            | 1, _ => simp at ht; subst ht; rfl)
          generalize hxs : stT ns f u k = xs at *
          clear hxs
          have HS0 : Hid (Sq wr a7 (ints xs)) := hs7
          clear hs7 ht
          go_wp2_with fail
          clear hlc
          have HI0 : Hid ((wr.alloc (.cells #[] 3)).ownsRow wr.heap.size 3 1 (.slice (some ⟨wr.heap.size, 0, none⟩) 0 0) ([] : List Int).length (ints [])) := World.ownsRow_made wr #[] 0 (Nat.le_refl _) (by decide) rfl
          have HU0 : Hid (Below wr.heap.size wr (wr.alloc (.cells #[] 3))) := low_alloc _ _
          generalize wr.alloc (.cells #[] 3) = w2 at HI0 HU0
          generalize hU : wr = U at *
          go_loopw [12, 13, 41] (fun o bd i wq => ∃ (j : Nat) (bb : Bool) (acc : List Int), j ≤ xs.length ∧ i = .int .i64 j ∧ bd = .bool bb ∧ InsAt t xs j bb acc ∧ wq.ownsRow U.heap.size 3 1 o acc.length (ints acc) ∧ Below U.heap.size U wq) (fun _ _ i _ => xs.length - (intOf i).toNat)
          case atStart => exact ⟨0, false, [], Nat.zero_le _, rfl, rfl, InsAt.start t xs, HI0.out, HU0.out⟩
          case round =>
            obtain ⟨j, bb, acc, hj, rfl, rfl, hins, hown, hb⟩ := hrel
            have HI : Hid (InsAt t xs j bb acc) := hins
            have HA : Hid (wr.ownsRow U.heap.size 3 1 u12 acc.length (ints acc)) := hown
            have HQ : Hid (Below U.heap.size U wr) := hb
            have hal := hins.1
            clear hins hown hb HI0 HU0
            by_cases hjl : j < xs.length
            · have hj0 : (0 : Int) ≤ (j : Int) := by omega
              have hj1 : (j : Int) < (xs.length : Int) := by omega
              obtain ⟨p, hp, _, hc⟩ := (HS0.out.below HQ.out).cell j _ (ints_at xs j hjl)
              subst hp
              have HX : Hid (xs[j]? = some xs[j]) := List.getElem?_eq_getElem hjl
              generalize xs[j] = x at hc HX
              cases bb
              · by_cases htx : t ≤ x
                · by_cases hne : x = t
                  · subst hne
                    go_wp2_with (at_builtin; refine wpl_app1 (B := U) (base := U.heap.size) (xs := acc) (y := x) rfl rfl HA.out (by omega) HQ.out (Nat.le_refl _) HQ.out.size rfl rfl ?_)
                    intro v1 w6 HA1 HQ1
                    have HF : Hid (InsAt x xs (j + 1) true (acc ++ [x])) := HI.out.meet HX.out
                    go_wp2_with fail
                    exact ⟨⟨j + 1, true, (acc ++ [x]), by omega, by go_num, rfl, HF.out, by have := HA1.out; rw [List.length_append, List.length_singleton]; exact this, HQ1.out⟩, by simp [intOf]; omega⟩
                  · have hi : (x == t) = false := by simpa using hne
                    go_wp2_with (at_builtin; refine wpl_app1 (B := U) (base := U.heap.size) (xs := acc) (y := t) rfl rfl HA.out (by omega) HQ.out (Nat.le_refl _) HQ.out.size rfl rfl ?_)
                    intro v1 w6 HA1 HQ1
                    have HA2 : Hid (w6.ownsRow U.heap.size 3 1 v1 (acc ++ [t]).length (ints (acc ++ [t]))) := by rw [List.length_append, List.length_singleton]; exact HA1
                    go_wp2_with (at_builtin; refine wpl_app1 (B := U) (base := U.heap.size) (xs := acc ++ [t]) (y := x) rfl rfl HA2.out (by simp; omega) HQ1.out (Nat.le_refl _) HQ1.out.size rfl rfl ?_)
                    intro v2 w7 HA3 HQ2
                    have HF : Hid (InsAt t xs (j + 1) true (acc ++ [t] ++ [x])) := HI.out.both HX.out htx hne
                    go_wp2_with fail
                    exact ⟨⟨j + 1, true, (acc ++ [t] ++ [x]), by omega, by go_num, rfl, HF.out, by have := HA3.out; rw [List.length_append, List.length_singleton]; simpa using this, HQ2.out⟩, by simp [intOf]; omega⟩
                · have hi : (x == t) = false := by simp; omega
                  go_wp2_with (at_builtin; refine wpl_app1 (B := U) (base := U.heap.size) (xs := acc) (y := x) rfl rfl HA.out (by omega) HQ.out (Nat.le_refl _) HQ.out.size rfl rfl ?_)
                  intro v1 w6 HA1 HQ1
                  have HF : Hid (InsAt t xs (j + 1) false (acc ++ [x])) := HI.out.ahead HX.out (by omega)
                  go_wp2_with fail
                  exact ⟨⟨j + 1, false, (acc ++ [x]), by omega, by go_num, rfl, HF.out, by have := HA1.out; rw [List.length_append, List.length_singleton]; exact this, HQ1.out⟩, by simp [intOf]; omega⟩
              · by_cases hne : x = t
                · subst hne
                  have HF : Hid (InsAt x xs (j + 1) true acc) := HI.out.skip HX.out
                  go_wp2_with fail
                  exact ⟨⟨j + 1, true, acc, by omega, by go_num, rfl, HF.out, HA.out, HQ.out⟩, by simp [intOf]; omega⟩
                · have hi : (x == t) = false := by simpa using hne
                  go_wp2_with (at_builtin; refine wpl_app1 (B := U) (base := U.heap.size) (xs := acc) (y := x) rfl rfl HA.out (by omega) HQ.out (Nat.le_refl _) HQ.out.size rfl rfl ?_)
                  intro v1 w6 HA1 HQ1
                  have HF : Hid (InsAt t xs (j + 1) true (acc ++ [x])) := HI.out.more HX.out hne
                  go_wp2_with fail
                  exact ⟨⟨j + 1, true, (acc ++ [x]), by omega, by go_num, rfl, HF.out, by have := HA1.out; rw [List.length_append, List.length_singleton]; exact this, HQ1.out⟩, by simp [intOf]; omega⟩
            · have hUV : V.heap.size ≤ U.heap.size := HB3.out.size
              cases bb
              · have HE : Hid (acc ++ [t] = stT ns f u (k + 1)) := by show _ = _; rw [HI.out.done0 (by omega)]; exact HNx.out
                go_wp2_with (at_builtin; refine wpl_app1 (B := U) (base := U.heap.size) (xs := acc) (y := t) rfl rfl HA.out (by omega) HQ.out (Nat.le_refl _) HQ.out.size rfl rfl ?_)
                intro v1 w6 HA1 HQ1
                have HA2 : Hid (w6.ownsRow V.heap.size 3 1 v1 (stT ns f u (k + 1)).length (ints (stT ns f u (k + 1)))) := by rw [← HE.out, List.length_append, List.length_singleton]; exact owns_mono HA1.out hUV
                have HL4 : Hid (Row w6 Lb [.int .i64 f, .int .i64 u]) := HL3.out.below HQ1.out
                have HB4 : Hid (Below V.heap.size V w6) := below_then HB3.out HQ1.out
                go_wp2_with fail
                exact ⟨⟨k + 1, by omega, by go_num, HA2.out, HL4.out, HB4.out⟩, by simp [intOf]; omega⟩
              · have HE : Hid (acc = stT ns f u (k + 1)) := by show _ = _; rw [HI.out.done1 (by omega)]; exact HNx.out
                have HA2 : Hid (wr.ownsRow V.heap.size 3 1 u12 (stT ns f u (k + 1)).length (ints (stT ns f u (k + 1)))) := by rw [← HE.out]; exact owns_mono HA.out hUV
                have HL4 : Hid (Row wr Lb [.int .i64 f, .int .i64 u]) := HL3.out.below HQ.out
                have HB4 : Hid (Below V.heap.size V wr) := below_then HB3.out HQ.out
                go_wp2_with fail
                exact ⟨⟨k + 1, by omega, by go_num, HA2.out, HL4.out, HB4.out⟩, by simp [intOf]; omega⟩
        · obtain rfl : k = 2 := by omega
          go_wp2_with fail
          go_ret
          exact ⟨_, rfl, owns_mono HO3.out (show w.heap.size ≤ V.heap.size by omega), below_then HV.out HB3.out⟩
end Go.Proofs.YtmpjebkjopfejaaGreat
