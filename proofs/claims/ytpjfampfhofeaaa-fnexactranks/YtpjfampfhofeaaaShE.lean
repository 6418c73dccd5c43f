/- Accounts: the specification's Ranks and RankPrio. -/
import Derived.Test.YtpjfampfhofeaaaShC
import Derived.Test.YtpjfampfhofeaaaAnsA
namespace Go.Proofs.Ytpjfampfhofeaaa
open Go.ChangeShapes Go.WideShapes Go.ChangeAt Go.RowKit

theorem mul_in {a b A B : Int} (h0 : 0 ≤ a) (h1 : a ≤ A) (h2 : 0 ≤ b) (h3 : b ≤ B) : 0 ≤ a * b ∧ a * b ≤ A * B :=
  ⟨Int.mul_nonneg h0 h2, Int.mul_le_mul h1 h3 h2 (by omega)⟩
set_option maxHeartbeats 2000000 in
theorem l11Ahead_c (x y : Ac) (hx : accB x = true) (hy : accB y = true) (w : World) :
    Calls Try.prog 43 #[.agg #[.string x.nm, .int .i64 x.sh, .int .i64 x.us], .agg #[.string y.nm, .int .i64 y.sh, .int .i64 y.us]] w fun e w' => e = .returned (.bool (ahB x y)) ∧ Below w.heap.size w w' := by
  have px := acc_parts hx
  have py := acc_parts hy
  have m1 := mul_in (A := 1000000000) (B := 1000) px.2.2.2.1 px.2.2.2.2 (by omega : 0 ≤ y.sh) py.2.2.1
  have m2 := mul_in (A := 1000000000) (B := 1000) py.2.2.2.1 py.2.2.2.2 (by omega : 0 ≤ x.sh) px.2.2.1
  obtain ⟨p, hp⟩ : ∃ p, x.us * y.sh = p := ⟨_, rfl⟩
  obtain ⟨q, hq⟩ : ∃ q, y.us * x.sh = q := ⟨_, rfl⟩
  have HR : Hid (ahB x y = (decide (p < q) || (p == q && ntL x.nm y.nm))) := by show _ = _; rw [ahB, hp, hq]
  rw [hp] at m1
  rw [hq] at m2
  have m3 := m1.1
  have m4 := m1.2
  have m5 := m2.1
  have m6 := m2.2
  clear px py m1 m2 hx hy
  go_enter Try.func43, Try.ntmps43
  by_cases h1 : p < q
  · go_wp2_with fail
    go_ret
    exact ⟨by rw [HR.out]; simp [h1], by go_grown⟩
  · cases h2 : (p == q)
    · go_wp2_with fail
      go_ret
      exact ⟨by rw [HR.out, h2]; simp [h1], by go_grown⟩
    · go_wp2_with fail
      go_ret
      exact ⟨by rw [HR.out, h2, decide_eq_false (show ¬ p < q by omega)]; rfl, by go_grown⟩
theorem rkL_yes {l : List Ac} (h : AOk l) : rkL l = l.map (fun b => (rkOf l b : Int)) := by unfold rkL; rw [if_pos h]
theorem rkL_no {l : List Ac} (h : ¬ AOk l) : rkL l = [] := by unfold rkL; rw [if_neg h]
def RetR (w : World) (r : List Int) (e : Ending) (w' : World) : Prop :=
  ∃ v, e = .returned v ∧ Ans w.heap.size w'.heap.size w' (ints r) v ∧ Below w.heap.size w w'
theorem rk_next {l : List Ac} {j : Nat} (h : j < l.length) (y : Ac) : rkOf (l.take (j + 1)) y = rkOf (l.take j) y + (bif ahB l[j] y then 1 else 0) := by
  unfold rkOf
  rw [List.take_add_one, List.getElem?_eq_getElem h, Option.toList_some, List.countP_append]
  cases hb : ahB l[j] y <;> simp [hb]
set_option maxHeartbeats 4000000 in
set_option maxRecDepth 100000 in
theorem specRanks_c (b : Option Addr) (d : Nat) (l : List Ac) (hl : l.length ≤ 1048576) (hz : ∀ x ∈ l, x.nm.size ≤ 1048576) (w : World) (h : Sq w b (flatAc l)) :
    Calls Try.prog 14 #[.slice b l.length d] w (RetR w (rkL l)) := by
  have H : Hid (Sq w b (flatAc l)) := h
  clear h
  obtain ⟨i0, hi2, hz0, hz1, hz2⟩ := info_parts infoInt
  go_enter Try.func14, Try.ntmps14
  go_wp2_with fail
  have HO0 : Hid ((w.alloc (.cells #[] 3)).ownsRow w.heap.size 3 1 (.slice (some ⟨w.heap.size, 0, none⟩) 0 0) 0 []) := World.ownsRow_made w #[] 0 (Nat.le_refl _) (by decide) rfl
  have HB0 : Hid (Below w.heap.size w (w.alloc (.cells #[] 3))) := low_alloc _ _
  generalize w.alloc (.cells #[] 3) = w0 at HO0 HB0 ⊢
  refine (specAccountsOk_c b d l hl hz _ (H.out.below HB0.out)).mono ?_
  rintro e w1 ⟨k, rfl, hk, hb⟩
  have HB1 : Hid (Below w.heap.size w w1) := below_then HB0.out hb
  have HO1 : Hid (w1.ownsRow w.heap.size 3 1 (.slice (some ⟨w.heap.size, 0, none⟩) 0 0) 0 []) := owsBelow HO0.out hb
  have HK : Hid (k = true ↔ AOk l) := hk
  clear hk hb HB0 HO0
  cases k
  · have HN : Hid (rkL l = []) := rkL_no (fun t => by have := HK.out.2 t; cases this)
    go_wp2_with fail
    go_ret
    exact ⟨_, rfl, by rw [HN.out]; exact ⟨_, _, rfl, .inl rfl⟩, HB1.out⟩
  · have HY : Hid (AOk l) := HK.out.1 rfl
    have HE : Hid (rkL l = l.map (fun b => (rkOf l b : Int))) := rkL_yes HY.out
    have h12 : l.length ≤ 12 := HY.out.1
    clear HK
    go_wp2_with fail
    go_loopw [16, 3] (fun i o wr => ∃ (j g c : Nat) (acc : List Int), j ≤ l.length ∧ i = .int .i64 j ∧ o = .slice (some ⟨g, 0, none⟩) j c ∧ acc.length = j ∧ acc ++ (l.drop j).map (fun b => (rkOf l b : Int)) = rkL l ∧ wr.ownsRow w.heap.size 3 1 (.slice (some ⟨g, 0, none⟩) j c) j (ints acc) ∧ Below w.heap.size w wr) (fun i _ _ => l.length - (intOf i).toNat)
    case atStart => exact ⟨0, w.heap.size, 0, [], Nat.zero_le _, rfl, rfl, rfl, by rw [HE.out]; rfl, HO1.out, HB1.out⟩
    case round =>
      obtain ⟨j, g, c, acc, hj, rfl, rfl, hal, hac, ho, hb⟩ := hrel
      have HAl : Hid (acc.length = j) := hal
      have HAc : Hid (acc ++ (l.drop j).map (fun b => (rkOf l b : Int)) = rkL l) := hac
      have HO : Hid (wr.ownsRow w.heap.size 3 1 (.slice (some ⟨g, 0, none⟩) j c) j (ints acc)) := ho
      have HB : Hid (Below w.heap.size w wr) := hb
      clear ho hb hal hac HO1 HB1
      by_cases hlt : j < l.length
      · have hj0 : (0 : Int) ≤ (j : Int) := by omega
        have hj1 : (j : Int) < (l.length : Int) := by omega
        have HX : Hid (l[j]? = some l[j]) := List.getElem?_eq_getElem hlt
        have HT : Hid ((acc ++ [(rkOf l l[j] : Int)]) ++ (l.drop (j + 1)).map (fun b => (rkOf l b : Int)) = rkL l) := by
          show _ = _
          rw [← HAc.out, List.drop_eq_getElem_cons hlt, List.map_cons, List.append_assoc]
          rfl
        have HAx : Hid (accB l[j] = true) := HY.out.acc (List.getElem_mem hlt)
        obtain ⟨p, rfl⟩ := H.out.some_ofAc j hlt
        generalize l[j] = y at HX HT HAx
        have c0 := (H.out.below HB.out).account0 HX.out
        have c1 := (H.out.below HB.out).accountK HX.out 1 (by decide) _ rfl
        have c2 := (H.out.below HB.out).accountK HX.out 2 (by decide) _ rfl
        go_wp2_with fail
        have HQ : Hid (Row (wr.alloc (.cells #[.string y.nm, .int .i64 y.sh, .int .i64 y.us] 30)) wr.heap.size [.string y.nm, .int .i64 y.sh, .int .i64 y.us]) := row_fresh wr [.string y.nm, .int .i64 y.sh, .int .i64 y.us] 30
        have HB2 : Hid (Below w.heap.size w (wr.alloc (.cells #[.string y.nm, .int .i64 y.sh, .int .i64 y.us] 30))) := behind_alloc HB.out _
        have HO2 : Hid ((wr.alloc (.cells #[.string y.nm, .int .i64 y.sh, .int .i64 y.us] 30)).ownsRow w.heap.size 3 1 (.slice (some ⟨g, 0, none⟩) j c) j (ints acc)) := HO.out.alloc _
        clear c0 c1 c2 HB HO
        generalize wr.alloc (.cells #[.string y.nm, .int .i64 y.sh, .int .i64 y.us] 30) = U at HQ HB2 HO2 ⊢
        generalize wr.heap.size = Q at HQ ⊢
        go_loopw [22, 6] (fun i nv wr => ∃ q : Nat, q ≤ l.length ∧ i = .int .i64 q ∧ nv = .int .i64 (rkOf (l.take q) y : Nat) ∧ Below U.heap.size U wr) (fun i _ _ => l.length - (intOf i).toNat)
        case atStart => exact ⟨0, Nat.zero_le _, rfl, by simp [rkOf], Below.refl _ _⟩
        case round =>
          obtain ⟨q, hq, rfl, rfl, hb⟩ := hrel
          have HBq : Hid (Below U.heap.size U wr) := hb
          clear hb
          by_cases hql : q < l.length
          · have hq0 : (0 : Int) ≤ (q : Int) := by omega
            have hq1 : (q : Int) < (l.length : Int) := by omega
            have HXq : Hid (l[q]? = some l[q]) := List.getElem?_eq_getElem hql
            have HNx : Hid (rkOf (l.take (q + 1)) y = rkOf (l.take q) y + (bif ahB l[q] y then 1 else 0)) := rk_next hql y
            have hcl := rkOf_le (l.take q) y
            rw [List.length_take] at hcl
            have HAq : Hid (accB l[q] = true) := HY.out.acc (List.getElem_mem hql)
            generalize l[q] = x at HXq HNx HAq
            generalize rkOf (l.take q) y = m at HNx hcl ⊢
            have hm0 : (0 : Int) ≤ (m : Int) := by omega
            have hm1 : (m : Int) ≤ 12 := by omega
            clear hcl
            have c0 := (H.out.below (below_then HB2.out HBq.out)).account0 HXq.out
            have c1 := (H.out.below (below_then HB2.out HBq.out)).accountK HXq.out 1 (by decide) _ rfl
            have c2 := (H.out.below (below_then HB2.out HBq.out)).accountK HXq.out 2 (by decide) _ rfl
            have y0 := (HQ.out.below HBq.out).cell 0 _ rfl
            have y1 := (HQ.out.below HBq.out).cell 1 _ rfl
            have y2 := (HQ.out.below HBq.out).cell 2 _ rfl
            have hQ1 := (HQ.out.below HBq.out).lt
            have hQ2 : Q ≠ wr.heap.size := Nat.ne_of_lt hQ1
            go_wp2_with fail
            refine (l11Ahead_c x y HAq.out HAx.out _).mono ?_
            rintro e w5 ⟨rfl, hb⟩
            have HB5 : Hid (Below U.heap.size U w5) := below_then (behind_alloc HBq.out _) hb
            clear hb c0 c1 c2 y0 y1 y2 hQ1 hQ2
            cases hab : ahB x y
            all_goals
              rw [hab] at HNx
              clear hab
              go_wp2_with fail
              go_roundw
              case rel => exact ⟨q + 1, by omega, by go_num, by rw [HNx.out]; go_num, HB5.out⟩
              case measure => simp [intOf]; omega
          · have HRk : Hid (rkOf (l.take q) y = rkOf l y) := by show _ = _; rw [List.take_of_length_le (by omega)]
            rw [HRk.out]
            have hm := rkOf_le l y
            generalize rkOf l y = m at HT hm ⊢
            have HB3 : Hid (Below w.heap.size w (wr.alloc (.cells #[.int .i64 (m : Int)] 3))) := behind_alloc (below_then HB2.out HBq.out) _
            have HO3 : Hid ((wr.alloc (.cells #[.int .i64 (m : Int)] 3)).ownsRow w.heap.size 3 1 (.slice (some ⟨g, 0, none⟩) j c) j (ints acc)) := (owsBelow HO2.out HBq.out).alloc _
            have hs3 := HB3.out.size
            clear HRk
            go_wp2_with (at_builtin; refine wpList_append_own_at _ rfl _ _ 25 rfl w.heap.size 3 i0 (.int .i64 0) 1 8 Try.underlying25 hi2 hz0 hz1 hz2 rfl (by decide) (.slice (some ⟨g, 0, none⟩) j c) j (ints acc) rfl HO3.out ⟨wr.heap.size, 0, none⟩ 1 1 [.int .i64 (m : Int)] rfl rfl ?c1 ?c2 ?c3 ?c4 ?c5 ?_)
            case c1 =>
              intro r v hv
              rw [add_plain, Nat.zero_add]
              exact (row_fresh wr [.int .i64 (m : Int)] 3).cell r v hv
            case c2 => simp [Value.oneCell']
            case c3 => unfold maxLen; omega
            case c4 => omega
            case c5 => exact hs3
            · intro v' w7 hown hgrow _ hat
              obtain ⟨g', c', rfl⟩ : ∃ g' c', v' = .slice (some ⟨g', 0, none⟩) (j + 1) c' := by
                rcases hown.2 with ⟨_, hz⟩ | ⟨g', cap, _, e, _⟩
                · omega
                · exact ⟨g', cap, e⟩
              have HO7 : Hid (w7.ownsRow w.heap.size 3 1 (.slice (some ⟨g', 0, none⟩) (j + 1) c') (j + 1) (ints (acc ++ [(m : Int)]))) := by
                show World.ownsRow _ _ _ _ _ _ _
                rw [show ints (acc ++ [(m : Int)]) = ints acc ++ [.int .i64 (m : Int)] by simp [ints]]
                exact hown
              have HB7 : Hid (Below w.heap.size w w7) := HB3.out.grown hgrow hs3 (fun k hk => (HO3.out.lt k hk).1)
              clear hown hgrow hat HO3 HB3 hs3
              go_wp2_with fail
              go_roundw
              case rel => exact ⟨j + 1, g', c', acc ++ [(m : Int)], by omega, by go_num, rfl, by rw [List.length_append, HAl.out]; rfl, HT.out, HO7.out, HB7.out⟩
              case measure => simp [intOf]; omega
      · have HAn : Hid (Ans w.heap.size wr.heap.size wr (ints (rkL l)) (.slice (some ⟨g, 0, none⟩) j c)) := by
          show Ans _ _ _ _ _
          have e : acc = rkL l := by
            have e2 := HAc.out
            rw [List.drop_of_length_le (by omega)] at e2
            simpa using e2
          rw [← e]
          exact Ans.of_owns HO.out
        go_wp2_with fail
        go_ret
        exact ⟨_, rfl, HAn.out, HB.out⟩
end Go.Proofs.Ytpjfampfhofeaaa
