/- How many leaves nodes have: the program and the specification. -/
import Derived.Test.YtljclchjdckgpaaLfA
import Derived.Test.YtljclchjdckgpaaTopJ
namespace Go.Proofs.Ytljclchjdckgpaa
open Go.ChangeShapes Go.WideShapes Go.ChangeAt Go.RowKit

/-- The leaf of a node. -/
def leafOf (ns : List Nd) (x : Int) : Int := ((ns[x.toNat]?).map (·.l)).getD 0
/-- The different leaves of the first k nodes, as they come. -/
def seenTo (ns : List Nd) (xs : List Int) : Nat → List Int
  | 0 => []
  | k + 1 => match xs[k]? with
    | none => seenTo ns xs k
    | some x => if leafOf ns x ∈ seenTo ns xs k then seenTo ns xs k else seenTo ns xs k ++ [leafOf ns x]

theorem seen_len (ns : List Nd) (xs : List Int) : ∀ k, (seenTo ns xs k).length ≤ k
  | 0 => Nat.le_refl _
  | k + 1 => by
    have := seen_len ns xs k
    unfold seenTo
    split
    · omega
    · split
      · omega
      · simp; omega

theorem seen_old {ns : List Nd} {xs : List Int} {k : Nat} {x : Int} (hx : xs[k]? = some x) (h : leafOf ns x ∈ seenTo ns xs k) : seenTo ns xs (k + 1) = seenTo ns xs k := by
  rw [seenTo, hx]
  exact if_pos h
theorem seen_new {ns : List Nd} {xs : List Int} {k : Nat} {x : Int} (hx : xs[k]? = some x) (h : ¬ leafOf ns x ∈ seenTo ns xs k) : seenTo ns xs (k + 1) = seenTo ns xs k ++ [leafOf ns x] := by
  rw [seenTo, hx]
  exact if_neg h

/-- What 'Leaves' answers. -/
noncomputable def leavesR (ps : List Int) (ns : List Nd) (xs : List Int) : Int := open Classical in if NdOk ps ns xs then ((seenTo ns xs xs.length).length : Int) else -1

theorem leaf_of {ps : List Int} {ns : List Nd} (t : TopOk ps ns) {x : Int} (hx : isNd ns x) : ∃ (m : Nat) (n : Nd) (l : Nat), x = m ∧ ns[m]? = some n ∧ m < ns.length ∧ n.l = l ∧ l < ps.length ∧ leafOf ns x = l := by
  obtain ⟨h0, h1⟩ := hx
  obtain ⟨m, rfl⟩ : ∃ m : Nat, x = m := ⟨x.toNat, by omega⟩
  have hm : m < ns.length := by omega
  obtain ⟨h2, h3, _⟩ := t.node ns[m] (List.getElem_mem hm)
  refine ⟨m, ns[m], ns[m].l.toNat, rfl, List.getElem?_eq_getElem hm, hm, by omega, by omega, ?_⟩
  unfold leafOf
  rw [Int.toNat_natCast, List.getElem?_eq_getElem hm]
  simp
  omega

set_option maxHeartbeats 2000000 in
theorem specLeaves_c (a b f : Option Addr) (c d m : Nat) (ps : List Int) (ns : List Nd) (xs : List Int) (hp : ps.length ≤ 1048576) (hn : ns.length ≤ 1048576) (hx : xs.length ≤ 1048576) (w : World) (h : Sq w a (ints ps)) (h' : Sq w b (flat ns)) (h2 : Sq w f (ints xs)) :
    Calls Try.prog 30 #[.agg #[.slice a ps.length c, .slice b ns.length d], .slice f xs.length m] w fun e w' => e = .returned (.int .i64 (leavesR ps ns xs)) ∧ Below w.heap.size w w' := by
  have H : Hid (Sq w a (ints ps)) := h
  have H' : Hid (Sq w b (flat ns)) := h'
  have H2 : Hid (Sq w f (ints xs)) := h2
  clear h h' h2
  obtain ⟨i0, hi, hz0, hz1, hz2⟩ := info_parts infoInt
  go_enter Try.func30, Try.ntmps30
  go_wp2_with fail
  generalize hV : w.alloc (.cells #[.slice a ps.length c, .slice b ns.length d] 26) = V
  have HA : Hid (Row V w.heap.size [.slice a ps.length c, .slice b ns.length d]) := by subst hV; exact row_fresh w [.slice a ps.length c, .slice b ns.length d] 26
  have HV : Hid (Below w.heap.size w V) := by subst hV; exact low_alloc _ _
  clear hV
  refine (l02Nodes_c a b f c d m ps ns xs hp hn hx _ (H.out.below HV.out) (H'.out.below HV.out) (H2.out.below HV.out)).mono ?_
  rintro e w1 ⟨k, rfl, hk, hb⟩
  have HB1 : Hid (Below V.heap.size V w1) := hb
  cases k
  · have HN : Hid (leavesR ps ns xs = -1) := by
      show _ = _
      rw [leavesR, if_neg (fun t => by have := hk.2 t; cases this)]
    clear hk hb
    go_wp2_with fail
    go_ret
    exact ⟨by rw [HN.out]; rfl, below_then HV.out HB1.out⟩
  · have HY : Hid (NdOk ps ns xs) := hk.1 rfl
    have HN : Hid (leavesR ps ns xs = ((seenTo ns xs xs.length).length : Int)) := by
      show _ = _
      rw [leavesR, if_pos HY.out]
    clear hk hb
    go_wp2_with fail
    go_loopw [5, 15] (fun o i wr => ∃ j : Nat, j ≤ xs.length ∧ i = .int .i64 j ∧ wr.ownsRow w1.heap.size 3 1 o (seenTo ns xs j).length (ints (seenTo ns xs j)) ∧ Below w1.heap.size w1 wr) (fun _ i _ => xs.length - (intOf i).toNat)
    case atStart => exact ⟨0, Nat.zero_le _, rfl, World.ownsRow_made w1 #[] 0 (Nat.le_refl _) (by decide) rfl, low_alloc _ _⟩
    case round =>
      obtain ⟨j, hj, rfl, hown, hb⟩ := hrel
      have HO : Hid (wr.ownsRow w1.heap.size 3 1 u5 (seenTo ns xs j).length (ints (seenTo ns xs j))) := hown
      have HB : Hid (Below w1.heap.size w1 wr) := hb
      have HBV : Hid (Below V.heap.size V wr) := below_then HB1.out hb
      have r1 := (HA.out.below HBV.out).cell 1 _ rfl
      have hsl := seen_len ns xs j
      clear hown hb
      by_cases hlt : j < xs.length
      · have hj0 : (0 : Int) ≤ (j : Int) := by omega
        have hj1 : (j : Int) < (xs.length : Int) := by omega
        obtain ⟨p, rfl, _, hc⟩ := ((H2.out.below HV.out).below HBV.out).cell j _ (ints_at xs j hlt)
        have HX : Hid (xs[j]? = some xs[j]) := List.getElem?_eq_getElem hlt
        generalize xs[j] = x at hc HX
        obtain ⟨q, n, l, rfl, hq, hql, hnl, hll, hlf⟩ := leaf_of HY.out.1 (HY.out.2 x (List.mem_of_getElem? HX.out))
        have HF : Hid (leafOf ns (q : Int) = l) := hlf
        have hq0 : (0 : Int) ≤ (q : Int) := by omega
        have hq1 : (q : Int) < (ns.length : Int) := by omega
        obtain ⟨p2, rfl, c0, _, _, _⟩ := ((H'.out.below HV.out).below HBV.out).node q hql
        rw [show ns[q] = n by rw [List.getElem?_eq_getElem hql] at hq; exact Option.some.inj hq, hnl] at c0
        clear hlf hnl hq
        obtain ⟨oa, ocap, hov, hos⟩ := sq_of_owns HO.out
        subst hov
        go_wp2_with fail
        refine (l02Has_c oa ocap (seenTo ns xs j) l (by omega) _ hos).mono ?_
        rintro e w5 ⟨rfl, hb⟩
        have HB5 : Hid (Below w1.heap.size w1 w5) := below_then HB.out hb
        have HO5 : Hid (w5.ownsRow w1.heap.size 3 1 (.slice oa (seenTo ns xs j).length ocap) (seenTo ns xs j).length (ints (seenTo ns xs j))) := owns_below HO.out hb
        have hw5 : w1.heap.size ≤ w5.heap.size := HB5.out.size
        have s1 := (HA.out.below (below_then HB1.out HB5.out)).cell 1 _ rfl
        have s0 := (hb.cell (p := p2.add (q * 4)) (World.block_lt_of_cell? _ _ c0)).trans c0
        clear hb hos r1 c0 HO HB
        cases hd : decide ((l : Int) ∈ seenTo ns xs j)
        · have HK : Hid (seenTo ns xs (j + 1) = seenTo ns xs j ++ [(l : Int)]) := by
            show _ = _
            rw [← HF.out]
            refine seen_new HX.out ?_
            rw [HF.out]
            exact of_decide_eq_false hd
          clear hd
          go_wp2_with (at_builtin; refine wpList_append_own _ rfl _ _ 23 rfl w1.heap.size 3 i0 (.int .i64 0) 1 8 Try.underlying23 hi hz0 hz1 hz2 rfl (by decide) _ _ _ rfl (HO5.out.alloc _) ⟨w5.heap.size, 0, none⟩ 1 1 [.int .i64 l] rfl rfl ?c1 ?c2 ?c3 ?c4 ?c5 ?_)
          case c1 =>
            intro k u hk
            match k, hk with
            | 0, hk => simp at hk; subst hk; simp [Addr.add]
          case c2 => intro u hu; simp at hu; subst hu; rfl
          case c3 => unfold maxLen; omega
          case c4 => omega
          case c5 => simp; omega
          · intro v1 w6 hown1 hgrow1 _
            have HB6 : Hid (Below w1.heap.size w1 w6) := (HB5.out.alloc hw5 _).grown hgrow1 (by simp; omega) (fun q hq => (HO5.out.lt q hq).1)
            have HO6 : Hid (w6.ownsRow w1.heap.size 3 1 v1 (seenTo ns xs (j + 1)).length (ints (seenTo ns xs (j + 1)))) := by
              show World.ownsRow _ _ _ _ _ _ _
              rw [HK.out, List.length_append, ints, List.map_append]
              exact hown1
            clear hown1 hgrow1
            go_wp2_with fail
            go_roundw
            case rel => exact ⟨j + 1, by omega, by go_num, HO6.out, HB6.out⟩
            case measure => simp [intOf]; omega
        · have HK : Hid (seenTo ns xs (j + 1) = seenTo ns xs j) := by
            show _ = _
            refine seen_old HX.out ?_
            rw [HF.out]
            exact of_decide_eq_true hd
          clear hd
          go_wp2_with fail
          go_roundw
          case rel => exact ⟨j + 1, by omega, by go_num, by rw [HK.out]; exact HO5.out, HB5.out⟩
          case measure => simp [intOf]; omega
      · obtain rfl : j = xs.length := by omega
        obtain ⟨oa, ocap, hov, hos⟩ := sq_of_owns HO.out
        subst hov
        clear hos
        go_wp2_with fail
        go_ret
        exact ⟨by rw [HN.out]; rfl, below_then HV.out HBV.out⟩

/-- A bool for each switch: whether it is in the list. -/
def bools (S : List Int) : List Value := (List.range 24).map fun (j : Nat) => .bool (decide ((j : Int) ∈ S))
theorem bools_len (S : List Int) : (bools S).length = 24 := by simp [bools]
theorem bools_at (S : List Int) (l : Nat) (h : l < 24) : (bools S)[l]? = some (.bool (decide ((l : Int) ∈ S))) := by simp [bools, h]
theorem bools_set (S : List Int) (l : Nat) (h : l < 24) : (bools S).set l (.bool true) = bools (S ++ [(l : Int)]) := by
  apply List.ext_getElem?
  intro i
  by_cases hi : i < 24
  · by_cases e : i = l
    · subst e
      rw [List.getElem?_set_self (by rw [bools_len]; exact hi), bools_at _ _ hi]
      simp
    · rw [List.getElem?_set_ne (by omega), bools_at _ _ hi, bools_at _ _ hi]
      congr 2
      simp
      omega
  · rw [List.getElem?_eq_none (by rw [List.length_set, bools_len]; omega), List.getElem?_eq_none (by rw [bools_len]; omega)]

set_option maxHeartbeats 2000000 in
theorem implLeaves_c (a b f : Option Addr) (c d m : Nat) (ps : List Int) (ns : List Nd) (xs : List Int) (hn : ns.length ≤ 1048576) (hx : xs.length ≤ 1048576) (w : World) (h : Sq w a (ints ps)) (h' : Sq w b (flat ns)) (h2 : Sq w f (ints xs)) :
    Calls Try.prog 31 #[.agg #[.slice a ps.length c, .slice b ns.length d], .slice f xs.length m] w fun e w' => e = .returned (.int .i64 (leavesR ps ns xs)) ∧ Below w.heap.size w w' := by
  have H : Hid (Sq w a (ints ps)) := h
  have H' : Hid (Sq w b (flat ns)) := h'
  have H2 : Hid (Sq w f (ints xs)) := h2
  clear h h' h2
  go_enter Try.func31, Try.ntmps31
  go_wp2_with fail
  generalize hV : w.alloc (.cells #[.slice a ps.length c, .slice b ns.length d] 26) = V
  have HA : Hid (Row V w.heap.size [.slice a ps.length c, .slice b ns.length d]) := by subst hV; exact row_fresh w [.slice a ps.length c, .slice b ns.length d] 26
  have HV : Hid (Below w.heap.size w V) := by subst hV; exact low_alloc _ _
  clear hV
  refine (nodesThere_c a b f c d m ps ns xs hn hx _ (H.out.below HV.out) (H'.out.below HV.out) (H2.out.below HV.out)).mono ?_
  rintro e w1 ⟨k, rfl, hk, hb⟩
  have HB1 : Hid (Below V.heap.size V w1) := hb
  cases k
  · have HN : Hid (leavesR ps ns xs = -1) := by
      show _ = _
      rw [leavesR, if_neg (fun t => by have := hk.2 t; cases this)]
    clear hk hb
    go_wp2_with fail
    go_ret
    exact ⟨by rw [HN.out]; rfl, below_then HV.out HB1.out⟩
  · have HY : Hid (NdOk ps ns xs) := hk.1 rfl
    have HN : Hid (leavesR ps ns xs = ((seenTo ns xs xs.length).length : Int)) := by
      show _ = _
      rw [leavesR, if_pos HY.out]
    have hpf := HY.out.1.few
    clear hk hb
    go_wp2_with fail
    go_loopw [6, 16] (fun o i wr => ∃ j : Nat, j ≤ xs.length ∧ i = .int .i64 j ∧ o = .int .i64 (seenTo ns xs j).length ∧ Row wr w1.heap.size (bools (seenTo ns xs j)) ∧ Below w1.heap.size w1 wr) (fun _ i _ => xs.length - (intOf i).toNat)
    case atStart => exact ⟨0, Nat.zero_le _, rfl, rfl, row_fresh w1 (bools []) _, low_alloc _ _⟩
    case round =>
      obtain ⟨j, hj, rfl, rfl, hr, hb⟩ := hrel
      have HR : Hid (Row wr w1.heap.size (bools (seenTo ns xs j))) := hr
      have HB : Hid (Below w1.heap.size w1 wr) := hb
      have HBV : Hid (Below V.heap.size V wr) := below_then HB1.out hb
      have r1 := (HA.out.below HBV.out).cell 1 _ rfl
      have hsl := seen_len ns xs j
      clear hr hb
      by_cases hlt : j < xs.length
      · have hj0 : (0 : Int) ≤ (j : Int) := by omega
        have hj1 : (j : Int) < (xs.length : Int) := by omega
        obtain ⟨p, rfl, _, hc⟩ := ((H2.out.below HV.out).below HBV.out).cell j _ (ints_at xs j hlt)
        have HX : Hid (xs[j]? = some xs[j]) := List.getElem?_eq_getElem hlt
        generalize xs[j] = x at hc HX
        obtain ⟨q, n, l, rfl, hq, hql, hnl, hll, hlf⟩ := leaf_of HY.out.1 (HY.out.2 x (List.mem_of_getElem? HX.out))
        have HF : Hid (leafOf ns (q : Int) = l) := hlf
        have hq0 : (0 : Int) ≤ (q : Int) := by omega
        have hq1 : (q : Int) < (ns.length : Int) := by omega
        have hl0 : (0 : Int) ≤ (l : Int) := by omega
        have hl1 : (l : Int) < 24 := by omega
        obtain ⟨p2, rfl, c0, _, _, _⟩ := ((H'.out.below HV.out).below HBV.out).node q hql
        rw [show ns[q] = n by rw [List.getElem?_eq_getElem hql] at hq; exact Option.some.inj hq, hnl] at c0
        clear hlf hnl hq
        have hbc := HR.out.cell l _ (bools_at _ l (by omega))
        have hbf := HR.out.free l
        cases hd : decide ((l : Int) ∈ seenTo ns xs j)
        · have HK : Hid (seenTo ns xs (j + 1) = seenTo ns xs j ++ [(l : Int)]) := by
            show _ = _
            rw [← HF.out]
            refine seen_new HX.out ?_
            rw [HF.out]
            exact of_decide_eq_false hd
          have HR1 : Hid (Row (wr.setCell ⟨w1.heap.size, l, none⟩ (.bool true)) w1.heap.size (bools (seenTo ns xs (j + 1)))) := by
            show Row _ _ _
            rw [HK.out, ← bools_set _ _ (by omega)]
            exact HR.out.set l (by rw [bools_len]; omega) _
          have HB2 : Hid (Below w1.heap.size w1 (wr.setCell ⟨w1.heap.size, l, none⟩ (.bool true))) := HB.out.setCell (Nat.le_refl _) _
          have HLn : Hid (((seenTo ns xs j).length : Int) + 1 = (seenTo ns xs (j + 1)).length) := by show _ = _; rw [HK.out]; simp
          rw [hd] at hbc
          clear hd
          generalize (seenTo ns xs j).length = L at *
          go_wp2_with fail
          go_roundw
          case rel => exact ⟨j + 1, by omega, by go_num, by rw [HLn.out], HR1.out, HB2.out⟩
          case measure => simp [intOf]; omega
        · have HK : Hid (seenTo ns xs (j + 1) = seenTo ns xs j) := by
            show _ = _
            refine seen_old HX.out ?_
            rw [HF.out]
            exact of_decide_eq_true hd
          rw [hd] at hbc
          clear hd
          go_wp2_with fail
          go_roundw
          case rel => exact ⟨j + 1, by omega, by go_num, by rw [HK.out], by rw [HK.out]; exact HR.out, HB.out⟩
          case measure => simp [intOf]; omega
      · obtain rfl : j = xs.length := by omega
        go_wp2_with fail
        go_ret
        exact ⟨by rw [HN.out]; rfl, below_then HV.out HBV.out⟩
end Go.Proofs.Ytljclchjdckgpaa
