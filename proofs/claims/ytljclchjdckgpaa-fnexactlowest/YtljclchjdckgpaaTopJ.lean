/- The nodes below a switch, by the specification. -/
import Derived.Test.YtljclchjdckgpaaTopI
namespace Go.Proofs.Ytljclchjdckgpaa
open Go.ChangeShapes Go.WideShapes Go.ChangeAt Go.RowKit

/-- Of the first k nodes those below s. -/
def belowTo (ps : List Int) (ns : List Nd) (s : Int) : Nat → List Int
  | 0 => []
  | k + 1 => if ∃ n, ns[k]? = some n ∧ s ∈ upF ps n.l.toNat n.l.toNat then belowTo ps ns s k ++ [(k : Int)] else belowTo ps ns s k

theorem below_len (ps : List Int) (ns : List Nd) (s : Int) : ∀ k, (belowTo ps ns s k).length ≤ k
  | 0 => Nat.le_refl _
  | k + 1 => by
    have := below_len ps ns s k
    unfold belowTo
    split
    · simp; omega
    · omega

theorem owns_below {w w' : World} {B n size : Nat} {e : TypeId} {v : Value} {xs : List Value} (h : w.ownsRow B e size v n xs) (hb : Below w.heap.size w w') : w'.ownsRow B e size v n xs :=
  h.kept (row := none) ⟨hb.os, hb.tape, hb.output, hb.size, fun i hi _ => hb.block i hi⟩ (by cases v.ownBlock <;> simp)

set_option maxHeartbeats 1000000 in
theorem specBelow_no (a b : Option Addr) (c d : Nat) (ps : List Int) (ns : List Nd) (s : Int) (hp : ps.length ≤ 1048576) (hn : ns.length ≤ 1048576) (w : World) (h : Sq w a (ints ps)) (h' : Sq w b (flat ns)) (hs : ¬ SwOk ps ns s) :
    Calls Try.prog 23 #[.agg #[.slice a ps.length c, .slice b ns.length d], .int .i64 s] w fun e w' => ∃ a' cap, e = .returned (.slice a' 0 cap) ∧ Below w.heap.size w w' := by
  have H : Hid (Sq w a (ints ps)) := h
  have H' : Hid (Sq w b (flat ns)) := h'
  have HS : Hid (¬ SwOk ps ns s) := hs
  clear h h' hs
  go_enter Try.func23, Try.ntmps23
  go_wp2_with fail
  generalize hV : (w.alloc (.cells #[.slice a ps.length c, .slice b ns.length d] 26)).alloc (.cells #[] 3) = V
  have HV : Hid (Below w.heap.size w V) := by subst hV; exact behind_alloc (low_alloc _ _) _
  clear hV
  refine (l02Switch_c a b c d ps ns s hp hn _ (H.out.below HV.out) (H'.out.below HV.out)).mono ?_
  rintro e w1 ⟨k, rfl, hk, hb⟩
  have HB1 : Hid (Below w.heap.size w w1) := below_then HV.out hb
  clear hb
  cases k
  · clear hk
    go_wp2_with fail
    go_ret
    exact ⟨_, _, rfl, HB1.out⟩
  · exact absurd (hk.1 rfl) HS.out

set_option maxHeartbeats 2000000 in
theorem specBelow_o (a b : Option Addr) (c d : Nat) (ps : List Int) (ns : List Nd) (s : Int) (w : World) (h : Sq w a (ints ps)) (h' : Sq w b (flat ns)) (hs : SwOk ps ns s) :
    Calls Try.prog 23 #[.agg #[.slice a ps.length c, .slice b ns.length d], .int .i64 s] w fun e w' =>
      ∃ v, e = .returned v ∧ w'.ownsRow w.heap.size 3 1 v (belowTo ps ns s ns.length).length (ints (belowTo ps ns s ns.length)) ∧ Below w.heap.size w w' := by
  have H : Hid (Sq w a (ints ps)) := h
  have H' : Hid (Sq w b (flat ns)) := h'
  have HS : Hid (SwOk ps ns s) := hs
  have hp := hs.1.few
  have hn := hs.1.nodes
  clear h h' hs
  obtain ⟨i0, hi, hz0, hz1, hz2⟩ := info_parts infoInt
  go_enter Try.func23, Try.ntmps23
  go_wp2_with fail
  generalize hV : w.alloc (.cells #[.slice a ps.length c, .slice b ns.length d] 26) = V
  have HA : Hid (Row V w.heap.size [.slice a ps.length c, .slice b ns.length d]) := by subst hV; exact row_fresh w [.slice a ps.length c, .slice b ns.length d] 26
  have HV : Hid (Below w.heap.size w V) := by subst hV; exact low_alloc _ _
  have hVs : w.heap.size + 1 = V.heap.size := by subst hV; simp [go_sem]
  clear hV
  rw [hVs]
  have HO0 : Hid ((V.alloc (.cells #[] 3)).ownsRow V.heap.size 3 1 (.slice (some ⟨V.heap.size, 0, none⟩) 0 0) 0 []) := World.ownsRow_made V #[] 0 (Nat.le_refl _) (by decide) rfl
  have HB0 : Hid (Below V.heap.size V (V.alloc (.cells #[] 3))) := low_alloc _ _
  generalize V.alloc (.cells #[] 3) = w0 at HO0 HB0
  refine (l02Switch_c a b c d ps ns s (by omega) (by omega) _ ((H.out.below HV.out).below HB0.out) ((H'.out.below HV.out).below HB0.out)).mono ?_
  rintro e w1 ⟨k, rfl, hk, hb⟩
  obtain rfl : k = true := hk.2 HS.out
  clear hk
  have HB1 : Hid (Below V.heap.size V w1) := below_then HB0.out hb
  have HO1 : Hid (w1.ownsRow V.heap.size 3 1 (.slice (some ⟨V.heap.size, 0, none⟩) 0 0) 0 []) := owns_below HO0.out hb
  have t1 := (HA.out.below HB1.out).cell 1 _ rfl
  clear hb HO0 HB0
  go_wp2_with fail
  clear t1
  go_loopw [5, 17] (fun o i wr => ∃ j : Nat, j ≤ ns.length ∧ i = .int .i64 j ∧ wr.ownsRow V.heap.size 3 1 o (belowTo ps ns s j).length (ints (belowTo ps ns s j)) ∧ Below V.heap.size V wr) (fun _ i _ => ns.length - (intOf i).toNat)
  case atStart => exact ⟨0, Nat.zero_le _, rfl, HO1.out, HB1.out⟩
  case round =>
    obtain ⟨j, hj, rfl, hown, hb⟩ := hrel
    have HO : Hid (wr.ownsRow V.heap.size 3 1 u5 (belowTo ps ns s j).length (ints (belowTo ps ns s j))) := hown
    have HB : Hid (Below V.heap.size V wr) := hb
    have r0 := (HA.out.below hb).cell 0 _ rfl
    have r1 := (HA.out.below hb).cell 1 _ rfl
    have hsz : w.heap.size < wr.heap.size := (HA.out.below hb).lt
    have hne : w.heap.size ≠ wr.heap.size := by omega
    have hbl := below_len ps ns s j
    clear hown hb HO1 HB1
    by_cases hlt : j < ns.length
    · have hj0 : (0 : Int) ≤ (j : Int) := by omega
      have hj1 : (j : Int) < (ns.length : Int) := by omega
      obtain ⟨p2, rfl, c0, c1, c2, c3⟩ := ((H'.out.below HV.out).below HB.out).node j hlt
      have HX : Hid (ns[j]? = some ns[j]) := List.getElem?_eq_getElem hlt
      generalize ns[j] = n at c0 c1 c2 c3 HX
      have hnode := HS.out.1.node n (List.mem_of_getElem? HX.out)
      obtain ⟨m, hm⟩ : ∃ m : Nat, n.l = m := ⟨n.l.toNat, by omega⟩
      have hml : m < ps.length := by omega
      have HLm : Hid (n.l.toNat = m) := by show _ = _; omega
      rw [hm] at c0
      clear hnode hm
      go_wp2_with fail
      have HB3 : Hid (Below V.heap.size V (wr.alloc (.cells #[.int .i64 m, .int .i64 n.a, .int .i64 n.b, .int .i64 n.c] 35))) := behind_alloc HB.out _
      have HO3 : Hid ((wr.alloc (.cells #[.int .i64 m, .int .i64 n.a, .int .i64 n.b, .int .i64 n.c] 35)).ownsRow V.heap.size 3 1 u5 (belowTo ps ns s j).length (ints (belowTo ps ns s j))) := HO.out.alloc _
      generalize wr.alloc (.cells #[.int .i64 m, .int .i64 n.a, .int .i64 n.b, .int .i64 n.c] 35) = w3 at HB3 HO3
      generalize wr.heap.size = q at *
      clear r0 r1 c0 c1 c2 c3 HB HO
      refine (l02Up_c a (some p2) c ns.length d ps m hp HS.out.1.tree hml _ ((H.out.below HV.out).below HB3.out)).mono ?_
      rintro e w4 ⟨a', cap, rfl, hsq, hb⟩
      have HB4 : Hid (Below V.heap.size V w4) := below_then HB3.out hb
      have HO4 : Hid (w4.ownsRow V.heap.size 3 1 u5 (belowTo ps ns s j).length (ints (belowTo ps ns s j))) := owns_below HO3.out hb
      have HQ4 : Hid (Sq w4 a' (ints (upF ps m m))) := hsq
      have hul := up_len ps m m
      clear hb hsq HB3 HO3
      go_wp2_with fail
      refine (l02Has_c a' cap (upF ps m m) s (by omega) _ HQ4.out).mono ?_
      rintro e w5 ⟨rfl, hb⟩
      have HB5 : Hid (Below V.heap.size V w5) := below_then HB4.out hb
      have HO5 : Hid (w5.ownsRow V.heap.size 3 1 u5 (belowTo ps ns s j).length (ints (belowTo ps ns s j))) := owns_below HO4.out hb
      have hw5 : V.heap.size ≤ w5.heap.size := HB5.out.size
      clear hb HB4 HO4 HQ4
      cases hd : decide (s ∈ upF ps m m)
      · have HK : Hid (belowTo ps ns s (j + 1) = belowTo ps ns s j) := by
          show _ = _
          rw [belowTo, if_neg]
          rintro ⟨y, hy, hm⟩
          rw [HX.out] at hy
          cases hy
          rw [HLm.out] at hm
          rw [decide_eq_false_iff_not] at hd
          exact hd hm
        clear hd
        go_wp2_with fail
        go_roundw
        case rel => exact ⟨j + 1, by omega, by go_num, by rw [HK.out]; exact HO5.out, HB5.out⟩
        case measure => simp [intOf]; omega
      · have HK : Hid (belowTo ps ns s (j + 1) = belowTo ps ns s j ++ [(j : Int)]) := by
          show _ = _
          rw [belowTo, if_pos ⟨n, HX.out, by rw [HLm.out]; exact of_decide_eq_true hd⟩]
        clear hd
        go_wp2_with (at_builtin; refine wpList_append_own _ rfl _ _ 23 rfl V.heap.size 3 i0 (.int .i64 0) 1 8 Try.underlying23 hi hz0 hz1 hz2 rfl (by decide) _ _ _ rfl (HO5.out.alloc _) ⟨w5.heap.size, 0, none⟩ 1 1 [.int .i64 j] rfl rfl ?c1 ?c2 ?c3 ?c4 ?c5 ?_)
        case c1 =>
          intro k u hk
          match k, hk with
          | 0, hk => simp at hk; subst hk; simp [Addr.add]
        case c2 => intro u hu; simp at hu; subst hu; rfl
        case c3 => unfold maxLen; omega
        case c4 => omega
        case c5 => simp; omega
        · intro v1 w6 hown1 hgrow1 _
          have HB6 : Hid (Below V.heap.size V w6) := (HB5.out.alloc hw5 _).grown hgrow1 (by simp; omega) (fun q hq => (HO5.out.lt q hq).1)
          have HO6 : Hid (w6.ownsRow V.heap.size 3 1 v1 (belowTo ps ns s (j + 1)).length (ints (belowTo ps ns s (j + 1)))) := by
            show World.ownsRow _ _ _ _ _ _ _
            rw [HK.out, List.length_append, ints, List.map_append]
            exact hown1
          clear hown1 hgrow1
          go_wp2_with fail
          go_roundw
          case rel => exact ⟨j + 1, by omega, by go_num, HO6.out, HB6.out⟩
          case measure => simp [intOf]; omega
    · obtain rfl : j = ns.length := by omega
      go_wp2_with fail
      go_ret
      exact ⟨u5, rfl, owns_mono HO.out (by omega), below_then HV.out HB.out⟩
end Go.Proofs.Ytljclchjdckgpaa
