/- 'Below' by the program and by the specification. -/
import Derived.Test.YtcjamjfdkpgjkaaBelowA
namespace Go.Proofs.Ytcjamjfdkpgjkaa
open Go.ChangeShapes Go.WideShapes Go.ChangeAt Go.RowKit

/-- What 'Below' answers. -/
noncomputable def belowR (ps : List Int) (ns : List Nd) (s : Int) : List Int := open Classical in if SwOk ps ns s then belowTo ps ns s ns.length else []

theorem belowR_len (ps : List Int) (ns : List Nd) (s : Int) : (belowR ps ns s).length ≤ 1048576 := by
  unfold belowR
  split
  · rename_i h
    have := below_len ps ns s ns.length
    have := h.1.nodes
    omega
  · simp

set_option maxHeartbeats 1000000 in
theorem implBelow_c (a b : Option Addr) (c d : Nat) (ps : List Int) (ns : List Nd) (s : Int) (hn : ns.length ≤ 1048576) (w : World) (h : Sq w a (ints ps)) (h' : Sq w b (flat ns)) :
    Calls Try.prog 8 #[.agg #[.slice a ps.length c, .slice b ns.length d], .int .i64 s] w fun e w' => ∃ v, e = .returned v ∧ Ans w.heap.size w'.heap.size w' (ints (belowR ps ns s)) v ∧ Below w.heap.size w w' := by
  have H : Hid (Sq w a (ints ps)) := h
  have H' : Hid (Sq w b (flat ns)) := h'
  clear h h'
  go_enter Try.func8, Try.ntmps8
  go_wp2_with fail
  generalize hV : (w.alloc (.cells #[.slice a ps.length c, .slice b ns.length d] 26)).alloc (.cells #[.int .i64 s] 3) = V
  have HA : Hid (Row V w.heap.size [.slice a ps.length c, .slice b ns.length d]) := by subst hV; exact (row_fresh w [.slice a ps.length c, .slice b ns.length d] 26).below (low_alloc _ _)
  have HS : Hid (Row V (w.heap.size + 1) [.int .i64 s]) := by
    subst hV
    have h := row_fresh (w.alloc (.cells #[.slice a ps.length c, .slice b ns.length d] 26)) [.int .i64 s] 3
    rwa [show (w.alloc (.cells #[.slice a ps.length c, .slice b ns.length d] 26)).heap.size = w.heap.size + 1 by simp [go_sem]] at h
  have HV : Hid (Below w.heap.size w V) := by subst hV; exact behind_alloc (low_alloc _ _) _
  clear hV
  refine (switchThere_c a b c d ps ns s hn _ (H.out.below HV.out) (H'.out.below HV.out)).mono ?_
  rintro e w1 ⟨k, rfl, hk, hb⟩
  have HB1 : Hid (Below V.heap.size V w1) := hb
  have t1 := (HA.out.below hb).cell 1 _ rfl
  cases k
  · have HN : Hid (belowR ps ns s = []) := by
      show _ = _
      rw [belowR, if_neg (fun t => by have := hk.2 t; cases this)]
    clear hk hb
    go_wp2_with fail
    go_ret
    exact ⟨_, rfl, by rw [HN.out]; exact ans_none _ _ _, below_then HV.out HB1.out⟩
  · have HY : Hid (SwOk ps ns s) := hk.1 rfl
    have HN : Hid (belowR ps ns s = belowTo ps ns s ns.length) := by
      show _ = _
      rw [belowR, if_pos HY.out]
    have hlen := HY.out.1.nodes
    have HG : Hid (GatherMem a b c d ps ns s w.heap.size (w.heap.size + 1) w1) := ⟨(HA.out.below hb).cell 0 _ rfl, t1, (HS.out.below hb).cell 0 _ rfl, (H.out.below HV.out).below hb, (H'.out.below HV.out).below hb⟩
    clear hk hb
    have hlt1 : w.heap.size < w1.heap.size := by have := (HA.out.below HB1.out).lt; omega
    have hne1 : w.heap.size ≠ w1.heap.size := by omega
    go_wp2_with fail
    clear t1
    go_loopw [16] (fun i wr => ∃ (j : Nat) (v : Value), j ≤ ns.length ∧ i = .int .i64 j ∧ Boxed wr w1.heap.size 23 v ∧ wr.ownsRow w1.heap.size 3 1 v (belowTo ps ns s j).length (ints (belowTo ps ns s j)) ∧ Below w1.heap.size w1 wr) (fun i _ => ns.length - (intOf i).toNat)
    case atStart => exact ⟨0, _, Nat.zero_le _, rfl, Boxed.new _ _ _, World.ownsRow_nil _ _ _ _, low_alloc _ _⟩
    case round =>
      obtain ⟨j, v, hj, rfl, hv, hrow, hb⟩ := hrel
      have HB : Hid (Below w1.heap.size w1 wr) := hb
      have HR : Hid (wr.ownsRow w1.heap.size 3 1 v (belowTo ps ns s j).length (ints (belowTo ps ns s j))) := hrow
      have HX : Hid (Boxed wr w1.heap.size 23 v) := hv
      have hc := hv.cell
      clear hb hrow hv
      by_cases hlt : j < ns.length
      · have hj0 : (0 : Int) ≤ (j : Int) := by omega
        have hj1 : (j : Int) < (ns.length : Int) := by omega
        go_wp2_with fail
        refine (gather_c a b c d ps ns s w.heap.size (w.heap.size + 1) w1.heap.size HY.out w1 wr HG.out HB.out (Nat.le_refl _) v HX.out j hlt HR.out).mono ?_
        rintro e w2 ⟨⟨r, rfl⟩, v2, hv2, hr2, hb2⟩
        have HB2 : Hid (Below w1.heap.size w1 w2) := hb2
        have HR2 : Hid (w2.ownsRow w1.heap.size 3 1 v2 (belowTo ps ns s (j + 1)).length (ints (belowTo ps ns s (j + 1)))) := hr2
        have HX2 : Hid (Boxed w2 w1.heap.size 23 v2) := hv2
        clear hb2 hr2 hv2
        go_wp2_with fail
        go_roundw
        case rel => exact ⟨j + 1, v2, by omega, by go_num, HX2.out, HR2.out, HB2.out⟩
        case measure => simp [intOf]; omega
      · obtain rfl : j = ns.length := by omega
        have HO : Hid (Ans w.heap.size wr.heap.size wr (ints (belowR ps ns s)) v) := by
          show Ans _ _ _ _ _
          rw [HN.out]
          exact Ans.of_owns (owns_mono HR.out (by omega))
        go_wp2_with fail
        go_ret
        exact ⟨v, rfl, HO.out, below_then (below_then HV.out HB1.out) HB.out⟩

end Go.Proofs.Ytcjamjfdkpgjkaa
