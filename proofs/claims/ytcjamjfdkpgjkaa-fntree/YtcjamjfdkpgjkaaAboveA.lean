/- 'Above' by the program and by the specification. -/
import Derived.Test.YtcjamjfdkpgjkaaWayB
import Derived.Test.YtcjamjfdkpgjkaaAnsA
namespace Go.Proofs.Ytcjamjfdkpgjkaa
open Go.ChangeShapes Go.WideShapes Go.ChangeAt Go.RowKit

/-- What 'Above' answers. -/
noncomputable def aboveR (ps : List Int) (ns : List Nd) (s : Int) : List Int := open Classical in if SwOk ps ns s then upF ps s.toNat s.toNat else []

theorem above_len (ps : List Int) (ns : List Nd) (s : Int) : (aboveR ps ns s).length ≤ 1048576 := by
  unfold aboveR
  split
  · rename_i h
    have := up_len ps s.toNat s.toNat
    have := h.1.few
    have := h.2.1
    have := h.2.2
    omega
  · simp

theorem ans_none (B T : Nat) (w : World) : Ans B T w (ints []) (.slice none 0 0) := ⟨none, 0, rfl, .inl rfl⟩

set_option maxHeartbeats 1000000 in
theorem implAbove_c (a b : Option Addr) (c d : Nat) (ps : List Int) (ns : List Nd) (s : Int) (hn : ns.length ≤ 1048576) (w : World) (h : Sq w a (ints ps)) (h' : Sq w b (flat ns)) :
    Calls Try.prog 9 #[.agg #[.slice a ps.length c, .slice b ns.length d], .int .i64 s] w fun e w' => ∃ v, e = .returned v ∧ Ans w.heap.size w'.heap.size w' (ints (aboveR ps ns s)) v ∧ Below w.heap.size w w' := by
  have H : Hid (Sq w a (ints ps)) := h
  have H' : Hid (Sq w b (flat ns)) := h'
  clear h h'
  go_enter Try.func9, Try.ntmps9
  go_wp2_with fail
  generalize hV : w.alloc (.cells #[.slice a ps.length c, .slice b ns.length d] 26) = V
  have HA : Hid (Row V w.heap.size [.slice a ps.length c, .slice b ns.length d]) := by subst hV; exact row_fresh w [.slice a ps.length c, .slice b ns.length d] 26
  have HV : Hid (Below w.heap.size w V) := by subst hV; exact low_alloc _ _
  clear hV
  refine (switchThere_c a b c d ps ns s hn _ (H.out.below HV.out) (H'.out.below HV.out)).mono ?_
  rintro e w1 ⟨k, rfl, hk, hb⟩
  have HB1 : Hid (Below V.heap.size V w1) := hb
  have t0 := (HA.out.below hb).cell 0 _ rfl
  clear hb
  cases k
  · have HN : Hid (aboveR ps ns s = []) := by
      show _ = _
      rw [aboveR, if_neg (fun t => by have := hk.2 t; cases this)]
    clear hk
    go_wp2_with fail
    go_ret
    exact ⟨_, rfl, by rw [HN.out]; exact ans_none _ _ _, below_then HV.out HB1.out⟩
  · have HY : Hid (SwOk ps ns s) := hk.1 rfl
    have HN : Hid (aboveR ps ns s = upF ps s.toNat s.toNat) := by
      show _ = _
      rw [aboveR, if_pos HY.out]
    have h0 : 0 ≤ s := HY.out.2.1
    have h1 : s < ps.length := HY.out.2.2
    have hf := HY.out.1.few
    obtain ⟨m, rfl⟩ : ∃ m : Nat, s = m := ⟨s.toNat, by omega⟩
    rw [Int.toNat_natCast] at HN
    clear hk
    obtain ⟨u, hu⟩ := way_fin HY.out.1.tree hf m (by omega)
    have HU : Hid (vals u = upF ps m m) := hu
    have hul : u.length ≤ 1000 := by
      have h1 := up_len ps m m
      rw [← hu] at h1
      simp [vals] at h1
      omega
    clear hu
    go_wp2_with fail
    refine (wayUp_c a ps.length c m w1).mono ?_
    rintro e w2 ⟨rfl, rfl⟩
    have HB2 : Hid (Below w1.heap.size w1 ((w1.alloc (.cells #[.slice a ps.length c] 23)).alloc (.cells #[.int .i64 (m : Int)] 3))) := behind_alloc (low_alloc _ _) _
    have HP2 : Hid (((w1.alloc (.cells #[.slice a ps.length c] 23)).alloc (.cells #[.int .i64 (m : Int)] 3)).cell? ⟨w1.heap.size, 0, none⟩ = some (.slice a ps.length c)) := by
      show _ = _
      exact ((row_fresh w1 [.slice a ps.length c] 23).below (low_alloc _ _)).cell 0 _ rfl
    have HS2 : Hid (((w1.alloc (.cells #[.slice a ps.length c] 23)).alloc (.cells #[.int .i64 (m : Int)] 3)).cell? ⟨w1.heap.size + 1, 0, none⟩ = some (.int .i64 (m : Int))) := by
      show _ = _
      have h := (row_fresh (w1.alloc (.cells #[.slice a ps.length c] 23)) [.int .i64 (m : Int)] 3).cell 0 _ rfl
      rwa [show (w1.alloc (.cells #[.slice a ps.length c] 23)).heap.size = w1.heap.size + 1 by simp [go_sem]] at h
    generalize (w1.alloc (.cells #[.slice a ps.length c] 23)).alloc (.cells #[.int .i64 (m : Int)] 3) = w2 at HB2 HP2 HS2
    go_wp2_with fail
    refine (collect_c (w1.heap.size + 1) w1.heap.size a c ps m u HY.out.1.tree (by omega) HU.out hul w2 HS2.out ⟨HP2.out, ((H.out.below HV.out).below HB1.out).below HB2.out⟩).mono ?_
    rintro e w3 ⟨v, rfl, ho, hb⟩
    have HB3 : Hid (Below w.heap.size w w3) := below_then (below_then (below_then HV.out HB1.out) HB2.out) hb
    have HO : Hid (Ans w.heap.size w3.heap.size w3 (ints (aboveR ps ns m)) v) := by
      show Ans _ _ _ _ _
      rw [HN.out, ← HU.out]
      exact Ans.of_owns (owns_mono ho (below_then (below_then HV.out HB1.out) HB2.out).size)
    clear ho hb t0
    go_wp2_with fail
    go_ret
    exact ⟨v, rfl, HO.out, HB3.out⟩

end Go.Proofs.Ytcjamjfdkpgjkaa
