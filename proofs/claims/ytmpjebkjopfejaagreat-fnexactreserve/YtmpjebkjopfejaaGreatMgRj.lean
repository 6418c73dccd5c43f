/- Profiles and topologies copied. -/
import Derived.Test.YtmpjebkjopfejaaGreatMgRh
import Derived.Test.YtmpjebkjopfejaaGreatMgRc
import Derived.Test.YtmpjebkjopfejaaGreatMgRb
import Derived.Deep.RegionWith
namespace Go.Proofs.YtmpjebkjopfejaaGreat
open Go.ChangeShapes Go.WideShapes Go.ChangeAt Go.RowKit

set_option maxHeartbeats 1000000 in
theorem cloneI_c (q : Addr) (D : Nat) (rs : List Int) (hl : rs.length ≤ 1048576) (w : World) (h : Sq w (some q) (ints rs)) :
    Calls Tryz.prog 115 #[.slice (some q) rs.length D] w fun e w' => ∃ v, e = .returned v ∧ w'.ownsRow w.heap.size 3 1 v rs.length (ints rs) ∧ Below w.heap.size w w' := by
  have H : Hid (Sq w (some q) (ints rs)) := h
  clear h
  obtain ⟨i0, hi, hz0, hz1, hz2⟩ := info_parts infoInt
  have hO : Hid ((w.alloc (.cells #[] 3)).ownsRow w.heap.size 3 1 (.slice (some ⟨w.heap.size, 0, none⟩) 0 0) 0 []) := World.ownsRow_made w #[] 0 (Nat.le_refl _) (by decide) rfl
  have hB : Hid (Below w.heap.size w (w.alloc (.cells #[] 3))) := low_alloc _ _
  have heq : ∀ W : World, (binOp .eql 22 (.slice (some q) rs.length D) (.slice none 0 0)).run Tryz.prog W = .ok (.bool false) W := fun W => by
    simp only [binOp]
    simp [run_equal_slice_nil W 22 3 (some q) rs.length D Tryz.underlying22]
  go_enter Tryz.func115, Tryz.ntmps115
  go_wp2_with (at_builtin; refine wpList_append_own _ rfl _ _ 22 rfl w.heap.size 3 i0 (.int .i64 0) 1 8 Tryz.underlying22 hi hz0 hz1 hz2 rfl (by decide) _ _ _ rfl hO.out q rs.length D (ints rs) rfl (by rw [ints_len]; omega) ?c1 ?c2 ?c3 ?c4 ?c5 ?_)
  case c1 =>
    intro k u hk
    obtain ⟨q', hq, _, hc⟩ := (H.out.below hB.out).cell k u hk
    cases hq
    exact hc
  case c2 =>
    intro u hu
    simp only [ints, List.mem_map] at hu
    obtain ⟨y, _, rfl⟩ := hu
    rfl
  case c3 => unfold maxLen; omega
  case c4 => omega
  case c5 => simp
  · intro v1 w6 hown1 hgrow1 _
    have HB6 : Hid (Below w.heap.size w w6) := hB.out.grown hgrow1 (by simp) (fun q hq => (hO.out.lt q hq).1)
    have HO6 : Hid (w6.ownsRow w.heap.size 3 1 v1 rs.length (ints rs)) := by
      show World.ownsRow _ _ _ _ _ _ _
      simpa using hown1
    clear hown1 hgrow1
    go_wp2_with fail
    go_ret
    exact ⟨v1, rfl, HO6.out, HB6.out⟩

set_option maxHeartbeats 1000000 in
theorem cloneN_c (q : Addr) (D : Nat) (rs : List Nd) (hl : rs.length ≤ 1048576) (w : World) (h : Sq w (some q) (flat rs)) :
    Calls Tryz.prog 116 #[.slice (some q) rs.length D] w fun e w' => ∃ v, e = .returned v ∧ w'.ownsRow w.heap.size 113 4 v rs.length (flat rs) ∧ Below w.heap.size w w' := by
  have H : Hid (Sq w (some q) (flat rs)) := h
  clear h
  obtain ⟨i0, hi, hz0, hz1, hz2⟩ := info_parts infoNode
  have hO : Hid ((w.alloc (.cells #[] 113)).ownsRow w.heap.size 113 4 (.slice (some ⟨w.heap.size, 0, none⟩) 0 0) 0 []) := World.ownsRow_made w #[] 0 (Nat.le_refl _) (by decide) rfl
  have hB : Hid (Below w.heap.size w (w.alloc (.cells #[] 113))) := low_alloc _ _
  have heq : ∀ W : World, (binOp .eql 38 (.slice (some q) rs.length D) (.slice none 0 0)).run Tryz.prog W = .ok (.bool false) W := fun W => by
    simp only [binOp]
    simp [run_equal_slice_nil W 38 113 (some q) rs.length D Tryz.underlying38]
  go_enter Tryz.func116, Tryz.ntmps116
  go_wp2_with (at_builtin; refine wpList_append_own _ rfl _ _ 38 rfl w.heap.size 113 i0 (.agg #[.int .i64 0, .int .i64 0, .int .i64 0, .int .i64 0]) 4 32 Tryz.underlying38 hi hz0 hz1 hz2 rfl (by decide) _ _ _ rfl hO.out q rs.length D (flat rs) rfl (by rw [flat_len]; omega) ?c1 ?c2 ?c3 ?c4 ?c5 ?_)
  case c1 =>
    intro k u hk
    obtain ⟨q', hq, _, hc⟩ := (H.out.below hB.out).cell k u hk
    cases hq
    exact hc
  case c2 =>
    intro u hu
    obtain ⟨n, hn, hu⟩ := List.mem_flatMap.1 hu
    simp only [Nd.cells, List.mem_cons, List.not_mem_nil, or_false] at hu
    rcases hu with rfl | rfl | rfl | rfl <;> rfl
  case c3 => unfold maxLen; omega
  case c4 => omega
  case c5 => simp
  · intro v1 w6 hown1 hgrow1 _
    have HB6 : Hid (Below w.heap.size w w6) := hB.out.grown hgrow1 (by simp) (fun q hq => (hO.out.lt q hq).1)
    have HO6 : Hid (w6.ownsRow w.heap.size 113 4 v1 rs.length (flat rs)) := by
      show World.ownsRow _ _ _ _ _ _ _
      simpa using hown1
    clear hown1 hgrow1
    go_wp2_with fail
    go_ret
    exact ⟨v1, rfl, HO6.out, HB6.out⟩

set_option maxHeartbeats 1000000 in
theorem cloneB_c (q : Addr) (D : Nat) (rs : List Bool) (hl : rs.length ≤ 1048576) (w : World) (h : Sq w (some q) (bools rs)) :
    Calls Tryz.prog 89 #[.slice (some q) rs.length D] w fun e w' => ∃ v, e = .returned v ∧ w'.ownsRow w.heap.size 4 1 v rs.length (bools rs) ∧ Below w.heap.size w w' := by
  have H : Hid (Sq w (some q) (bools rs)) := h
  clear h
  obtain ⟨i0, hi, hz0, hz1, hz2⟩ := info_parts infoBool
  have hO : Hid ((w.alloc (.cells #[] 4)).ownsRow w.heap.size 4 1 (.slice (some ⟨w.heap.size, 0, none⟩) 0 0) 0 []) := World.ownsRow_made w #[] 0 (Nat.le_refl _) (by decide) rfl
  have hB : Hid (Below w.heap.size w (w.alloc (.cells #[] 4))) := low_alloc _ _
  have heq : ∀ W : World, (binOp .eql 26 (.slice (some q) rs.length D) (.slice none 0 0)).run Tryz.prog W = .ok (.bool false) W := fun W => by
    simp only [binOp]
    simp [run_equal_slice_nil W 26 4 (some q) rs.length D Tryz.underlying26]
  go_enter Tryz.func89, Tryz.ntmps89
  go_wp2_with (at_builtin; refine wpList_append_own _ rfl _ _ 26 rfl w.heap.size 4 i0 (.bool false) 1 1 Tryz.underlying26 hi hz0 hz1 hz2 rfl (by decide) _ _ _ rfl hO.out q rs.length D (bools rs) rfl (by rw [bools_len]; omega) ?c1 ?c2 ?c3 ?c4 ?c5 ?_)
  case c1 =>
    intro k u hk
    obtain ⟨q', hq, _, hc⟩ := (H.out.below hB.out).cell k u hk
    cases hq
    exact hc
  case c2 =>
    intro u hu
    simp only [bools, List.mem_map] at hu
    obtain ⟨y, _, rfl⟩ := hu
    rfl
  case c3 => unfold maxLen; omega
  case c4 => omega
  case c5 => simp
  · intro v1 w6 hown1 hgrow1 _
    have HB6 : Hid (Below w.heap.size w w6) := hB.out.grown hgrow1 (by simp) (fun q hq => (hO.out.lt q hq).1)
    have HO6 : Hid (w6.ownsRow w.heap.size 4 1 v1 rs.length (bools rs)) := by
      show World.ownsRow _ _ _ _ _ _ _
      simpa using hown1
    clear hown1 hgrow1
    go_wp2_with fail
    go_ret
    exact ⟨v1, rfl, HO6.out, HB6.out⟩

end Go.Proofs.YtmpjebkjopfejaaGreat

namespace Go.Proofs.YtmpjebkjopfejaaGreat
open Go.ChangeShapes Go.WideShapes Go.ChangeAt Go.RowKit

/-- A list of the call's own that isn't empty: its block. -/
theorem own4 {w : World} {B n : Nat} {e : TypeId} {v : Value} {xs : List Value} (h : w.ownsRow B e 4 v n xs) (hn : 0 < n) : ∃ g cap, v = .slice (some ⟨g, 0, none⟩) n cap ∧ B ≤ g ∧ g < w.heap.size ∧ Row w g xs := by
  have h8 := AnsP.of_owns h
  clear h
  obtain ⟨hx, a, cap, hv, h9⟩ := h8
  subst hv
  rcases h9 with h0 | ⟨g, rfl, h1, h2, h3⟩
  · omega
  · exact ⟨g, cap, rfl, h1, h2, h3⟩
theorem own1 {w : World} {B n : Nat} {e : TypeId} {v : Value} {xs : List Value} (h : w.ownsRow B e 1 v n xs) (hn : 0 < n) : ∃ g cap, v = .slice (some ⟨g, 0, none⟩) n cap ∧ B ≤ g ∧ g < w.heap.size ∧ Row w g xs := by
  obtain ⟨g, cap, hv, hg, hr⟩ := row_of_owns h hn
  exact ⟨g, cap, hv, hg, hr.lt, hr⟩

set_option maxHeartbeats 1000000 in
theorem copyProf_c (q : Addr) (d : Nat) (ns : List Nd) (hl : ns.length ≤ 1048576) (hn : 0 < ns.length) (w : World) (h : Sq w (some q) (flat ns)) :
    Calls Tryz.prog 90 #[.agg #[.slice (some q) ns.length d]] w fun e w' => ∃ g cap, e = .returned (.agg #[.slice (some ⟨g, 0, none⟩) ns.length cap]) ∧ w.heap.size ≤ g ∧ Row w' g (flat ns) ∧ Below w.heap.size w w' := by
  have H : Hid (Sq w (some q) (flat ns)) := h
  clear h
  go_enter Tryz.func90, Tryz.ntmps90
  go_wp2_with fail
  generalize hV : (w.alloc (.cells #[.slice (some q) ns.length d] 44)).alloc (.cells #[.slice none 0 0] 44) = V
  have B0 : Hid (Below w.heap.size w V) := by subst hV; exact behind_alloc (low_alloc _ _) _
  have X0 : Hid (Row V (w.heap.size + 1) [.slice none 0 0]) := by
    subst hV
    have h := row_fresh (w.alloc (.cells #[.slice (some q) ns.length d] 44)) [.slice none 0 0] 44
    rw [show (w.alloc (.cells #[.slice (some q) ns.length d] 44)).heap.size = w.heap.size + 1 by simp [go_sem]] at h
    exact h
  clear hV
  refine (clone_c q d ns hl _ (H.out.below B0.out)).mono ?_
  rintro e w1 ⟨v, rfl, ho, hb⟩
  have B1 : Hid (Below w.heap.size w w1) := below_then B0.out hb
  have X1 : Hid (Row w1 (w.heap.size + 1) [.slice none 0 0]) := X0.out.below hb
  obtain ⟨g, cap, rfl, hg, _, hr⟩ := own4 ho hn
  have R1 : Hid (Row w1 g (flat ns)) := hr
  have hg' : w.heap.size + 1 < g := by have := X0.out.lt; omega
  clear ho hb hr hg X0 B0
  have x0 := X1.out.cell 0 _ rfl
  have f0 := X1.out.free 0
  go_wp2_with fail
  have G := R1.out.apart (w.heap.size + 1) 0 (.slice (some ⟨g, 0, none⟩) ns.length cap) (by omega)
  have B8 := B1.out
  exact bodyPost_ret (v := .agg #[.slice (some ⟨g, 0, none⟩) ns.length cap]) (by simp [results, Tryz.results90, go_sem, *]) rfl ⟨g, cap, rfl, by omega, G, by go_grown⟩

set_option maxRecDepth 100000 in
set_option maxHeartbeats 2000000 in
theorem copyTopo_c (p q : Addr) (c d : Nat) (ps : List Int) (ns : List Nd) (hp : ps.length ≤ 1048576) (hn : ns.length ≤ 1048576) (hp0 : 0 < ps.length) (hn0 : 0 < ns.length) (w : World) (h : Sq w (some p) (ints ps)) (h' : Sq w (some q) (flat ns)) :
    Calls Tryz.prog 88 #[.agg #[.slice (some p) ps.length c, .slice (some q) ns.length d]] w fun e w' => ∃ g k cP cN, e = .returned (.agg #[.slice (some ⟨g, 0, none⟩) ps.length cP, .slice (some ⟨k, 0, none⟩) ns.length cN]) ∧ w.heap.size ≤ g ∧ g < k ∧ Row w' g (ints ps) ∧ Row w' k (flat ns) ∧ Below w.heap.size w w' := by
  have H : Hid (Sq w (some p) (ints ps)) := h
  have H' : Hid (Sq w (some q) (flat ns)) := h'
  clear h h'
  go_enter Tryz.func88, Tryz.ntmps88
  go_wp2_with fail
  generalize hV : (w.alloc (.cells #[.slice (some p) ps.length c, .slice (some q) ns.length d] 40)).alloc (.cells #[.slice none 0 0, .slice none 0 0] 40) = V
  have B0 : Hid (Below w.heap.size w V) := by subst hV; exact behind_alloc (low_alloc _ _) _
  have A0 : Hid (Row V w.heap.size [.slice (some p) ps.length c, .slice (some q) ns.length d]) := by subst hV; exact (row_fresh w [.slice (some p) ps.length c, .slice (some q) ns.length d] 40).below (low_alloc _ _)
  have X0 : Hid (Row V (w.heap.size + 1) [.slice none 0 0, .slice none 0 0]) := by
    subst hV
    have h := row_fresh (w.alloc (.cells #[.slice (some p) ps.length c, .slice (some q) ns.length d] 40)) [.slice none 0 0, .slice none 0 0] 40
    rw [show (w.alloc (.cells #[.slice (some p) ps.length c, .slice (some q) ns.length d] 40)).heap.size = w.heap.size + 1 by simp [go_sem]] at h
    exact h
  clear hV
  have hlw : w.heap.size + 1 < V.heap.size := X0.out.lt
  have HCI : Hid (∀ W : World, Below V.heap.size V W → Calls Tryz.prog 115 #[.slice (some p) ps.length c] W fun e w' => ∃ g cap, e = .returned (.slice (some ⟨g, 0, none⟩) ps.length cap) ∧ V.heap.size ≤ g ∧ g < w'.heap.size ∧ Row w' g (ints ps) ∧ Below V.heap.size V w') := fun W hW => (cloneI_c p c ps hp W ((H.out.below B0.out).below hW)).mono fun _ w' ⟨v, he, ho, hb⟩ => by
    obtain ⟨g, cap, rfl, hg, hl, hr⟩ := own1 ho hp0
    exact ⟨g, cap, he, Nat.le_trans hW.size hg, hl, hr, below_then hW hb⟩
  have HCN : Hid (∀ W : World, Below V.heap.size V W → Calls Tryz.prog 116 #[.slice (some q) ns.length d] W fun e w' => ∃ g cap, e = .returned (.slice (some ⟨g, 0, none⟩) ns.length cap) ∧ W.heap.size ≤ g ∧ Row w' g (flat ns) ∧ Below W.heap.size W w') := fun W hW => (cloneN_c q d ns hn W ((H'.out.below B0.out).below hW)).mono fun _ w' ⟨v, he, ho, hb⟩ => by
    obtain ⟨g, cap, rfl, hg, hl, hr⟩ := own4 ho hn0
    exact ⟨g, cap, he, hg, hr, hb⟩
  obtain ⟨A, hA⟩ : ∃ A, w.heap.size = A := ⟨_, rfl⟩
  have HA : Hid (w.heap.size = A) := hA
  rw [hA] at A0 X0 hlw ⊢
  clear hA
  have a0 := A0.out.cell 0 _ rfl
  have a1 := A0.out.cell 1 _ rfl
  have D1 : Hid (Below V.heap.size V V.drew) := low_drew V
  go_region_with (first
    | (go_at_call 115; refine (HCI.out V.drew D1.out).mono ?_; rintro e w1 ⟨g, cP, rfl, hg1, hg2, hr, hb1⟩; have RP : Hid (Row w1 g (ints ps)) := hr; have B1 : Hid (Below V.heap.size V w1) := hb1; have b1 := (A0.out.below hb1).cell 1 _ rfl; clear hr hb1)
    | (go_at_call 116; refine (HCN.out w1 B1.out).mono ?_; rintro e w2 ⟨k, cN, rfl, hk1, hr, hb⟩; have RN : Hid (Row w2 k (flat ns)) := hr; have RP2 : Hid (Row w2 g (ints ps)) := RP.out.below hb; have B2 : Hid (Below V.heap.size V w2) := below_then B1.out hb; have x0 := (X0.out.below B2.out).cell 0 _ rfl; have x1 := (X0.out.below B2.out).cell 1 _ rfl; have f0 := (X0.out.below B2.out).free 0; have f1 := (X0.out.below B2.out).free 1; clear hr hb))
  all_goals
    go_wp2_with fail
    have G := (RP2.out.apart (A + 1) 0 (.slice (some ⟨g, 0, none⟩) ps.length cP) (by omega)).apart (A + 1) 1 (.slice (some ⟨k, 0, none⟩) ns.length cN) (by omega)
    have N := (RN.out.apart (A + 1) 0 (.slice (some ⟨g, 0, none⟩) ps.length cP) (by omega)).apart (A + 1) 1 (.slice (some ⟨k, 0, none⟩) ns.length cN) (by omega)
    have B8 := below_then B0.out B2.out
    have hA := HA.out
    exact bodyPost_ret (v := .agg #[.slice (some ⟨g, 0, none⟩) ps.length cP, .slice (some ⟨k, 0, none⟩) ns.length cN]) (by simp [results, Tryz.results88, go_sem, *]) rfl ⟨g, k, cP, cN, rfl, by omega, by omega, G, N, (B8.setCell (by show w.heap.size ≤ A + 1; omega) _).setCell (by show w.heap.size ≤ A + 1; omega) _⟩
end Go.Proofs.YtmpjebkjopfejaaGreat
