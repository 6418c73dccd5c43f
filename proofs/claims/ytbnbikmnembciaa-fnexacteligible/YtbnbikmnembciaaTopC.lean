/- Topologies: copied, measured, held against each other. -/
import Derived.Test.YtbnbikmnembciaaTopB
namespace Go.Proofs.Ytbnbikmnembciaa
open Go.ChangeShapes Go.WideShapes Go.ChangeAt Go.RowKit

theorem Row.apart {w : World} {g : Nat} {xs : List Value} (h : Row w g xs) (b i : Nat) (v : Value) (hne : g ≠ b) : Row (w.setCell ⟨b, i, none⟩ v) g xs := h.far (Lib.grownBy_setCell w b i v) (by intro e; exact hne (Option.some.inj e))

theorem szIntS_c (a : Option Addr) (n cap : Nat) (hn : n ≤ maxLen) (left : Int) (h0 : 0 ≤ left) (h1 : left ≤ 1048576) (w : World) :
    Calls Try.prog 37 #[.slice a n cap, .int .i64 left] w fun e w' => e = .returned (.int .i64 (if left - n < 0 then -1 else left - n)) ∧ w' = w := by
  unfold maxLen at hn
  by_cases h : left - n < 0
  · go_enter Try.func37, Try.ntmps37
    go_wp2_with fail
    go_ret
    exact ⟨rfl, rfl⟩
  · go_enter Try.func37, Try.ntmps37
    go_wp2_with fail
    go_ret
    exact ⟨rfl, rfl⟩

theorem szNodeS_c (a : Option Addr) (n cap : Nat) (hn : n ≤ maxLen) (left : Int) (h0 : 0 ≤ left) (h1 : left ≤ 1048576) (w : World) :
    Calls Try.prog 38 #[.slice a n cap, .int .i64 left] w fun e w' => e = .returned (.int .i64 (if left - n < 0 then -1 else left - n)) ∧ w' = w := by
  unfold maxLen at hn
  by_cases h : left - n < 0
  · go_enter Try.func38, Try.ntmps38
    go_wp2_with fail
    go_ret
    exact ⟨rfl, rfl⟩
  · go_enter Try.func38, Try.ntmps38
    go_wp2_with fail
    go_ret
    exact ⟨rfl, rfl⟩

/-- What is left of the measure behind a topology; -1 where it is too great. -/
def szT (n m : Nat) (left : Int) : Int := if left - n < 0 then -1 else if left - n - m < 0 then -1 else left - n - m

theorem szTopo_c (a b : Option Addr) (n m c d : Nat) (hn : n ≤ maxLen) (hm : m ≤ maxLen) (left : Int) (h0 : 0 ≤ left) (h1 : left ≤ 1048576) (w : World) :
    Calls Try.prog 14 #[.agg #[.slice a n c, .slice b m d], .int .i64 left] w fun e w' => e = .returned (.int .i64 (szT n m left)) ∧ Below w.heap.size w w' := by
  have Hn : Hid (n ≤ maxLen) := hn
  have Hm : Hid (m ≤ maxLen) := hm
  clear hn hm
  go_enter Try.func14, Try.ntmps14
  go_wp2_with fail
  refine (szIntS_c a n c Hn.out left h0 h1 _).mono ?_
  rintro e w1 ⟨rfl, rfl⟩
  by_cases h2 : left - n < 0
  · have H2 : Hid (left - n < 0) := h2
    rw [if_pos h2]
    go_wp2_with fail
    go_ret
    exact ⟨by rw [szT, if_pos H2.out]; rfl, by go_grown⟩
  · have H2 : Hid (¬ left - n < 0) := h2
    rw [if_neg h2]
    go_wp2_with fail
    refine (szNodeS_c b m d Hm.out (left - n) (by omega) (by omega) _).mono ?_
    rintro e w1 ⟨rfl, rfl⟩
    by_cases h3 : left - n - m < 0
    · have H3 : Hid (left - n - m < 0) := h3
      rw [if_pos h3]
      go_wp2_with fail
      go_ret
      exact ⟨by rw [szT, if_neg (by have := H2.out; omega), if_pos H3.out]; rfl, by go_grown⟩
    · have H3 : Hid (¬ left - n - m < 0) := h3
      rw [if_neg h3]
      go_wp2_with fail
      go_ret
      exact ⟨by rw [szT, if_neg (by have := H2.out; omega), if_neg (by have := H3.out; omega)]; rfl, by go_grown⟩

set_option maxHeartbeats 1000000 in
theorem toTopo_c (a b : Option Addr) (c d : Nat) (ps : List Int) (ns : List Nd) (hp : ps.length ≤ 1048576) (hn : ns.length ≤ 1048576) (w : World) (h : Sq w a (ints ps)) (h' : Sq w b (flat ns)) :
    Calls Try.prog 21 #[.agg #[.slice a ps.length c, .slice b ns.length d]] w fun e w' =>
      ∃ g h, e = .returned (.agg #[.slice (some ⟨g, 0, none⟩) ps.length ps.length, .slice (some ⟨h, 0, none⟩) ns.length ns.length]) ∧ w.heap.size ≤ g ∧ g < h ∧ Row w' g (ints ps) ∧ Row w' h (flat ns) ∧ Below w.heap.size w w' := by
  have H : Hid (Sq w a (ints ps)) := h
  have H' : Hid (Sq w b (flat ns)) := h'
  clear h h'
  go_enter Try.func21, Try.ntmps21
  go_wp2_with fail
  generalize hV : (((w.alloc (.cells #[.slice a ps.length c, .slice b ns.length d] 25)).alloc (.cells #[.slice none 0 0, .slice none 0 0] 39)).alloc (.cells #[.slice none 0 0, .slice none 0 0] 39)) = V
  have HA : Hid (Row V w.heap.size [.slice a ps.length c, .slice b ns.length d]) := by
    subst hV
    exact ((row_fresh w [.slice a ps.length c, .slice b ns.length d] 25).below (low_alloc _ _)).below (low_alloc _ _)
  have HR : Hid (Row V (w.heap.size + 1) [.slice none 0 0, .slice none 0 0]) := by
    subst hV
    have h := row_fresh (w.alloc (.cells #[.slice a ps.length c, .slice b ns.length d] 25)) [.slice none 0 0, .slice none 0 0] 39
    rw [show (w.alloc (.cells #[.slice a ps.length c, .slice b ns.length d] 25)).heap.size = w.heap.size + 1 by simp [go_sem]] at h
    exact h.below (low_alloc _ _)
  have HO : Hid (Row V (w.heap.size + 1 + 1) [.slice none 0 0, .slice none 0 0]) := by
    subst hV
    have h := row_fresh ((w.alloc (.cells #[.slice a ps.length c, .slice b ns.length d] 25)).alloc (.cells #[.slice none 0 0, .slice none 0 0] 39)) [.slice none 0 0, .slice none 0 0] 39
    rw [show ((w.alloc (.cells #[.slice a ps.length c, .slice b ns.length d] 25)).alloc (.cells #[.slice none 0 0, .slice none 0 0] 39)).heap.size = w.heap.size + 1 + 1 by simp [go_sem]] at h
    exact h
  have HB : Hid (Below w.heap.size w V) := by subst hV; show Below _ _ _; go_grown
  clear hV
  refine (toIntS_c a c ps hp _ (H.out.below HB.out)).mono ?_
  rintro e w1 ⟨g, rfl, hg, hr, hb⟩
  have hgo : w.heap.size + 1 + 1 < g := by have := HO.out.lt; omega
  have HG1 : Hid (Row w1 g (ints ps)) := hr
  have HA1 : Hid (Row w1 w.heap.size [.slice a ps.length c, .slice b ns.length d]) := HA.out.below hb
  have HR1 : Hid (Row w1 (w.heap.size + 1) [.slice none 0 0, .slice none 0 0]) := HR.out.below hb
  have HO1 : Hid (Row w1 (w.heap.size + 1 + 1) [.slice none 0 0, .slice none 0 0]) := HO.out.below hb
  have HB1 : Hid (Below w.heap.size w w1) := below_then HB.out hb
  clear hb hr HA HR HO HB
  have a1 := HA1.out.cell 1 _ rfl
  have o0 := HO1.out.cell 0 _ rfl
  have fo0 := HO1.out.free 0
  go_wp2_with fail
  have HA2 : Hid (Row (w1.setCell ⟨w.heap.size + 1 + 1, 0, none⟩ (.slice (some ⟨g, 0, none⟩) ps.length ps.length)) (w.heap.size + 1) [.slice none 0 0, .slice none 0 0]) := HR1.out.far (Lib.grownBy_setCell _ _ _ _) (by intro e; have := Option.some.inj e; omega)
  have HO2 : Hid (Row (w1.setCell ⟨w.heap.size + 1 + 1, 0, none⟩ (.slice (some ⟨g, 0, none⟩) ps.length ps.length)) (w.heap.size + 1 + 1) [.slice (some ⟨g, 0, none⟩) ps.length ps.length, .slice none 0 0]) := HO1.out.set 0 (by simp) _
  have HG2 : Hid (Row (w1.setCell ⟨w.heap.size + 1 + 1, 0, none⟩ (.slice (some ⟨g, 0, none⟩) ps.length ps.length)) g (ints ps)) := HG1.out.far (Lib.grownBy_setCell _ _ _ _) (by intro e; have := Option.some.inj e; omega)
  have HB2 : Hid (Below w.heap.size w (w1.setCell ⟨w.heap.size + 1 + 1, 0, none⟩ (.slice (some ⟨g, 0, none⟩) ps.length ps.length))) := HB1.out.setCell (by show w.heap.size ≤ w.heap.size + 1 + 1; omega) _
  generalize w1.setCell ⟨w.heap.size + 1 + 1, 0, none⟩ (.slice (some ⟨g, 0, none⟩) ps.length ps.length) = w2 at HA2 HO2 HG2 HB2
  clear a1 o0 fo0 HA1 HR1 HO1 HG1 HB1
  refine (toNodeS_c b d ns hn _ (H'.out.below HB2.out)).mono ?_
  rintro e w3 ⟨h, rfl, hh, hr, hb⟩
  have hgh : g < h := by have := HG2.out.lt; omega
  have HN3 : Hid (Row w3 h (flat ns)) := hr
  have HG3 : Hid (Row w3 g (ints ps)) := HG2.out.below hb
  have HR3 : Hid (Row w3 (w.heap.size + 1) [.slice none 0 0, .slice none 0 0]) := HA2.out.below hb
  have HO3 : Hid (Row w3 (w.heap.size + 1 + 1) [.slice (some ⟨g, 0, none⟩) ps.length ps.length, .slice none 0 0]) := HO2.out.below hb
  have HB3 : Hid (Below w.heap.size w w3) := below_then HB2.out hb
  clear hb hr HA2 HO2 HG2 HB2
  have o0 := HO3.out.cell 0 _ rfl
  have o1 := HO3.out.cell 1 _ rfl
  have fo1 := HO3.out.free 1
  have r0 := HR3.out.cell 0 _ rfl
  have r1 := HR3.out.cell 1 _ rfl
  have fr0 := HR3.out.free 0
  have fr1 := HR3.out.free 1
  have n1 : w.heap.size + 1 ≠ w.heap.size + 1 + 1 := by omega
  have n2 : w.heap.size + 1 + 1 ≠ w.heap.size + 1 := by omega
  go_wp2_with fail
  have G := ((HG3.out.apart (w.heap.size + 1 + 1) 1 (.slice (some ⟨h, 0, none⟩) ns.length ns.length) (by omega)).apart (w.heap.size + 1) 0 (.slice (some ⟨g, 0, none⟩) ps.length ps.length) (by omega)).apart (w.heap.size + 1) 1 (.slice (some ⟨h, 0, none⟩) ns.length ns.length) (by omega)
  have N := ((HN3.out.apart (w.heap.size + 1 + 1) 1 (.slice (some ⟨h, 0, none⟩) ns.length ns.length) (by omega)).apart (w.heap.size + 1) 0 (.slice (some ⟨g, 0, none⟩) ps.length ps.length) (by omega)).apart (w.heap.size + 1) 1 (.slice (some ⟨h, 0, none⟩) ns.length ns.length) (by omega)
  have B8 := HB3.out
  exact bodyPost_ret (v := .agg #[.slice (some ⟨g, 0, none⟩) ps.length ps.length, .slice (some ⟨h, 0, none⟩) ns.length ns.length]) (by simp [results, Try.results21, go_sem, *]) rfl ⟨g, h, rfl, by omega, hgh, G, N, by go_grown⟩
end Go.Proofs.Ytbnbikmnembciaa
