/- Topologies marked. -/
import Derived.Test.YtbnbikmnembciaaTopD
namespace Go.Proofs.Ytbnbikmnembciaa
open Go.ChangeShapes Go.WideShapes Go.ChangeAt Go.RowKit

set_option maxHeartbeats 1000000 in
theorem markNodeS_c (g cap n k0 : Nat) (xs : List Value) (hx : xs.length = 4 * n) (hl : n ≤ 1048576) (hk : k0 ≤ 4294967296) (w : World) (h : Row w g xs) :
    Calls Try.prog 57 #[.slice (some ⟨g, 0, none⟩) n cap, .int .i64 (k0 : Int)] w fun e w' => e = .returned (.int .i64 ((k0 + 4 * n : Nat) : Int)) ∧ w.grownBy w' (some g) := by
  have H : Hid (Row w g xs) := h
  clear h
  go_enter Try.func57, Try.ntmps57
  go_wp2_with fail
  go_loopw [1, 5] (fun k i wr => ∃ (j : Nat) (ys : List Value), j ≤ n ∧ i = .int .i64 j ∧ k = .int .i64 ((k0 + 4 * j : Nat) : Int) ∧ ys.length = 4 * n ∧ w.grownBy wr (some g) ∧ Row wr g ys) (fun _ i _ => n - (intOf i).toNat)
  case atStart => exact ⟨0, xs, Nat.zero_le _, rfl, rfl, hx, ⟨rfl, rfl, rfl, Nat.le_refl _, fun _ _ _ => rfl⟩, H.out⟩
  case round =>
    obtain ⟨j, ys, hj, rfl, rfl, hy, hg, hr⟩ := hrel
    have HG : Hid (w.grownBy wr (some g)) := hg
    have HR : Hid (Row wr g ys) := hr
    clear hg hr
    by_cases hlt : j < n
    · have hi1 : (j : Int) < (n : Int) := by omega
      have hi0 : (0 : Int) ≤ (j : Int) := by omega
      have d0 := HR.out.cell (j * 4) _ (List.getElem?_eq_getElem (by omega))
      have d1 := HR.out.cell (j * 4 + 1) _ (List.getElem?_eq_getElem (by omega))
      have d2 := HR.out.cell (j * 4 + 2) _ (List.getElem?_eq_getElem (by omega))
      have d3 := HR.out.cell (j * 4 + 3) _ (List.getElem?_eq_getElem (by omega))
      have f0 := HR.out.free (j * 4)
      have f1 := HR.out.free (j * 4 + 1)
      have f2 := HR.out.free (j * 4 + 2)
      have f3 := HR.out.free (j * 4 + 3)
      generalize ys[j * 4] = y0 at d0
      generalize ys[j * 4 + 1] = y1 at d1
      generalize ys[j * 4 + 2] = y2 at d2
      generalize ys[j * 4 + 3] = y3 at d3
      go_wp2_with fail
      refine ⟨⟨j + 1, (((ys.set (j * 4) _).set (j * 4 + 1) _).set (j * 4 + 1 + 1) _).set (j * 4 + 1 + 2) _, by omega, by go_num, ?_, ?_, Lib.grownBy_setB (Lib.grownBy_setB (Lib.grownBy_setB (Lib.grownBy_setB HG.out _ _) _ _) _ _) _ _, (((HR.out.set _ ?_ _).set _ ?_ _).set _ ?_ _).set _ ?_ _⟩, by simp [intOf]; omega⟩
      · rw [show ((k0 : Int) + 4 * (j : Int) + 1 + 1 + 1 + 1) = ((k0 + 4 * (j + 1) : Nat) : Int) by omega]
      · simpa using hy
      · omega
      · simp; omega
      · simp; omega
      · simp; omega
    · obtain rfl : j = n := by omega
      go_wp2_with fail
      go_ret
      exact ⟨rfl, HG.out⟩

set_option maxHeartbeats 1000000 in
theorem markTopo_c (g h c d k0 : Nat) (ps : List Value) (ns : List Value) (n : Nat) (hp : ps.length ≤ 1048576) (hx : ns.length = 4 * n) (hl : n ≤ 1048576) (hk : k0 ≤ 1048576) (hgh : g ≠ h) (w : World) (h1 : Row w g ps) (h2 : Row w h ns) :
    Calls Try.prog 33 #[.agg #[.slice (some ⟨g, 0, none⟩) ps.length c, .slice (some ⟨h, 0, none⟩) n d], .int .i64 (k0 : Int)] w fun e w' => e = .returned (.int .i64 ((k0 + ps.length + 4 * n : Nat) : Int)) ∧
      (∀ b xs, Row w b xs → b ≠ g → b ≠ h → Row w' b xs) ∧ (∀ w0 : World, Below w0.heap.size w0 w → w0.heap.size ≤ g → w0.heap.size ≤ h → Below w0.heap.size w0 w') := by
  have H1 : Hid (Row w g ps) := h1
  have H2 : Hid (Row w h ns) := h2
  clear h1 h2
  go_enter Try.func33, Try.ntmps33
  go_wp2_with fail
  generalize hV : w.alloc (.cells #[.slice (some ⟨g, 0, none⟩) ps.length c, .slice (some ⟨h, 0, none⟩) n d] 39) = V
  have HA : Hid (Row V w.heap.size [.slice (some ⟨g, 0, none⟩) ps.length c, .slice (some ⟨h, 0, none⟩) n d]) := by subst hV; exact row_fresh w [.slice (some ⟨g, 0, none⟩) ps.length c, .slice (some ⟨h, 0, none⟩) n d] 39
  have HV : Hid (Below w.heap.size w V) := by subst hV; exact low_alloc _ _
  clear hV
  have l1 := H1.out.lt
  have l2 := H2.out.lt
  refine (markIntS_c g c k0 ps (by omega) (by omega) _ (H1.out.below HV.out)).mono ?_
  rintro e w1 ⟨rfl, hg1, _⟩
  have HG1 : Hid (V.grownBy w1 (some g)) := hg1
  have t1 := (HA.out.far hg1 (by intro e; have := Option.some.inj e; omega)).cell 1 _ rfl
  clear hg1
  go_wp2_with fail
  refine (markNodeS_c h d n (k0 + ps.length) ns hx hl (by omega) _ ((H2.out.below HV.out).far HG1.out (by intro e; have := Option.some.inj e; omega))).mono ?_
  rintro e w2 ⟨rfl, hg2⟩
  have HG2 : Hid (w1.grownBy w2 (some h)) := hg2
  clear hg2 t1
  go_wp2_with fail
  go_ret
  refine ⟨rfl, fun b xs hb hbg hbh => ((hb.below HV.out).far HG1.out (by intro e; exact hbg (Option.some.inj e))).far HG2.out (by intro e; exact hbh (Option.some.inj e)), fun w0 hb0 hg0 hh0 => ?_⟩
  have b1 : Below w0.heap.size w0 w1 := (below_then hb0 HV.out).grown HG1.out (below_then hb0 HV.out).size (fun q hq => by cases hq; exact hg0)
  exact b1.grown HG2.out b1.size (fun q hq => by cases hq; exact hh0)
end Go.Proofs.Ytbnbikmnembciaa
