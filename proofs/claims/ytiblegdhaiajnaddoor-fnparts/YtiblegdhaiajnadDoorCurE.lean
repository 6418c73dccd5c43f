/- The cursor's beginning; two vectors; a text and a byte. -/
import Derived.Test.YtiblegdhaiajnadDoorCurD
namespace Go.Proofs.YtiblegdhaiajnadDoor
open Go.ChangeShapes Go.WideShapes Go.ChangeAt Go.RowKit

/-- The cursor over a code, new. -/
theorem l01New_c (a : Option Addr) (n cap : Nat) (w : World) (h : CodeIs w a n) :
    Calls Tryd.prog 17 #[.slice a n cap] w fun e w' => ∃ g : Nat, e = .returned (.pointer (some ⟨g, 0, none⟩)) ∧ w.heap.size ≤ g ∧ Below w.heap.size w w' ∧ Cur w' g a n cap := by
  have H : Hid (CodeIs w a n) := h
  have hsm := h.small
  clear h
  go_enter Tryd.func17, Tryd.ntmps17
  go_wp2_with fail
  go_loopw [3, 4] (fun hv i wr => ∃ (j : Nat) (x : Int), j ≤ n ∧ i = .int .i64 j ∧ hv = .int .i64 x ∧ 0 ≤ x ∧ x < 2147483648 ∧ Below w.heap.size w wr) (fun _ i _ => n - (intOf i).toNat)
  case atStart => exact ⟨0, 958001 + n, Nat.zero_le _, rfl, rfl, by omega, by omega, Below.refl _ _⟩
  case round =>
    obtain ⟨j, x, hj, rfl, rfl, hx0, hx1, hb⟩ := hrel
    have HB : Hid (Below w.heap.size w wr) := hb
    clear hb
    have HC : Hid (CodeIs wr a n) := H.out.below HB.out
    have fin : ∀ t : TypeId, Hid (wr.heap.size ≥ w.heap.size ∧ Below w.heap.size w (wr.alloc (.cells #[.slice a n cap, .int .i64 0, .int .i64 x] t)) ∧ Cur (wr.alloc (.cells #[.slice a n cap, .int .i64 0, .int .i64 x] t)) wr.heap.size a n cap) := fun t =>
      ⟨HB.out.size, HB.out.alloc HB.out.size _, 0, x, Nat.zero_le _, row_new wr [.slice a n cap, .int .i64 0, .int .i64 x] t, HC.out.below ((Below.refl _ _).alloc (Nat.le_refl _) _), fun p ha hn => by
        obtain ⟨p', _, ha', hp', _⟩ := HC.out.cell 0 hn
        rw [ha] at ha'
        cases ha'
        omega⟩
    by_cases h1 : j < n
    · have hi1 : (j : Int) < (n : Int) := by omega
      have hi0 : (0 : Int) ≤ (j : Int) := by omega
      by_cases h2 : j < 4000
      · have hi2 : (j : Int) < 4000 := by omega
        obtain ⟨p, c, rfl, hp, hc, hc0, hc1⟩ := HC.out.cell j h1
        have B1 := bits_and 1073741823 (by decide) (x * 151 + c + 7)
        go_wp2_with fail
        go_roundw
        case rel => exact ⟨j + 1, _, by omega, by go_num, rfl, B1.1, Int.lt_of_le_of_lt B1.2 (by decide), HB.out⟩
        case measure => simp [intOf]; omega
      · have hi2 : ¬ (j : Int) < 4000 := by omega
        have F := fin 56
        go_wp2_with fail
        go_ret
        exact ⟨_, rfl, F.out.1, F.out.2.1, F.out.2.2⟩
    · have hi1 : ¬ (j : Int) < (n : Int) := by omega
      have F := fin 56
      go_wp2_with fail
      go_ret
      exact ⟨_, rfl, F.out.1, F.out.2.1, F.out.2.2⟩

theorem below_grown {w W W' : World} {g : Nat} (h : Below w.heap.size w W) (hg : W.grownBy W' (some g)) (hge : w.heap.size ≤ g) : Below w.heap.size w W' := h.grown hg h.size (fun q hq => by cases hq; exact hge)

theorem far_ne {w w' : World} {g b : Nat} {xs : List Value} (h : Row w b xs) (hg : w.grownBy w' (some g)) (hne : b < g) : Row w' b xs := h.far hg (by intro e; have := Option.some.inj e; omega)

set_option maxHeartbeats 1000000 in
theorem drawVecAdd_c (a : Option Addr) (n cap : Nat) (w : World) (h : CodeIs w a n) :
    Calls Tryd.prog 5 #[.slice a n cap] w fun e w' => ∃ x y z x' y' z' : Int, e = .returned (.tuple #[.agg #[.int .i64 x, .int .i64 y, .int .i64 z], .agg #[.int .i64 x', .int .i64 y', .int .i64 z']]) ∧ Below w.heap.size w w' := by
  have H : Hid (CodeIs w a n) := h
  clear h
  go_enter Tryd.func5, Tryd.ntmps5
  go_wp2_with fail
  generalize hW : (w.alloc (.cells #[.int .i64 0, .int .i64 0, .int .i64 0] 24)).alloc (.cells #[.int .i64 0, .int .i64 0, .int .i64 0] 24) = w0
  have HB0 : Hid (Below w.heap.size w w0) := by subst hW; show Below _ _ _; go_grown
  have HP0 : Hid (Row w0 w.heap.size [.int .i64 0, .int .i64 0, .int .i64 0]) := by subst hW; exact (row_new w [.int .i64 0, .int .i64 0, .int .i64 0] 24).below ((Below.refl _ _).alloc (Nat.le_refl _) _)
  have HQ0 : Hid (Row w0 (w.heap.size + 1) [.int .i64 0, .int .i64 0, .int .i64 0]) := by
    subst hW
    have := row_new (w.alloc (.cells #[.int .i64 0, .int .i64 0, .int .i64 0] 24)) [.int .i64 0, .int .i64 0, .int .i64 0] 24
    rw [show (w.alloc (.cells #[.int .i64 0, .int .i64 0, .int .i64 0] 24)).heap.size = w.heap.size + 1 by simp [go_sem]] at this
    exact this
  clear hW
  refine (l01New_c a n cap _ (H.out.below HB0.out)).mono ?_
  rintro e w1 ⟨g, rfl, hg1, hb1, hc1⟩
  have HP1 : Hid (Row w1 w.heap.size [.int .i64 0, .int .i64 0, .int .i64 0]) := HP0.out.below hb1
  have HQ1 : Hid (Row w1 (w.heap.size + 1) [.int .i64 0, .int .i64 0, .int .i64 0]) := HQ0.out.below hb1
  have HB1 : Hid (Below w.heap.size w w1) := below_then HB0.out hb1
  have HC1 : Hid (Cur w1 g a n cap) := hc1
  have hgw : w.heap.size + 1 < g := by have := HQ0.out.lt; omega
  clear hb1 hc1 HP0 HQ0 HB0
  go_wp2_with fail
  refine (l01Any_c g a n cap _ HC1.out).mono ?_
  rintro e w2 ⟨x1, y1, z1, rfl, hg, hc⟩
  have HP2 : Hid (Row w2 w.heap.size [.int .i64 0, .int .i64 0, .int .i64 0]) := far_ne HP1.out hg (by omega)
  have HQ2 : Hid (Row w2 (w.heap.size + 1) [.int .i64 0, .int .i64 0, .int .i64 0]) := far_ne HQ1.out hg (by omega)
  have HB2 : Hid (Below w.heap.size w w2) := below_grown HB1.out hg (by omega)
  have HC2 : Hid (Cur w2 g a n cap) := hc
  clear hg hc HP1 HQ1 HB1 HC1
  go_wp2_with fail
  have HA3 : Hid (Row (w2.alloc (.cells #[.int .i64 x1, .int .i64 y1, .int .i64 z1] 24)) w2.heap.size [.int .i64 x1, .int .i64 y1, .int .i64 z1]) := row_new w2 [.int .i64 x1, .int .i64 y1, .int .i64 z1] 24
  have HX3 : Hid (Below w2.heap.size w2 (w2.alloc (.cells #[.int .i64 x1, .int .i64 y1, .int .i64 z1] 24))) := (Below.refl _ _).alloc (Nat.le_refl _) _
  have hqg : g < w2.heap.size := HC2.out.lt
  generalize w2.alloc (.cells #[.int .i64 x1, .int .i64 y1, .int .i64 z1] 24) = w3 at HA3 HX3
  have HP3 : Hid (Row w3 w.heap.size [.int .i64 0, .int .i64 0, .int .i64 0]) := HP2.out.below HX3.out
  have HQ3 : Hid (Row w3 (w.heap.size + 1) [.int .i64 0, .int .i64 0, .int .i64 0]) := HQ2.out.below HX3.out
  have HB3 : Hid (Below w.heap.size w w3) := below_then HB2.out HX3.out
  have HC3 : Hid (Cur w3 g a n cap) := HC2.out.below HX3.out
  generalize w2.heap.size = q at hqg HA3 HX3
  clear HX3 HP2 HQ2 HB2 HC2
  refine (l01Any_c g a n cap _ HC3.out).mono ?_
  rintro e w4 ⟨x2, y2, z2, rfl, hg, hc⟩
  have HP4 : Hid (Row w4 w.heap.size [.int .i64 0, .int .i64 0, .int .i64 0]) := far_ne HP3.out hg (by omega)
  have HQ4 : Hid (Row w4 (w.heap.size + 1) [.int .i64 0, .int .i64 0, .int .i64 0]) := far_ne HQ3.out hg (by omega)
  have HA4 : Hid (Row w4 q [.int .i64 x1, .int .i64 y1, .int .i64 z1]) := HA3.out.far hg (by intro e; have := Option.some.inj e; omega)
  have HB4 : Hid (Below w.heap.size w w4) := below_grown HB3.out hg (by omega)
  clear hg hc HP3 HQ3 HB3 HC3 HA3
  go_wp2_with fail
  have HE5 : Hid (Row (w4.alloc (.cells #[.int .i64 x2, .int .i64 y2, .int .i64 z2] 24)) w4.heap.size [.int .i64 x2, .int .i64 y2, .int .i64 z2]) := row_new w4 [.int .i64 x2, .int .i64 y2, .int .i64 z2] 24
  have HX5 : Hid (Below w4.heap.size w4 (w4.alloc (.cells #[.int .i64 x2, .int .i64 y2, .int .i64 z2] 24))) := (Below.refl _ _).alloc (Nat.le_refl _) _
  have l2 : w.heap.size + 1 < w4.heap.size := HQ4.out.lt
  generalize w4.alloc (.cells #[.int .i64 x2, .int .i64 y2, .int .i64 z2] 24) = w5 at HE5 HX5
  have HP5 : Hid (Row w5 w.heap.size [.int .i64 0, .int .i64 0, .int .i64 0]) := HP4.out.below HX5.out
  have HQ5 : Hid (Row w5 (w.heap.size + 1) [.int .i64 0, .int .i64 0, .int .i64 0]) := HQ4.out.below HX5.out
  have HA5 : Hid (Row w5 q [.int .i64 x1, .int .i64 y1, .int .i64 z1]) := HA4.out.below HX5.out
  have HB5 : Hid (Below w.heap.size w w5) := below_then HB4.out HX5.out
  generalize w4.heap.size = r at l2 HE5 HX5
  clear HX5 HP4 HQ4 HA4 HB4
  have p0 := HP5.out.cell 0 _ rfl
  have p1 := HP5.out.cell 1 _ rfl
  have p2 := HP5.out.cell 2 _ rfl
  have s0 := HQ5.out.cell 0 _ rfl
  have s1 := HQ5.out.cell 1 _ rfl
  have s2 := HQ5.out.cell 2 _ rfl
  have q0 := HA5.out.cell 0 _ rfl
  have q1 := HA5.out.cell 1 _ rfl
  have q2 := HA5.out.cell 2 _ rfl
  have r0 := HE5.out.cell 0 _ rfl
  have r1 := HE5.out.cell 1 _ rfl
  have r2 := HE5.out.cell 2 _ rfl
  have fp0 := HP5.out.free 0
  have fp1 := HP5.out.free 1
  have fp2 := HP5.out.free 2
  have fs0 := HQ5.out.free 0
  have fs1 := HQ5.out.free 1
  have fs2 := HQ5.out.free 2
  have n1 : w.heap.size ≠ q := by omega
  have n2 : w.heap.size + 1 ≠ q := by omega
  have n3 : q ≠ w.heap.size := by omega
  have n4 : q ≠ w.heap.size + 1 := by omega
  have n5 : w.heap.size ≠ r := by omega
  have n6 : w.heap.size + 1 ≠ r := by omega
  have n7 : r ≠ w.heap.size := by omega
  have n8 : r ≠ w.heap.size + 1 := by omega
  clear hgw hqg l2
  go_region
  have BB : Hid (Below w.heap.size w ((((((w5.setCell ⟨w.heap.size, 0, none⟩ (.int .i64 x1)).setCell ⟨w.heap.size, 1, none⟩ (.int .i64 y1)).setCell ⟨w.heap.size, 2, none⟩ (.int .i64 z1)).setCell ⟨w.heap.size + 1, 0, none⟩ (.int .i64 x2)).setCell ⟨w.heap.size + 1, 1, none⟩ (.int .i64 y2)).setCell ⟨w.heap.size + 1, 2, none⟩ (.int .i64 z2)).drew) := by
    have B8 := HB5.out
    show Below _ _ _
    go_grown
  go_wp2
  exact bodyPost_ret (v := .tuple #[.agg #[.int .i64 x1, .int .i64 y1, .int .i64 z1], .agg #[.int .i64 x2, .int .i64 y2, .int .i64 z2]]) (by simp [results, Tryd.results5, go_sem, p0, p1, p2, s0, s1, s2]) rfl ⟨_, _, _, _, _, _, rfl, BB.out⟩
end Go.Proofs.YtiblegdhaiajnadDoor
