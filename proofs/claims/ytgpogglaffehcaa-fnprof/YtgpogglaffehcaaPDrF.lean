/- The draw of the law on what is taken. -/
import Derived.Test.YtgpogglaffehcaaPDrE
import Derived.Deep.DeepCutAuto
import Derived.Deep.RegionWith
namespace Go.Proofs.Ytgpogglaffehcaa
open Go.ChangeShapes Go.WideShapes Go.ChangeAt Go.RowKit

set_option maxHeartbeats 2000000 in
theorem drawProfTake_c (a : Option Addr) (n cap : Nat) (w : World) (h : CodeIs w a n) :
    Calls Try.prog 12 #[.slice a n cap] w fun e w' => ∃ (q : Option Addr) (c : Nat) (ns : List Nd) (f t x y z : Int), e = .returned (.tuple #[.agg #[.slice q ns.length c], .int .i64 f, .int .i64 t, .agg #[.int .i64 x, .int .i64 y, .int .i64 z]]) ∧ ns.length ≤ 201 ∧ ns.length ≤ c ∧ Sq w' q (flat ns) ∧ Below w.heap.size w w' := by
  have H : Hid (CodeIs w a n) := h
  clear h
  go_enter Try.func12, Try.ntmps12
  go_wp2_with fail
  generalize hW : (w.alloc (.cells #[.slice none 0 0] 25)).alloc (.cells #[.int .i64 0, .int .i64 0, .int .i64 0] 27) = w0
  have HB0 : Hid (Below w.heap.size w w0) := by subst hW; exact behind_alloc (low_alloc _ _) _
  have HR0 : Hid (Row w0 w.heap.size [.slice none 0 0]) := by subst hW; exact (row_fresh w [.slice none 0 0] 25).below (low_alloc _ _)
  have HZ0 : Hid (Row w0 (w.heap.size + 1) [.int .i64 0, .int .i64 0, .int .i64 0]) := by
    subst hW
    have h := row_fresh (w.alloc (.cells #[.slice none 0 0] 25)) [.int .i64 0, .int .i64 0, .int .i64 0] 27
    rw [show (w.alloc (.cells #[.slice none 0 0] 25)).heap.size = w.heap.size + 1 by simp [go_sem]] at h
    exact h
  clear hW
  refine (l01New_c a n cap _ (H.out.below HB0.out)).mono ?_
  rintro e w1 ⟨g, rfl, hg1, hb1, hc1⟩
  have HR1 : Hid (Row w1 w.heap.size [.slice none 0 0]) := HR0.out.below hb1
  have HZ1 : Hid (Row w1 (w.heap.size + 1) [.int .i64 0, .int .i64 0, .int .i64 0]) := HZ0.out.below hb1
  have HB1 : Hid (Below w.heap.size w w1) := below_then HB0.out hb1
  have HC1 : Hid (Cur w1 g a n cap) := hc1
  have hgw : w.heap.size + 1 < g := by have := HZ0.out.lt; omega
  have hgl : g < w1.heap.size := hc1.lt
  clear hb1 hc1 HR0 HZ0 HB0
  go_wp2_with fail
  refine (l03Any_c g a n cap _ HC1.out).mono ?_
  rintro e w2 ⟨q, c, ns, rfl, hns, hnc, ho, hc, hg⟩
  have HO2 : Hid (w2.ownsRow w1.heap.size 47 4 (.slice q ns.length c) ns.length (flat ns)) := ho
  have HR2 : Hid (Row w2 w.heap.size [.slice none 0 0]) := far_ne HR1.out hg (by omega)
  have HZ2 : Hid (Row w2 (w.heap.size + 1) [.int .i64 0, .int .i64 0, .int .i64 0]) := far_ne HZ1.out hg (by omega)
  have HB2 : Hid (Below w.heap.size w w2) := below_grown HB1.out hg (by omega)
  have HC2 : Hid (Cur w2 g a n cap) := hc
  have hw12 := hg.size
  clear ho hc hg HR1 HZ1 HB1 HC1
  go_wp2_with fail
  have HO3 : Hid ((w2.alloc (.cells #[.slice q ns.length c] 25)).ownsRow w1.heap.size 47 4 (.slice q ns.length c) ns.length (flat ns)) := owns_below HO2.out (low_alloc _ _)
  have HR3 : Hid (Row (w2.alloc (.cells #[.slice q ns.length c] 25)) w.heap.size [.slice none 0 0]) := HR2.out.below (low_alloc _ _)
  have HZ3 : Hid (Row (w2.alloc (.cells #[.slice q ns.length c] 25)) (w.heap.size + 1) [.int .i64 0, .int .i64 0, .int .i64 0]) := HZ2.out.below (low_alloc _ _)
  have HB3 : Hid (Below w.heap.size w (w2.alloc (.cells #[.slice q ns.length c] 25))) := behind_alloc HB2.out _
  have HC3 : Hid (Cur (w2.alloc (.cells #[.slice q ns.length c] 25)) g a n cap) := HC2.out.below (low_alloc _ _)
  have HP3 : Hid (Row (w2.alloc (.cells #[.slice q ns.length c] 25)) w2.heap.size [.slice q ns.length c]) := row_fresh w2 [.slice q ns.length c] 25
  generalize w2.alloc (.cells #[.slice q ns.length c] 25) = w3 at *
  have hP3 := HP3.out.lt
  have hgP : g < w2.heap.size := by omega
  generalize w2.heap.size = P at *
  clear HO2 HR2 HZ2 HB2 HC2
  refine (l03Span_c g a n cap _ HC3.out).mono ?_
  rintro e w4 ⟨f, t, rfl, hg, hc⟩
  have HO4 : Hid (w4.ownsRow w1.heap.size 47 4 (.slice q ns.length c) ns.length (flat ns)) := owns_drawn HO3.out hg hgl
  have HR4 : Hid (Row w4 w.heap.size [.slice none 0 0]) := far_ne HR3.out hg (by omega)
  have HZ4 : Hid (Row w4 (w.heap.size + 1) [.int .i64 0, .int .i64 0, .int .i64 0]) := far_ne HZ3.out hg (by omega)
  have HB4 : Hid (Below w.heap.size w w4) := below_grown HB3.out hg (by omega)
  have HP4 : Hid (Row w4 P [.slice q ns.length c]) := HP3.out.far hg (fun e => by have := Option.some.inj e; omega)
  have HC4 : Hid (Cur w4 g a n cap) := hc
  clear hg hc HO3 HR3 HZ3 HB3 HP3 HC3
  go_wp2_with fail
  refine (l01Below_c g a n cap 5 (by decide) (by decide) _ HC4.out).mono ?_
  rintro e w5 ⟨y1, rfl, _, _, hg, hc⟩
  have HO5 : Hid (w5.ownsRow w1.heap.size 47 4 (.slice q ns.length c) ns.length (flat ns)) := owns_drawn HO4.out hg hgl
  have HR5 : Hid (Row w5 w.heap.size [.slice none 0 0]) := far_ne HR4.out hg (by omega)
  have HZ5 : Hid (Row w5 (w.heap.size + 1) [.int .i64 0, .int .i64 0, .int .i64 0]) := far_ne HZ4.out hg (by omega)
  have HB5 : Hid (Below w.heap.size w w5) := below_grown HB4.out hg (by omega)
  have HP5 : Hid (Row w5 P [.slice q ns.length c]) := HP4.out.far hg (fun e => by have := Option.some.inj e; omega)
  have HC5 : Hid (Cur w5 g a n cap) := hc
  clear hg hc HO4 HR4 HZ4 HB4 HP4 HC4
  go_wp2_with fail
  refine (l01Below_c g a n cap 9 (by decide) (by decide) _ HC5.out).mono ?_
  rintro e w6 ⟨y2, rfl, _, _, hg, hc⟩
  have HO6 : Hid (w6.ownsRow w1.heap.size 47 4 (.slice q ns.length c) ns.length (flat ns)) := owns_drawn HO5.out hg hgl
  have HR6 : Hid (Row w6 w.heap.size [.slice none 0 0]) := far_ne HR5.out hg (by omega)
  have HZ6 : Hid (Row w6 (w.heap.size + 1) [.int .i64 0, .int .i64 0, .int .i64 0]) := far_ne HZ5.out hg (by omega)
  have HB6 : Hid (Below w.heap.size w w6) := below_grown HB5.out hg (by omega)
  have HP6 : Hid (Row w6 P [.slice q ns.length c]) := HP5.out.far hg (fun e => by have := Option.some.inj e; omega)
  have HC6 : Hid (Cur w6 g a n cap) := hc
  clear hg hc HO5 HR5 HZ5 HB5 HP5 HC5
  go_wp2_with fail
  refine (l01Below_c g a n cap 2 (by decide) (by decide) _ HC6.out).mono ?_
  rintro e w7 ⟨y3, rfl, _, _, hg, hc⟩
  have HO7 : Hid (w7.ownsRow w1.heap.size 47 4 (.slice q ns.length c) ns.length (flat ns)) := owns_drawn HO6.out hg hgl
  have HR7 : Hid (Row w7 w.heap.size [.slice none 0 0]) := far_ne HR6.out hg (by omega)
  have HZ7 : Hid (Row w7 (w.heap.size + 1) [.int .i64 0, .int .i64 0, .int .i64 0]) := far_ne HZ6.out hg (by omega)
  have HB7 : Hid (Below w.heap.size w w7) := below_grown HB6.out hg (by omega)
  have HP7 : Hid (Row w7 P [.slice q ns.length c]) := HP6.out.far hg (fun e => by have := Option.some.inj e; omega)
  have HC7 : Hid (Cur w7 g a n cap) := hc
  clear hg hc HO6 HR6 HZ6 HB6 HP6 HC6
  go_wp2_with fail
  have HO8 : Hid ((w7.alloc (.cells #[.int .i64 y1, .int .i64 y2, .int .i64 y3] 27)).ownsRow w1.heap.size 47 4 (.slice q ns.length c) ns.length (flat ns)) := owns_below HO7.out (low_alloc _ _)
  have HR8 : Hid (Row (w7.alloc (.cells #[.int .i64 y1, .int .i64 y2, .int .i64 y3] 27)) w.heap.size [.slice none 0 0]) := HR7.out.below (low_alloc _ _)
  have HZ8 : Hid (Row (w7.alloc (.cells #[.int .i64 y1, .int .i64 y2, .int .i64 y3] 27)) (w.heap.size + 1) [.int .i64 0, .int .i64 0, .int .i64 0]) := HZ7.out.below (low_alloc _ _)
  have HB8 : Hid (Below w.heap.size w (w7.alloc (.cells #[.int .i64 y1, .int .i64 y2, .int .i64 y3] 27))) := behind_alloc HB7.out _
  have HP8 : Hid (Row (w7.alloc (.cells #[.int .i64 y1, .int .i64 y2, .int .i64 y3] 27)) P [.slice q ns.length c]) := HP7.out.below (low_alloc _ _)
  have HC8 : Hid (Cur (w7.alloc (.cells #[.int .i64 y1, .int .i64 y2, .int .i64 y3] 27)) g a n cap) := HC7.out.below (low_alloc _ _)
  have HV8 : Hid (Row (w7.alloc (.cells #[.int .i64 y1, .int .i64 y2, .int .i64 y3] 27)) w7.heap.size [.int .i64 y1, .int .i64 y2, .int .i64 y3]) := row_fresh w7 [.int .i64 y1, .int .i64 y2, .int .i64 y3] 27
  have hP7 := HP7.out.lt
  have hgV : g < w7.heap.size := by omega
  generalize (w7.alloc (.cells #[.int .i64 y1, .int .i64 y2, .int .i64 y3] 27)) = w8 at *
  have hvb : (Value.slice q ns.length c).ownBlock ≠ some w7.heap.size := fun e => by have := (HO7.out.lt _ e).2; omega
  generalize w7.heap.size = Vb at *
  clear HO7 HR7 HZ7 HB7 HP7 HC7
  refine (l01Below_c g a n cap 12 (by decide) (by decide) _ HC8.out).mono ?_
  rintro e w9 ⟨k, rfl, hk0, hk1, hg, hc⟩
  have HO9 : Hid (w9.ownsRow w1.heap.size 47 4 (.slice q ns.length c) ns.length (flat ns)) := owns_drawn HO8.out hg hgl
  have HR9 : Hid (Row w9 w.heap.size [.slice none 0 0]) := far_ne HR8.out hg (by omega)
  have HZ9 : Hid (Row w9 (w.heap.size + 1) [.int .i64 0, .int .i64 0, .int .i64 0]) := far_ne HZ8.out hg (by omega)
  have HB9 : Hid (Below w.heap.size w w9) := below_grown HB8.out hg (by omega)
  have HP9 : Hid (Row w9 P [.slice q ns.length c]) := HP8.out.far hg (fun e => by have := Option.some.inj e; omega)
  have HC9 : Hid (Cur w9 g a n cap) := hc
  have HV9 : Hid (Row w9 Vb [.int .i64 y1, .int .i64 y2, .int .i64 y3]) := HV8.out.far hg (fun e => by have := Option.some.inj e; omega)
  clear hg hc HO8 HR8 HZ8 HB8 HP8 HC8 HV8
  have hne1 : P ≠ w.heap.size := by omega
  have hne2 : P ≠ w.heap.size + 1 := by omega
  have hne3 : Vb ≠ w.heap.size := by omega
  have hne4 : Vb ≠ w.heap.size + 1 := by omega
  have hne5 : Vb ≠ P := by omega
  have hne6 : w.heap.size + 1 ≠ w.heap.size := by omega
  by_cases hk : k = 0
  · subst hk
    clear hk0 hk1
    go_wp2_with fail
    refine (l01Any_c g a n cap _ HC9.out).mono ?_
    rintro e wa ⟨x1, x2, x3, rfl, hg, hc⟩
    have HOa : Hid (wa.ownsRow w1.heap.size 47 4 (.slice q ns.length c) ns.length (flat ns)) := owns_drawn HO9.out hg hgl
    have HRa : Hid (Row wa w.heap.size [.slice none 0 0]) := far_ne HR9.out hg (by omega)
    have HZa : Hid (Row wa (w.heap.size + 1) [.int .i64 0, .int .i64 0, .int .i64 0]) := far_ne HZ9.out hg (by omega)
    have HBa : Hid (Below w.heap.size w wa) := below_grown HB9.out hg (by omega)
    have HPa : Hid (Row wa P [.slice q ns.length c]) := HP9.out.far hg (fun e => by have := Option.some.inj e; omega)
    have HCa : Hid (Cur wa g a n cap) := hc
    have HVa : Hid (Row wa Vb [.int .i64 y1, .int .i64 y2, .int .i64 y3]) := HV9.out.far hg (fun e => by have := Option.some.inj e; omega)
    clear hg hc HO9 HR9 HZ9 HB9 HP9 HC9 HV9
    have vf0 := HVa.out.free 0
    have vf1 := HVa.out.free 1
    have vf2 := HVa.out.free 2
    have p0 := HPa.out.cell 0 _ rfl
    have r0 := HRa.out.cell 0 _ rfl
    have rf := HRa.out.free 0
    have z0 := HZa.out.cell 0 _ rfl
    have z1 := HZa.out.cell 1 _ rfl
    have z2 := HZa.out.cell 2 _ rfl
    have zf0 := HZa.out.free 0
    have zf1 := HZa.out.free 1
    have zf2 := HZa.out.free 2
    have v0 := HVa.out.cell 0 _ rfl
    have v1 := HVa.out.cell 1 _ rfl
    have v2 := HVa.out.cell 2 _ rfl
    have hvO : ∀ F, F = Vb ∨ F ≤ w.heap.size + 1 → (Value.slice q ns.length c).ownBlock ≠ some F := fun F hF e => by
      have h1 := (HOa.out.lt _ e).1
      rcases hF with rfl | hF
      · exact hvb e
      · omega
    have HOf : Hid ((((((((wa.setCell ⟨Vb, 0, none⟩ (.int .i64 x1)).setCell ⟨Vb, 1, none⟩ (.int .i64 x2)).setCell ⟨Vb, 2, none⟩ (.int .i64 x3)).setCell ⟨w.heap.size, 0, none⟩ (.slice q ns.length c)).setCell ⟨w.heap.size + 1, 0, none⟩ (.int .i64 x1)).setCell ⟨w.heap.size + 1, 1, none⟩ (.int .i64 x2)).setCell ⟨w.heap.size + 1, 2, none⟩ (.int .i64 x3)).ownsRow w1.heap.size 47 4 (.slice q ns.length c) ns.length (flat ns)) := ((((((HOa.out.kept (Lib.grownBy_setCell _ _ _ _) (.inr (hvO _ (.inl rfl)))).kept (Lib.grownBy_setCell _ _ _ _) (.inr (hvO _ (.inl rfl)))).kept (Lib.grownBy_setCell _ _ _ _) (.inr (hvO _ (.inl rfl)))).kept (Lib.grownBy_setCell _ _ _ _) (.inr (hvO _ (.inr (by omega))))).kept (Lib.grownBy_setCell _ _ _ _) (.inr (hvO _ (.inr (by omega))))).kept (Lib.grownBy_setCell _ _ _ _) (.inr (hvO _ (.inr (by omega))))).kept (Lib.grownBy_setCell _ _ _ _) (.inr (hvO _ (.inr (by omega))))
    have HBf : Hid (Below w.heap.size w (((((((wa.setCell ⟨Vb, 0, none⟩ (.int .i64 x1)).setCell ⟨Vb, 1, none⟩ (.int .i64 x2)).setCell ⟨Vb, 2, none⟩ (.int .i64 x3)).setCell ⟨w.heap.size, 0, none⟩ (.slice q ns.length c)).setCell ⟨w.heap.size + 1, 0, none⟩ (.int .i64 x1)).setCell ⟨w.heap.size + 1, 1, none⟩ (.int .i64 x2)).setCell ⟨w.heap.size + 1, 2, none⟩ (.int .i64 x3))) := ((((((HBa.out.setCell (p := ⟨Vb, 0, none⟩) (by show w.heap.size ≤ Vb; omega) _).setCell (p := ⟨Vb, 1, none⟩) (by show w.heap.size ≤ Vb; omega) _).setCell (p := ⟨Vb, 2, none⟩) (by show w.heap.size ≤ Vb; omega) _).setCell (p := ⟨w.heap.size, 0, none⟩) (Nat.le_refl _) _).setCell (p := ⟨w.heap.size + 1, 0, none⟩) (by show w.heap.size ≤ w.heap.size + 1; omega) _).setCell (p := ⟨w.heap.size + 1, 1, none⟩) (by show w.heap.size ≤ w.heap.size + 1; omega) _).setCell (p := ⟨w.heap.size + 1, 2, none⟩) (by show w.heap.size ≤ w.heap.size + 1; omega) _
    go_wp2_with fail
    go_region
    go_wp2_with fail
    exact bodyPost_ret (v := .tuple #[.agg #[.slice q ns.length c], .int .i64 f, .int .i64 t, .agg #[.int .i64 x1, .int .i64 x2, .int .i64 x3]]) (by simp [results, Try.results12, go_sem, *]) rfl ⟨q, c, ns, f, t, x1, x2, x3, rfl, hns, hnc, (owns_cap (owns_below HOf.out (low_drew _))).2, below_then HBf.out (low_drew _)⟩
  · have e0 : (k == 0) = false := by simpa using hk
    have p0 := HP9.out.cell 0 _ rfl
    have r0 := HR9.out.cell 0 _ rfl
    have rf := HR9.out.free 0
    have z0 := HZ9.out.cell 0 _ rfl
    have z1 := HZ9.out.cell 1 _ rfl
    have z2 := HZ9.out.cell 2 _ rfl
    have zf0 := HZ9.out.free 0
    have zf1 := HZ9.out.free 1
    have zf2 := HZ9.out.free 2
    have v0 := HV9.out.cell 0 _ rfl
    have v1 := HV9.out.cell 1 _ rfl
    have v2 := HV9.out.cell 2 _ rfl
    have hvO : ∀ F, F ≤ w.heap.size + 1 → (Value.slice q ns.length c).ownBlock ≠ some F := fun F hF e => by have h1 := (HO9.out.lt _ e).1; omega
    have HOf : Hid (((((w9.setCell ⟨w.heap.size, 0, none⟩ (.slice q ns.length c)).setCell ⟨w.heap.size + 1, 0, none⟩ (.int .i64 y1)).setCell ⟨w.heap.size + 1, 1, none⟩ (.int .i64 y2)).setCell ⟨w.heap.size + 1, 2, none⟩ (.int .i64 y3)).ownsRow w1.heap.size 47 4 (.slice q ns.length c) ns.length (flat ns)) := (((HO9.out.kept (Lib.grownBy_setCell _ _ _ _) (.inr (hvO _ (by omega)))).kept (Lib.grownBy_setCell _ _ _ _) (.inr (hvO _ (by omega)))).kept (Lib.grownBy_setCell _ _ _ _) (.inr (hvO _ (by omega)))).kept (Lib.grownBy_setCell _ _ _ _) (.inr (hvO _ (by omega)))
    have HBf : Hid (Below w.heap.size w ((((w9.setCell ⟨w.heap.size, 0, none⟩ (.slice q ns.length c)).setCell ⟨w.heap.size + 1, 0, none⟩ (.int .i64 y1)).setCell ⟨w.heap.size + 1, 1, none⟩ (.int .i64 y2)).setCell ⟨w.heap.size + 1, 2, none⟩ (.int .i64 y3))) := (((HB9.out.setCell (p := ⟨w.heap.size, 0, none⟩) (Nat.le_refl _) _).setCell (p := ⟨w.heap.size + 1, 0, none⟩) (by show w.heap.size ≤ w.heap.size + 1; omega) _).setCell (p := ⟨w.heap.size + 1, 1, none⟩) (by show w.heap.size ≤ w.heap.size + 1; omega) _).setCell (p := ⟨w.heap.size + 1, 2, none⟩) (by show w.heap.size ≤ w.heap.size + 1; omega) _
    go_wp2_with fail
    go_region
    go_wp2_with fail
    exact bodyPost_ret (v := .tuple #[.agg #[.slice q ns.length c], .int .i64 f, .int .i64 t, .agg #[.int .i64 y1, .int .i64 y2, .int .i64 y3]]) (by simp [results, Try.results12, go_sem, *]) rfl ⟨q, c, ns, f, t, y1, y2, y3, rfl, hns, hnc, (owns_cap (owns_below HOf.out (low_drew _))).2, below_then HBf.out (low_drew _)⟩
end Go.Proofs.Ytgpogglaffehcaa
