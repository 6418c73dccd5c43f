/- FnProf: for every code the law returns true: what is taken is free no more from then to there, untouched elsewhere, and can be given back; no condition. -/
import Derived.Test.YtdmgcbagijiohaaMgC
import Derived.Deep.DeepCutAuto
import Derived.Deep.RegionWith
import Derived.Test.YtdmgcbagijiohaaTkI
import Derived.Test.YtdmgcbagijiohaaPSame
import Derived.Test.YtdmgcbagijiohaaPAtC
import Derived.Test.YtdmgcbagijiohaaMgA
import Derived.ProofKit
import Derived.OpenShut
namespace Go.Proofs.Ytdmgcbagijiohaa
open Go.ChangeShapes Go.WideShapes Go.ChangeAt Go.RowKit

set_option maxHeartbeats 2000000 in
theorem drawProfTake_c (a : Option Addr) (n cap : Nat) (w : World) (h : CodeIs w a n) :
    Calls Try.prog 7 #[.slice a n cap] w fun e w' => ∃ (q : Option Addr) (c : Nat) (ns : List Nd) (f t x y z : Int), e = .returned (.tuple #[.agg #[.slice q ns.length c], .int .i64 f, .int .i64 t, .agg #[.int .i64 x, .int .i64 y, .int .i64 z]]) ∧ ns.length ≤ 201 ∧ ns.length ≤ c ∧ Sq w' q (flat ns) ∧ Below w.heap.size w w' := by
  have H : Hid (CodeIs w a n) := h
  clear h
  go_enter Try.func7, Try.ntmps7
  go_wp2_with fail
  generalize hW : (w.alloc (.cells #[.slice none 0 0] 25)).alloc (.cells #[.int .i64 0, .int .i64 0, .int .i64 0] 27) = w0
  have HB0 : Hid (Below w.heap.size w w0) := by subst hW; exact behind_alloc (low_alloc _ _) _
  have HR0 : Hid (Row w0 w.heap.size [.slice none 0 0]) := by subst hW; exact (row_fresh w [.slice none 0 0] 25).below (low_alloc _ _)
  have HZ0 : Hid (Row w0 (w.heap.size + 1) [.int .i64 0, .int .i64 0, .int .i64 0]) := by
    subst hW
    have h := row_fresh (w.alloc (.cells #[.slice none 0 0] 25)) [.int .i64 0, .int .i64 0, .int .i64 0] 27
    rw [show (w.alloc (.cells #[.slice none 0 0] 25)).heap.size = w.heap.size + 1 by simp [go_sem]] at h
    exact h
  clear hW
  refine (l01New_c a n cap _ (H.out.below HB0.out)).mono ?_
  rintro e w1 ⟨g, rfl, hg1, hb1, hc1⟩
  have HR1 : Hid (Row w1 w.heap.size [.slice none 0 0]) := HR0.out.below hb1
  have HZ1 : Hid (Row w1 (w.heap.size + 1) [.int .i64 0, .int .i64 0, .int .i64 0]) := HZ0.out.below hb1
  have HB1 : Hid (Below w.heap.size w w1) := below_then HB0.out hb1
  have HC1 : Hid (Cur w1 g a n cap) := hc1
  have hgw : w.heap.size + 1 < g := by have := HZ0.out.lt; omega
  have hgl : g < w1.heap.size := hc1.lt
  clear hb1 hc1 HR0 HZ0 HB0
  go_wp2_with fail
  refine (l03Any_c g a n cap _ HC1.out).mono ?_
  rintro e w2 ⟨q, c, ns, rfl, hns, hnc, ho, hc, hg⟩
  have HO2 : Hid (w2.ownsRow w1.heap.size 80 4 (.slice q ns.length c) ns.length (flat ns)) := ho
  have HR2 : Hid (Row w2 w.heap.size [.slice none 0 0]) := far_ne HR1.out hg (by omega)
  have HZ2 : Hid (Row w2 (w.heap.size + 1) [.int .i64 0, .int .i64 0, .int .i64 0]) := far_ne HZ1.out hg (by omega)
  have HB2 : Hid (Below w.heap.size w w2) := below_grown HB1.out hg (by omega)
  have HC2 : Hid (Cur w2 g a n cap) := hc
  have hw12 := hg.size
  clear ho hc hg HR1 HZ1 HB1 HC1
  go_wp2_with fail
  have HO3 : Hid ((w2.alloc (.cells #[.slice q ns.length c] 25)).ownsRow w1.heap.size 80 4 (.slice q ns.length c) ns.length (flat ns)) := owns_below HO2.out (low_alloc _ _)
  have HR3 : Hid (Row (w2.alloc (.cells #[.slice q ns.length c] 25)) w.heap.size [.slice none 0 0]) := HR2.out.below (low_alloc _ _)
  have HZ3 : Hid (Row (w2.alloc (.cells #[.slice q ns.length c] 25)) (w.heap.size + 1) [.int .i64 0, .int .i64 0, .int .i64 0]) := HZ2.out.below (low_alloc _ _)
  have HB3 : Hid (Below w.heap.size w (w2.alloc (.cells #[.slice q ns.length c] 25))) := behind_alloc HB2.out _
  have HC3 : Hid (Cur (w2.alloc (.cells #[.slice q ns.length c] 25)) g a n cap) := HC2.out.below (low_alloc _ _)
  have HP3 : Hid (Row (w2.alloc (.cells #[.slice q ns.length c] 25)) w2.heap.size [.slice q ns.length c]) := row_fresh w2 [.slice q ns.length c] 25
  generalize w2.alloc (.cells #[.slice q ns.length c] 25) = w3 at *
  have hP3 := HP3.out.lt
  have hgP : g < w2.heap.size := by omega
  generalize w2.heap.size = P at *
  clear HO2 HR2 HZ2 HB2 HC2
  refine (l03Span_c g a n cap _ HC3.out).mono ?_
  rintro e w4 ⟨f, t, rfl, hg, hc⟩
  have HO4 : Hid (w4.ownsRow w1.heap.size 80 4 (.slice q ns.length c) ns.length (flat ns)) := owns_drawn HO3.out hg hgl
  have HR4 : Hid (Row w4 w.heap.size [.slice none 0 0]) := far_ne HR3.out hg (by omega)
  have HZ4 : Hid (Row w4 (w.heap.size + 1) [.int .i64 0, .int .i64 0, .int .i64 0]) := far_ne HZ3.out hg (by omega)
  have HB4 : Hid (Below w.heap.size w w4) := below_grown HB3.out hg (by omega)
  have HP4 : Hid (Row w4 P [.slice q ns.length c]) := HP3.out.far hg (fun e => by have := Option.some.inj e; omega)
  have HC4 : Hid (Cur w4 g a n cap) := hc
  clear hg hc HO3 HR3 HZ3 HB3 HP3 HC3
  go_wp2_with fail
  refine (l01Below_c g a n cap 5 (by decide) (by decide) _ HC4.out).mono ?_
  rintro e w5 ⟨y1, rfl, _, _, hg, hc⟩
  have HO5 : Hid (w5.ownsRow w1.heap.size 80 4 (.slice q ns.length c) ns.length (flat ns)) := owns_drawn HO4.out hg hgl
  have HR5 : Hid (Row w5 w.heap.size [.slice none 0 0]) := far_ne HR4.out hg (by omega)
  have HZ5 : Hid (Row w5 (w.heap.size + 1) [.int .i64 0, .int .i64 0, .int .i64 0]) := far_ne HZ4.out hg (by omega)
  have HB5 : Hid (Below w.heap.size w w5) := below_grown HB4.out hg (by omega)
  have HP5 : Hid (Row w5 P [.slice q ns.length c]) := HP4.out.far hg (fun e => by have := Option.some.inj e; omega)
  have HC5 : Hid (Cur w5 g a n cap) := hc
  clear hg hc HO4 HR4 HZ4 HB4 HP4 HC4
  go_wp2_with fail
  refine (l01Below_c g a n cap 9 (by decide) (by decide) _ HC5.out).mono ?_
  rintro e w6 ⟨y2, rfl, _, _, hg, hc⟩
  have HO6 : Hid (w6.ownsRow w1.heap.size 80 4 (.slice q ns.length c) ns.length (flat ns)) := owns_drawn HO5.out hg hgl
  have HR6 : Hid (Row w6 w.heap.size [.slice none 0 0]) := far_ne HR5.out hg (by omega)
  have HZ6 : Hid (Row w6 (w.heap.size + 1) [.int .i64 0, .int .i64 0, .int .i64 0]) := far_ne HZ5.out hg (by omega)
  have HB6 : Hid (Below w.heap.size w w6) := below_grown HB5.out hg (by omega)
  have HP6 : Hid (Row w6 P [.slice q ns.length c]) := HP5.out.far hg (fun e => by have := Option.some.inj e; omega)
  have HC6 : Hid (Cur w6 g a n cap) := hc
  clear hg hc HO5 HR5 HZ5 HB5 HP5 HC5
  go_wp2_with fail
  refine (l01Below_c g a n cap 2 (by decide) (by decide) _ HC6.out).mono ?_
  rintro e w7 ⟨y3, rfl, _, _, hg, hc⟩
  have HO7 : Hid (w7.ownsRow w1.heap.size 80 4 (.slice q ns.length c) ns.length (flat ns)) := owns_drawn HO6.out hg hgl
  have HR7 : Hid (Row w7 w.heap.size [.slice none 0 0]) := far_ne HR6.out hg (by omega)
  have HZ7 : Hid (Row w7 (w.heap.size + 1) [.int .i64 0, .int .i64 0, .int .i64 0]) := far_ne HZ6.out hg (by omega)
  have HB7 : Hid (Below w.heap.size w w7) := below_grown HB6.out hg (by omega)
  have HP7 : Hid (Row w7 P [.slice q ns.length c]) := HP6.out.far hg (fun e => by have := Option.some.inj e; omega)
  have HC7 : Hid (Cur w7 g a n cap) := hc
  clear hg hc HO6 HR6 HZ6 HB6 HP6 HC6
  go_wp2_with fail
  have HO8 : Hid ((w7.alloc (.cells #[.int .i64 y1, .int .i64 y2, .int .i64 y3] 27)).ownsRow w1.heap.size 80 4 (.slice q ns.length c) ns.length (flat ns)) := owns_below HO7.out (low_alloc _ _)
  have HR8 : Hid (Row (w7.alloc (.cells #[.int .i64 y1, .int .i64 y2, .int .i64 y3] 27)) w.heap.size [.slice none 0 0]) := HR7.out.below (low_alloc _ _)
  have HZ8 : Hid (Row (w7.alloc (.cells #[.int .i64 y1, .int .i64 y2, .int .i64 y3] 27)) (w.heap.size + 1) [.int .i64 0, .int .i64 0, .int .i64 0]) := HZ7.out.below (low_alloc _ _)
  have HB8 : Hid (Below w.heap.size w (w7.alloc (.cells #[.int .i64 y1, .int .i64 y2, .int .i64 y3] 27))) := behind_alloc HB7.out _
  have HP8 : Hid (Row (w7.alloc (.cells #[.int .i64 y1, .int .i64 y2, .int .i64 y3] 27)) P [.slice q ns.length c]) := HP7.out.below (low_alloc _ _)
  have HC8 : Hid (Cur (w7.alloc (.cells #[.int .i64 y1, .int .i64 y2, .int .i64 y3] 27)) g a n cap) := HC7.out.below (low_alloc _ _)
  have HV8 : Hid (Row (w7.alloc (.cells #[.int .i64 y1, .int .i64 y2, .int .i64 y3] 27)) w7.heap.size [.int .i64 y1, .int .i64 y2, .int .i64 y3]) := row_fresh w7 [.int .i64 y1, .int .i64 y2, .int .i64 y3] 27
  have hP7 := HP7.out.lt
  have hgV : g < w7.heap.size := by omega
  generalize (w7.alloc (.cells #[.int .i64 y1, .int .i64 y2, .int .i64 y3] 27)) = w8 at *
  have hvb : (Value.slice q ns.length c).ownBlock ≠ some w7.heap.size := fun e => by have := (HO7.out.lt _ e).2; omega
  generalize w7.heap.size = Vb at *
  clear HO7 HR7 HZ7 HB7 HP7 HC7
  refine (l01Below_c g a n cap 12 (by decide) (by decide) _ HC8.out).mono ?_
  rintro e w9 ⟨k, rfl, hk0, hk1, hg, hc⟩
  have HO9 : Hid (w9.ownsRow w1.heap.size 80 4 (.slice q ns.length c) ns.length (flat ns)) := owns_drawn HO8.out hg hgl
  have HR9 : Hid (Row w9 w.heap.size [.slice none 0 0]) := far_ne HR8.out hg (by omega)
  have HZ9 : Hid (Row w9 (w.heap.size + 1) [.int .i64 0, .int .i64 0, .int .i64 0]) := far_ne HZ8.out hg (by omega)
  have HB9 : Hid (Below w.heap.size w w9) := below_grown HB8.out hg (by omega)
  have HP9 : Hid (Row w9 P [.slice q ns.length c]) := HP8.out.far hg (fun e => by have := Option.some.inj e; omega)
  have HC9 : Hid (Cur w9 g a n cap) := hc
  have HV9 : Hid (Row w9 Vb [.int .i64 y1, .int .i64 y2, .int .i64 y3]) := HV8.out.far hg (fun e => by have := Option.some.inj e; omega)
  clear hg hc HO8 HR8 HZ8 HB8 HP8 HC8 HV8
  have hne1 : P ≠ w.heap.size := by omega
  have hne2 : P ≠ w.heap.size + 1 := by omega
  have hne3 : Vb ≠ w.heap.size := by omega
  have hne4 : Vb ≠ w.heap.size + 1 := by omega
  have hne5 : Vb ≠ P := by omega
  have hne6 : w.heap.size + 1 ≠ w.heap.size := by omega
  by_cases hk : k = 0
  · subst hk
    clear hk0 hk1
    go_wp2_with fail
    refine (l01Any_c g a n cap _ HC9.out).mono ?_
    rintro e wa ⟨x1, x2, x3, rfl, hg, hc⟩
    have HOa : Hid (wa.ownsRow w1.heap.size 80 4 (.slice q ns.length c) ns.length (flat ns)) := owns_drawn HO9.out hg hgl
    have HRa : Hid (Row wa w.heap.size [.slice none 0 0]) := far_ne HR9.out hg (by omega)
    have HZa : Hid (Row wa (w.heap.size + 1) [.int .i64 0, .int .i64 0, .int .i64 0]) := far_ne HZ9.out hg (by omega)
    have HBa : Hid (Below w.heap.size w wa) := below_grown HB9.out hg (by omega)
    have HPa : Hid (Row wa P [.slice q ns.length c]) := HP9.out.far hg (fun e => by have := Option.some.inj e; omega)
    have HCa : Hid (Cur wa g a n cap) := hc
    have HVa : Hid (Row wa Vb [.int .i64 y1, .int .i64 y2, .int .i64 y3]) := HV9.out.far hg (fun e => by have := Option.some.inj e; omega)
    clear hg hc HO9 HR9 HZ9 HB9 HP9 HC9 HV9
    have vf0 := HVa.out.free 0
    have vf1 := HVa.out.free 1
    have vf2 := HVa.out.free 2
    have p0 := HPa.out.cell 0 _ rfl
    have r0 := HRa.out.cell 0 _ rfl
    have rf := HRa.out.free 0
    have z0 := HZa.out.cell 0 _ rfl
    have z1 := HZa.out.cell 1 _ rfl
    have z2 := HZa.out.cell 2 _ rfl
    have zf0 := HZa.out.free 0
    have zf1 := HZa.out.free 1
    have zf2 := HZa.out.free 2
    have v0 := HVa.out.cell 0 _ rfl
    have v1 := HVa.out.cell 1 _ rfl
    have v2 := HVa.out.cell 2 _ rfl
    have hvO : ∀ F, F = Vb ∨ F ≤ w.heap.size + 1 → (Value.slice q ns.length c).ownBlock ≠ some F := fun F hF e => by
      have h1 := (HOa.out.lt _ e).1
      rcases hF with rfl | hF
      · exact hvb e
      · omega
    have HOf : Hid ((((((((wa.setCell ⟨Vb, 0, none⟩ (.int .i64 x1)).setCell ⟨Vb, 1, none⟩ (.int .i64 x2)).setCell ⟨Vb, 2, none⟩ (.int .i64 x3)).setCell ⟨w.heap.size, 0, none⟩ (.slice q ns.length c)).setCell ⟨w.heap.size + 1, 0, none⟩ (.int .i64 x1)).setCell ⟨w.heap.size + 1, 1, none⟩ (.int .i64 x2)).setCell ⟨w.heap.size + 1, 2, none⟩ (.int .i64 x3)).ownsRow w1.heap.size 80 4 (.slice q ns.length c) ns.length (flat ns)) := ((((((HOa.out.kept (Lib.grownBy_setCell _ _ _ _) (.inr (hvO _ (.inl rfl)))).kept (Lib.grownBy_setCell _ _ _ _) (.inr (hvO _ (.inl rfl)))).kept (Lib.grownBy_setCell _ _ _ _) (.inr (hvO _ (.inl rfl)))).kept (Lib.grownBy_setCell _ _ _ _) (.inr (hvO _ (.inr (by omega))))).kept (Lib.grownBy_setCell _ _ _ _) (.inr (hvO _ (.inr (by omega))))).kept (Lib.grownBy_setCell _ _ _ _) (.inr (hvO _ (.inr (by omega))))).kept (Lib.grownBy_setCell _ _ _ _) (.inr (hvO _ (.inr (by omega))))
    have HBf : Hid (Below w.heap.size w (((((((wa.setCell ⟨Vb, 0, none⟩ (.int .i64 x1)).setCell ⟨Vb, 1, none⟩ (.int .i64 x2)).setCell ⟨Vb, 2, none⟩ (.int .i64 x3)).setCell ⟨w.heap.size, 0, none⟩ (.slice q ns.length c)).setCell ⟨w.heap.size + 1, 0, none⟩ (.int .i64 x1)).setCell ⟨w.heap.size + 1, 1, none⟩ (.int .i64 x2)).setCell ⟨w.heap.size + 1, 2, none⟩ (.int .i64 x3))) := ((((((HBa.out.setCell (p := ⟨Vb, 0, none⟩) (by show w.heap.size ≤ Vb; omega) _).setCell (p := ⟨Vb, 1, none⟩) (by show w.heap.size ≤ Vb; omega) _).setCell (p := ⟨Vb, 2, none⟩) (by show w.heap.size ≤ Vb; omega) _).setCell (p := ⟨w.heap.size, 0, none⟩) (Nat.le_refl _) _).setCell (p := ⟨w.heap.size + 1, 0, none⟩) (by show w.heap.size ≤ w.heap.size + 1; omega) _).setCell (p := ⟨w.heap.size + 1, 1, none⟩) (by show w.heap.size ≤ w.heap.size + 1; omega) _).setCell (p := ⟨w.heap.size + 1, 2, none⟩) (by show w.heap.size ≤ w.heap.size + 1; omega) _
    go_wp2_with fail
    go_region
    go_wp2_with fail
    exact bodyPost_ret (v := .tuple #[.agg #[.slice q ns.length c], .int .i64 f, .int .i64 t, .agg #[.int .i64 x1, .int .i64 x2, .int .i64 x3]]) (by simp [results, Try.results7, go_sem, *]) rfl ⟨q, c, ns, f, t, x1, x2, x3, rfl, hns, hnc, (owns_cap (owns_below HOf.out (low_drew _))).2, below_then HBf.out (low_drew _)⟩
  · have e0 : (k == 0) = false := by simpa using hk
    have p0 := HP9.out.cell 0 _ rfl
    have r0 := HR9.out.cell 0 _ rfl
    have rf := HR9.out.free 0
    have z0 := HZ9.out.cell 0 _ rfl
    have z1 := HZ9.out.cell 1 _ rfl
    have z2 := HZ9.out.cell 2 _ rfl
    have zf0 := HZ9.out.free 0
    have zf1 := HZ9.out.free 1
    have zf2 := HZ9.out.free 2
    have v0 := HV9.out.cell 0 _ rfl
    have v1 := HV9.out.cell 1 _ rfl
    have v2 := HV9.out.cell 2 _ rfl
    have hvO : ∀ F, F ≤ w.heap.size + 1 → (Value.slice q ns.length c).ownBlock ≠ some F := fun F hF e => by have h1 := (HO9.out.lt _ e).1; omega
    have HOf : Hid (((((w9.setCell ⟨w.heap.size, 0, none⟩ (.slice q ns.length c)).setCell ⟨w.heap.size + 1, 0, none⟩ (.int .i64 y1)).setCell ⟨w.heap.size + 1, 1, none⟩ (.int .i64 y2)).setCell ⟨w.heap.size + 1, 2, none⟩ (.int .i64 y3)).ownsRow w1.heap.size 80 4 (.slice q ns.length c) ns.length (flat ns)) := (((HO9.out.kept (Lib.grownBy_setCell _ _ _ _) (.inr (hvO _ (by omega)))).kept (Lib.grownBy_setCell _ _ _ _) (.inr (hvO _ (by omega)))).kept (Lib.grownBy_setCell _ _ _ _) (.inr (hvO _ (by omega)))).kept (Lib.grownBy_setCell _ _ _ _) (.inr (hvO _ (by omega)))
    have HBf : Hid (Below w.heap.size w ((((w9.setCell ⟨w.heap.size, 0, none⟩ (.slice q ns.length c)).setCell ⟨w.heap.size + 1, 0, none⟩ (.int .i64 y1)).setCell ⟨w.heap.size + 1, 1, none⟩ (.int .i64 y2)).setCell ⟨w.heap.size + 1, 2, none⟩ (.int .i64 y3))) := (((HB9.out.setCell (p := ⟨w.heap.size, 0, none⟩) (Nat.le_refl _) _).setCell (p := ⟨w.heap.size + 1, 0, none⟩) (by show w.heap.size ≤ w.heap.size + 1; omega) _).setCell (p := ⟨w.heap.size + 1, 1, none⟩) (by show w.heap.size ≤ w.heap.size + 1; omega) _).setCell (p := ⟨w.heap.size + 1, 2, none⟩) (by show w.heap.size ≤ w.heap.size + 1; omega) _
    go_wp2_with fail
    go_region
    go_wp2_with fail
    exact bodyPost_ret (v := .tuple #[.agg #[.slice q ns.length c], .int .i64 f, .int .i64 t, .agg #[.int .i64 y1, .int .i64 y2, .int .i64 y3]]) (by simp [results, Try.results7, go_sem, *]) rfl ⟨q, c, ns, f, t, y1, y2, y3, rfl, hns, hnc, (owns_cap (owns_below HOf.out (low_drew _))).2, below_then HBf.out (low_drew _)⟩
end Go.Proofs.Ytdmgcbagijiohaa

namespace Go.Proofs.Ytdmgcbagijiohaa
open Go.ChangeShapes Go.WideShapes Go.ChangeAt Go.RowKit

theorem atR_yes' {ns : List Nd} {t : Int} (h : POk ns) (ht : timeB t = true) : atR ns t = atL ns t := by
  unfold atR
  rw [if_pos ⟨h, ht⟩]

set_option maxHeartbeats 4000000 in
set_option maxRecDepth 100000 in
theorem fnProf_walk (a : Option Addr) (n cap : Nat) (w : World) (hc : n ≤ 1048576 → CodeIs w a n) :
    Calls Try.prog 3 #[.slice a n cap] w fun e w' => e = .returned (.bool true) ∧ Below w.heap.size w w' := by
  by_cases hbig : 1048576 < n
  · have hi : (1048576 : Int) < (n : Int) := by omega
    clear hc hbig
    go_enter Try.func3, Try.ntmps3
    go_wp2_with fail
    go_ret
    exact ⟨rfl, Below.refl _ _⟩
  · have H : Hid (CodeIs w a n) := hc (by omega)
    have hi : ¬ (1048576 : Int) < (n : Int) := by omega
    clear hc hbig
    go_enter Try.func3, Try.ntmps3
    go_wp2_with fail
    refine (drawProfTake_c a n cap w H.out).mono ?_
    rintro e w1 ⟨q, c, ns, f, t, x, y, z, rfl, hns, hnc, sq, hb⟩
    have HS1 : Hid (Sq w1 q (flat ns)) := sq
    have HB1 : Hid (Below w.heap.size w w1) := hb
    clear sq hb
    go_wp2_with fail
    generalize hV : (w1.alloc (.cells #[.slice q ns.length c] 25)).alloc (.cells #[.int .i64 x, .int .i64 y, .int .i64 z] 27) = V
    have HS2 : Hid (Sq V q (flat ns)) := by subst hV; exact (HS1.out.below (low_alloc _ _)).below (low_alloc _ _)
    have HB2 : Hid (Below w.heap.size w V) := by subst hV; exact behind_alloc (behind_alloc HB1.out _) _
    have HP2 : Hid (Row V w1.heap.size [.slice q ns.length c]) := by subst hV; exact (row_fresh w1 [.slice q ns.length c] 25).below (low_alloc _ _)
    have HV2 : Hid (Row V (w1.heap.size + 1) [.int .i64 x, .int .i64 y, .int .i64 z]) := by
      subst hV
      have h := row_fresh (w1.alloc (.cells #[.slice q ns.length c] 25)) [.int .i64 x, .int .i64 y, .int .i64 z] 27
      rw [show (w1.alloc (.cells #[.slice q ns.length c] 25)).heap.size = w1.heap.size + 1 by simp [go_sem]] at h
      exact h
    clear hV HS1 HB1
    generalize w1.heap.size = P at *
    have hVl := HV2.out.lt
    cases hR : tkR false (⟨0, x, y, z⟩ : Nd) ns f t with
    | none =>
      have HTI := implProfTake_c q c ns f t (⟨0, x, y, z⟩ : Nd) V HS2.out
      have HTS : Hid (∀ W, Below V.heap.size V W → Calls Try.prog 9 #[.agg #[.slice q ns.length c], .int .i64 f, .int .i64 t, .agg #[.int .i64 x, .int .i64 y, .int .i64 z]] W (RetP W [] false)) := fun W hW => by
        have h := specProfTake_c q c ns f t (⟨0, x, y, z⟩ : Nd) W (HS2.out.below hW)
        rw [hR] at h
        exact h
      rw [hR] at HTI
      clear hR
      refine HTI.mono ?_
      rintro e w3 ⟨v3, rfl, hans, hb⟩
      obtain ⟨a3, c3, hv3, _⟩ := hans.form
      subst hv3
      have B3 : Hid (Below V.heap.size V w3) := hb
      clear hans hb HTI
      have h3 := B3.out.size
      have p3 := (HP2.out.below B3.out).cell 0 _ rfl
      have y0 := (HV2.out.below B3.out).cell 0 _ rfl
      have y1 := (HV2.out.below B3.out).cell 1 _ rfl
      have y2 := (HV2.out.below B3.out).cell 2 _ rfl
      have n1 : P ≠ w3.heap.size := by omega
      have n2 : P + 1 ≠ w3.heap.size := by omega
      have n3 : P < w3.heap.size := by omega
      have n4 : P + 1 < w3.heap.size := by omega
      go_wp2_with fail
      refine (HTS.out _ (behind_alloc B3.out _)).mono ?_
      rintro e w5 ⟨v5, rfl, hans, hb⟩
      obtain ⟨a5, c5, hv5, _⟩ := hans.form
      subst hv5
      have q5 := ((row_fresh w3 [.slice a3 ([] : List Nd).length c3] 25).below hb).cell 0 _ rfl
      have l5 := ((row_fresh w3 [.slice a3 ([] : List Nd).length c3] 25).below hb).lt
      have n5 : w3.heap.size ≠ w5.heap.size := by omega
      have B5 : Hid (Below V.heap.size V w5) := below_then (behind_alloc B3.out _) hb
      clear hans hb
      go_wp2_with fail
      go_ret
      exact ⟨rfl, below_then HB2.out (behind_alloc B5.out _)⟩
    | some r =>
      obtain ⟨hok, hs, _, hrok⟩ := tk_some hR
      have hsp := span_iff.1 hs
      have HTI := implProfTake_c q c ns f t (⟨0, x, y, z⟩ : Nd) V HS2.out
      have HTS : Hid (∀ W, Below V.heap.size V W → Calls Try.prog 9 #[.agg #[.slice q ns.length c], .int .i64 f, .int .i64 t, .agg #[.int .i64 x, .int .i64 y, .int .i64 z]] W (RetP W r true)) := fun W hW => by
        have h := specProfTake_c q c ns f t (⟨0, x, y, z⟩ : Nd) W (HS2.out.below hW)
        rw [hR] at h
        exact h
      rw [hR] at HTI
      have HR : Hid (tkR false (⟨0, x, y, z⟩ : Nd) ns f t = some r) := hR
      have HOk : Hid (POk ns) := hok
      have HRk : Hid (POk r) := hrok
      clear hR hok hrok hs
      refine HTI.mono ?_
      rintro e w3 ⟨v3, rfl, hans, hb⟩
      change AnsP V.heap.size w3.heap.size w3 r.length (flat r) v3 at hans
      obtain ⟨a3, c3, hv3, hs3⟩ := hans.form
      subst hv3
      have B3 : Hid (Below V.heap.size V w3) := hb
      have S3 : Hid (Sq w3 a3 (flat r)) := hs3
      clear hans hb HTI hs3
      have h3 := B3.out.size
      have p3 := (HP2.out.below B3.out).cell 0 _ rfl
      have y0 := (HV2.out.below B3.out).cell 0 _ rfl
      have y1 := (HV2.out.below B3.out).cell 1 _ rfl
      have y2 := (HV2.out.below B3.out).cell 2 _ rfl
      have n1 : P ≠ w3.heap.size := by omega
      have n2 : P + 1 ≠ w3.heap.size := by omega
      have n3 : P < w3.heap.size := by omega
      have n4 : P + 1 < w3.heap.size := by omega
      go_wp2_with fail
      refine (HTS.out _ (behind_alloc B3.out _)).mono ?_
      rintro e w5 ⟨v5, rfl, hans, hb⟩
      obtain ⟨a5, c5, hv5, _⟩ := hans.form
      subst hv5
      have Q5 : Hid (Row w5 w3.heap.size [.slice a3 r.length c3]) := (row_fresh w3 [.slice a3 r.length c3] 25).below hb
      have S5 : Hid (Sq w5 a3 (flat r)) := (S3.out.below (low_alloc _ _)).below hb
      have B5 : Hid (Below V.heap.size V w5) := below_then (behind_alloc B3.out _) hb
      clear hans hb S3 B3 p3 y0 y1 y2 n1 n2 n3 n4 HTS
      generalize w3.heap.size = Q at *
      have hq5 := Q5.out.lt
      go_wp2_with fail
      generalize hU : (w5.alloc (.cells #[.slice a5 r.length c5] 25)).alloc (.cells #[.int .i64 0, .int .i64 (f - 1), .int .i64 f, .int .i64 ((f + t) / 2), .int .i64 (t - 1), .int .i64 t, .int .i64 (t + 1), .int .i64 1000000000] 3) = U
      have B6' : Hid (Below V.heap.size V U) := by subst hU; exact behind_alloc (behind_alloc B5.out _) _
      have S6 : Hid (Sq U a3 (flat r)) := by subst hU; exact (S5.out.below (low_alloc _ _)).below (low_alloc _ _)
      have Q6 : Hid (Row U Q [.slice a3 r.length c3]) := by subst hU; exact (Q5.out.below (low_alloc _ _)).below (low_alloc _ _)
      have L6 : Hid (Row U (w5.heap.size + 1) (ints [0, f - 1, f, (f + t) / 2, t - 1, t, t + 1, 1000000000])) := by
        subst hU
        have h := row_fresh (w5.alloc (.cells #[.slice a5 r.length c5] 25)) (ints [0, f - 1, f, (f + t) / 2, t - 1, t, t + 1, 1000000000]) 3
        rw [show (w5.alloc (.cells #[.slice a5 r.length c5] 25)).heap.size = w5.heap.size + 1 by simp [go_sem]] at h
        exact h
      clear hU S5 Q5 B5
      generalize hts : [0, f - 1, f, (f + t) / 2, t - 1, t, t + 1, 1000000000] = ts at L6
      have htl : ts.length = 8 := by rw [← hts]; rfl
      clear hts
      generalize w5.heap.size + 1 = Lb at *
      have hUV := B6'.out.size
      have hLb := L6.out.lt
      have hQU := Q6.out.lt
      have HS6 : Hid (Sq U q (flat ns)) := HS2.out.below B6'.out
      have HP6 : Hid (Row U P [.slice q ns.length c]) := HP2.out.below B6'.out
      go_loopw [68] (fun i wr => ∃ j : Nat, j ≤ 8 ∧ i = .int .i64 j ∧ Below U.heap.size U wr) (fun i _ => 8 - (intOf i).toNat)
      case atStart => exact ⟨0, by omega, rfl, Below.refl _ _⟩
      case round =>
        obtain ⟨j, hj, rfl, hb⟩ := hrel
        have B6 : Hid (Below U.heap.size U wr) := hb
        clear hb
        have p6 := (HP6.out.below B6.out).cell 0 _ rfl
        by_cases hlt : j < 8
        · have hj0 : (0 : Int) ≤ (j : Int) := by omega
          have hj1 : (j : Int) < 8 := by omega
          have tc := (L6.out.below B6.out).cell j _ (ints_at ts j (by omega))
          generalize ts[j] = τ at tc
          have HA : Hid (∀ W, Below U.heap.size U W → Calls Try.prog 10 #[.agg #[.slice q ns.length c], .int .i64 τ] W fun e w' => e = .returned (.agg #[.int .i64 (atR ns τ).a, .int .i64 (atR ns τ).b, .int .i64 (atR ns τ).c]) ∧ Below W.heap.size W w') := fun W hW => implProfAt_c q c ns τ W (HS6.out.below hW)
          have HA' : Hid (∀ W, Below U.heap.size U W → Calls Try.prog 10 #[.agg #[.slice a3 r.length c3], .int .i64 τ] W fun e w' => e = .returned (.agg #[.int .i64 (atR r τ).a, .int .i64 (atR r τ).b, .int .i64 (atR r τ).c]) ∧ Below W.heap.size W w') := fun W hW => implProfAt_c a3 c3 r τ W (S6.out.below hW)
          by_cases hout : τ < 0 ∨ 1000000000 < τ
          · generalize atR ns τ = m at HA
            generalize atR r τ = m' at HA'
            by_cases ho0 : τ < 0
            case' neg => have ho1 : 1000000000 < τ := hout.resolve_left ho0
            all_goals
              clear hout
              go_wp2_with fail
              refine (HA.out wr B6.out).mono ?_
              rintro e w7 ⟨rfl, hb⟩
              have B7 : Hid (Below U.heap.size U w7) := below_then B6.out hb
              have q7 := (Q6.out.below B7.out).cell 0 _ rfl
              have h7 := B7.out.size
              have n7 : Q ≠ w7.heap.size := by omega
              have n7' : Q < w7.heap.size := by omega
              clear hb tc p6
              go_wp2_with fail
              have B8 : Hid (Below U.heap.size U (w7.alloc (.cells #[.int .i64 m.a, .int .i64 m.b, .int .i64 m.c] 27))) := behind_alloc B7.out _
              have A8 : Hid (Row (w7.alloc (.cells #[.int .i64 m.a, .int .i64 m.b, .int .i64 m.c] 27)) w7.heap.size [.int .i64 m.a, .int .i64 m.b, .int .i64 m.c]) := row_fresh w7 [.int .i64 m.a, .int .i64 m.b, .int .i64 m.c] 27
              generalize w7.alloc (.cells #[.int .i64 m.a, .int .i64 m.b, .int .i64 m.c] 27) = w8 at *
              clear q7 n7 n7' B7
              generalize w7.heap.size = Ab at *
              refine (HA'.out w8 B8.out).mono ?_
              rintro e w9 ⟨rfl, hb⟩
              have B9 : Hid (Below U.heap.size U w9) := below_then B8.out hb
              have A9 : Hid (Row w9 Ab [.int .i64 m.a, .int .i64 m.b, .int .i64 m.c]) := A8.out.below hb
              clear hb B8 A8
              have a0 := A9.out.cell 0 _ rfl
              have a1 := A9.out.cell 1 _ rfl
              have a2 := A9.out.cell 2 _ rfl
              have l9 := A9.out.lt
              have n9 : Ab ≠ w9.heap.size := by omega
              have h9 := B9.out.size
              have n10 : P + 1 ≠ w9.heap.size := by omega
              have n11 : P + 1 < w9.heap.size := by omega
              have v0 := ((HV2.out.below B6'.out).below B9.out).cell 0 _ rfl
              have v1 := ((HV2.out.below B6'.out).below B9.out).cell 1 _ rfl
              have v2 := ((HV2.out.below B6'.out).below B9.out).cell 2 _ rfl
              go_wp2_with fail
              have B10 : Hid (Below U.heap.size U (w9.alloc (.cells #[.int .i64 m'.a, .int .i64 m'.b, .int .i64 m'.c] 27))) := behind_alloc B9.out _
              exact ⟨⟨j + 1, by omega, by go_num, B10.out⟩, by simp [intOf]; omega⟩
          · have ht0 : 0 ≤ τ := by omega
            have ht1 : τ ≤ 1000000000 := by omega
            have ho0 : ¬ τ < 0 := by omega
            have ho1 : ¬ 1000000000 < τ := by omega
            have htt : timeB τ = true := time_iff.2 ⟨ht0, ht1⟩
            rw [atR_yes' HOk.out htt] at HA
            rw [atR_yes' HRk.out htt] at HA'
            obtain ⟨k1, k2⟩ := tk_at HR.out ht0
            generalize atL ns τ = m at *
            generalize atL r τ = m' at *
            clear hout htt
            by_cases hin : f ≤ τ ∧ τ < t
            · obtain ⟨cc, hcc, hval⟩ := k1 hin
              simp only [val, Prod.mk.injEq] at hval
              obtain ⟨e1, e2, e3⟩ := hval
              have HC : Hid (∀ W, Calls Try.prog 11 #[.agg #[.int .i64 m'.a, .int .i64 m'.b, .int .i64 m'.c], .agg #[.int .i64 x, .int .i64 y, .int .i64 z]] W fun e w' => e = .returned (.tuple #[.agg #[.int .i64 m.a, .int .i64 m.b, .int .i64 m.c], .bool true]) ∧ Below W.heap.size W w') := fun W => by
                have h := implVecAdd_g (⟨0, x, y, z⟩ : Nd) m' W
                rw [chV, hcc] at h
                simp only [Option.getD_some, Option.isSome_some, e1, e2, e3] at h
                exact h
              have hvq : ∀ W : World, (Op.equalIn 10000 27 (.agg #[.int .i64 m.a, .int .i64 m.b, .int .i64 m.c]) (.agg #[.int .i64 m.a, .int .i64 m.b, .int .i64 m.c])).run Try.prog W = .ok true W := fun W => by rw [eq_vec]; simp
              obtain ⟨hi1, hi2⟩ := hin
              clear k1 k2 hcc e1 e2 e3 hj
              go_wp2_with fail
              refine (HA.out wr B6.out).mono ?_
              rintro e w7 ⟨rfl, hb⟩
              have B7 : Hid (Below U.heap.size U w7) := below_then B6.out hb
              have q7 := (Q6.out.below B7.out).cell 0 _ rfl
              have h7 := B7.out.size
              have n7 : Q ≠ w7.heap.size := by omega
              have n7' : Q < w7.heap.size := by omega
              clear hb tc p6
              go_wp2_with fail
              have B8 : Hid (Below U.heap.size U (w7.alloc (.cells #[.int .i64 m.a, .int .i64 m.b, .int .i64 m.c] 27))) := behind_alloc B7.out _
              have A8 : Hid (Row (w7.alloc (.cells #[.int .i64 m.a, .int .i64 m.b, .int .i64 m.c] 27)) w7.heap.size [.int .i64 m.a, .int .i64 m.b, .int .i64 m.c]) := row_fresh w7 [.int .i64 m.a, .int .i64 m.b, .int .i64 m.c] 27
              generalize w7.alloc (.cells #[.int .i64 m.a, .int .i64 m.b, .int .i64 m.c] 27) = w8 at *
              clear q7 n7 n7' B7
              generalize w7.heap.size = Ab at *
              refine (HA'.out w8 B8.out).mono ?_
              rintro e w9 ⟨rfl, hb⟩
              have B9 : Hid (Below U.heap.size U w9) := below_then B8.out hb
              have A9 : Hid (Row w9 Ab [.int .i64 m.a, .int .i64 m.b, .int .i64 m.c]) := A8.out.below hb
              clear hb B8 A8
              have a0 := A9.out.cell 0 _ rfl
              have a1 := A9.out.cell 1 _ rfl
              have a2 := A9.out.cell 2 _ rfl
              have l9 := A9.out.lt
              have n9 : Ab ≠ w9.heap.size := by omega
              have h9 := B9.out.size
              have n10 : P + 1 ≠ w9.heap.size := by omega
              have n11 : P + 1 < w9.heap.size := by omega
              have v0 := ((HV2.out.below B6'.out).below B9.out).cell 0 _ rfl
              have v1 := ((HV2.out.below B6'.out).below B9.out).cell 1 _ rfl
              have v2 := ((HV2.out.below B6'.out).below B9.out).cell 2 _ rfl
              go_wp2_with fail
              refine (HC.out _).mono ?_
              rintro e wa ⟨rfl, hb⟩
              have Ba : Hid (Below U.heap.size U wa) := below_then (behind_alloc B9.out _) hb
              have Aa : Hid (Row wa Ab [.int .i64 m.a, .int .i64 m.b, .int .i64 m.c]) := (A9.out.below (low_alloc _ _)).below hb
              clear hb a0 a1 a2 n9
              have a0 := Aa.out.cell 0 _ rfl
              have a1 := Aa.out.cell 1 _ rfl
              have a2 := Aa.out.cell 2 _ rfl
              have n9 : Ab ≠ wa.heap.size := by have := Aa.out.lt; omega
              have l10 := Aa.out.lt
              have B10 : Hid (Below U.heap.size U (wa.alloc (.cells #[.int .i64 m.a, .int .i64 m.b, .int .i64 m.c] 27))) := behind_alloc Ba.out _
              have hjj : j ≤ 8 := by omega
              go_wp2_with fail
              exact ⟨⟨j + 1, by omega, by go_num, B10.out⟩, by simp [intOf]; omega⟩
            · have hval := k2 hin
              simp only [val, Prod.mk.injEq] at hval
              obtain ⟨e1, e2, e3⟩ := hval
              rw [e1, e2, e3] at HA'
              have hvq : ∀ W : World, (Op.equalIn 10000 27 (.agg #[.int .i64 m.a, .int .i64 m.b, .int .i64 m.c]) (.agg #[.int .i64 m.a, .int .i64 m.b, .int .i64 m.c])).run Try.prog W = .ok true W := fun W => by rw [eq_vec]; simp
              by_cases hi1 : f ≤ τ
              case' pos => have hi2 : ¬ τ < t := fun h => hin ⟨hi1, h⟩
              all_goals
                clear k1 k2 e1 e2 e3 hin
                go_wp2_with fail
                refine (HA.out wr B6.out).mono ?_
                rintro e w7 ⟨rfl, hb⟩
                have B7 : Hid (Below U.heap.size U w7) := below_then B6.out hb
                have q7 := (Q6.out.below B7.out).cell 0 _ rfl
                have h7 := B7.out.size
                have n7 : Q ≠ w7.heap.size := by omega
                have n7' : Q < w7.heap.size := by omega
                clear hb tc p6
                go_wp2_with fail
                have B8 : Hid (Below U.heap.size U (w7.alloc (.cells #[.int .i64 m.a, .int .i64 m.b, .int .i64 m.c] 27))) := behind_alloc B7.out _
                have A8 : Hid (Row (w7.alloc (.cells #[.int .i64 m.a, .int .i64 m.b, .int .i64 m.c] 27)) w7.heap.size [.int .i64 m.a, .int .i64 m.b, .int .i64 m.c]) := row_fresh w7 [.int .i64 m.a, .int .i64 m.b, .int .i64 m.c] 27
                generalize w7.alloc (.cells #[.int .i64 m.a, .int .i64 m.b, .int .i64 m.c] 27) = w8 at *
                clear q7 n7 n7' B7
                generalize w7.heap.size = Ab at *
                refine (HA'.out w8 B8.out).mono ?_
                rintro e w9 ⟨rfl, hb⟩
                have B9 : Hid (Below U.heap.size U w9) := below_then B8.out hb
                have A9 : Hid (Row w9 Ab [.int .i64 m.a, .int .i64 m.b, .int .i64 m.c]) := A8.out.below hb
                clear hb B8 A8
                have a0 := A9.out.cell 0 _ rfl
                have a1 := A9.out.cell 1 _ rfl
                have a2 := A9.out.cell 2 _ rfl
                have l9 := A9.out.lt
                have n9 : Ab ≠ w9.heap.size := by omega
                have h9 := B9.out.size
                have n10 : P + 1 ≠ w9.heap.size := by omega
                have n11 : P + 1 < w9.heap.size := by omega
                have v0 := ((HV2.out.below B6'.out).below B9.out).cell 0 _ rfl
                have v1 := ((HV2.out.below B6'.out).below B9.out).cell 1 _ rfl
                have v2 := ((HV2.out.below B6'.out).below B9.out).cell 2 _ rfl
                have B10 : Hid (Below U.heap.size U (w9.alloc (.cells #[.int .i64 m.a, .int .i64 m.b, .int .i64 m.c] 27))) := behind_alloc B9.out _
                go_wp2_with fail
                exact ⟨⟨j + 1, by omega, by go_num, B10.out⟩, by simp [intOf]; omega⟩
        · obtain rfl : j = 8 := by omega
          have q6 := (Q6.out.below B6.out).cell 0 _ rfl
          have v0 := ((HV2.out.below B6'.out).below B6.out).cell 0 _ rfl
          have v1 := ((HV2.out.below B6'.out).below B6.out).cell 1 _ rfl
          have v2 := ((HV2.out.below B6'.out).below B6.out).cell 2 _ rfl
          have HG : Hid (Calls Try.prog 12 #[.agg #[.slice a3 r.length c3], .int .i64 f, .int .i64 t, .agg #[.int .i64 x, .int .i64 y, .int .i64 z]] wr (RetP wr ns true)) := by
            have h := implProfGive_c a3 c3 r f t (⟨0, x, y, z⟩ : Nd) wr (S6.out.below B6.out)
            rw [tk_back HR.out] at h
            exact h
          go_wp2_with fail
          refine HG.out.mono ?_
          rintro e w7 ⟨v7, rfl, hans, hb⟩
          obtain ⟨a7, c7, hv7, hs7⟩ := hans.form
          subst hv7
          have B7 : Hid (Below U.heap.size U w7) := below_then B6.out hb
          have S7 : Hid (Sq w7 a7 (flat ns)) := hs7
          clear hans hb hs7 HG q6 v0 v1 v2 p6
          have h7 := B7.out.size
          have n7 : Q ≠ w7.heap.size := by omega
          have n7' : Q < w7.heap.size := by omega
          have n8 : P ≠ w7.heap.size := by omega
          have n8' : P < w7.heap.size := by omega
          have p7 := (HP6.out.below B7.out).cell 0 _ rfl
          go_wp2_with fail
          have B8 : Hid (Below U.heap.size U (w7.alloc (.cells #[.slice a7 ns.length c7] 25))) := behind_alloc B7.out _
          have K8 : Hid (Row (w7.alloc (.cells #[.slice a7 ns.length c7] 25)) w7.heap.size [.slice a7 ns.length c7]) := row_fresh w7 [.slice a7 ns.length c7] 25
          have S8 : Hid (Sq (w7.alloc (.cells #[.slice a7 ns.length c7] 25)) a7 (flat ns)) := S7.out.below (low_alloc _ _)
          generalize w7.alloc (.cells #[.slice a7 ns.length c7] 25) = U8 at *
          generalize w7.heap.size = Kb at *
          have HC1 : Hid (∀ N : Beh U8, Calls Try.prog 13 #[.agg #[.slice a7 ns.length c7], .agg #[.slice q ns.length c]] N.w fun e w' => e = .returned (.bool true) ∧ Below N.w.heap.size N.w w') := fun N => by
            refine (implSameProf_c a7 q c7 c ns ns N.w (S8.out.below N.low) (HS6.out.below (below_then B8.out N.low))).mono ?_
            rintro e w' ⟨k, rfl, hk, hb⟩
            have : k = true := hk.2 ⟨HOk.out, HOk.out, rfl⟩
            subst this
            exact ⟨rfl, hb⟩
          have HC2 : Hid (∀ N : Beh U8, Calls Try.prog 14 #[.agg #[.slice a3 r.length c3]] N.w fun e w' => e = .returned (.bool true) ∧ Below N.w.heap.size N.w w') := fun N => by
            refine (implProfOk_c a3 c3 r N.w (S6.out.below (below_then B8.out N.low))).mono ?_
            rintro e w' ⟨k, rfl, hk, hb⟩
            have : k = true := hk.2 HRk.out
            subst this
            exact ⟨rfl, hb⟩
          clear p7
          refine (HC1.out ⟨U8, Below.refl _ _⟩).mono ?_
          rintro e w9 ⟨rfl, hb⟩
          have N9 : Below U8.heap.size U8 w9 := hb
          have B9 : Hid (Below U.heap.size U w9) := below_then B8.out hb
          have q9 := (Q6.out.below B9.out).cell 0 _ rfl
          clear hb
          go_wp2_with fail
          refine (HC2.out ⟨w9, N9⟩).mono ?_
          rintro e wa ⟨rfl, hb⟩
          have Ba : Hid (Below U.heap.size U wa) := below_then B9.out hb
          clear hb q9
          go_wp2_with fail
          go_ret
          exact ⟨rfl, below_then HB2.out (below_then B6'.out Ba.out)⟩
end Go.Proofs.Ytdmgcbagijiohaa

namespace Go.Proofs.Ytdmgcbagijiohaa
open Go.ChangeShapes Go.WideShapes Go.ChangeAt Go.RowKit

theorem laidOutAll : laidOutB Try.prog = true := by kernel_rfl
theorem cellsByte : Try.prog.cellsOf 5 = 1 := by kernel_rfl

theorem byte_in {x : Int} (h : (Lit.int .u8 x).wf = true) : 0 ≤ x ∧ x < 256 := by
  have h1 : IntKind.u8.min = 0 := rfl
  have h2 : IntKind.u8.max = 255 := rfl
  simp only [Lit.wf, Bool.and_eq_true, decide_eq_true_eq] at h
  omega

/-- A code that came in: its length, and its bytes where it is no longer than the laws look at. -/
theorem code_opened {H : Type} {enc : TypeId × Value → H} {W : World} {a : Option Addr} {n cap : Nat} {d : DataW H} {p : List MemPlace}
    (h : DataW.Trod enc Try.prog W 0 (fun _ => true) true 22 (.slice a n cap) d p) : n ≤ maxLen ∧ (n ≤ 1048576 → CodeIs W a n) := by
  obtain ⟨fuel, hf⟩ := h
  rcases open_ints Try.underlying22 Try.underlying5 cellsByte hf with ⟨hcs, _⟩ | ⟨b, len, c, zs, hcs, _, hl, hm, hz, _, hcell, hwz⟩
  · simp [Value.cells] at hcs
    obtain ⟨rfl, rfl, rfl⟩ := hcs
    exact ⟨Nat.zero_le _, fun _ => ⟨by omega, fun i hi => by omega⟩⟩
  · simp [Value.cells] at hcs
    obtain ⟨rfl, rfl, rfl⟩ := hcs
    simp only [if_true] at hz
    refine ⟨by omega, fun hn => ⟨hn, fun i hi => ?_⟩⟩
    have hi' : i < zs.length := by omega
    have hc := hcell i hi'
    have hg : zs.getD i 0 = zs[i] := by simp [List.getD, hi']
    have hw := byte_in (hwz zs[i] (List.getElem_mem hi'))
    refine ⟨b, zs[i], rfl, ?_, by rw [hc, hg], hw.1, hw.2⟩
    have := World.block_lt_of_cell? _ _ hc
    rwa [block_add] at this
end Go.Proofs.Ytdmgcbagijiohaa

namespace Go.Proofs.Ytdmgcbagijiohaa
namespace LawFnProf
open Go.ChangeShapes Go.WideShapes Go.ChangeAt Go.RowKit Go.Joins

theorem own : ownKnob Try.prog.godebug = none := by kernel_rfl

set_option maxRecDepth 100000 in
theorem lifted (os : Os) (started : os.Started) (H : Type) (enc : TypeId × Value → H) :
    ReturnsInHanded {} Try.checked os 3 .any (Rows.fnProfSpec.pre6 enc Try.prog Try.f3 Rows.fnProfRow.domain false) (Rows.fnProfSpec.post enc Try.prog Try.f3 false true false false) := by
  refine returnsInHanded_of_change (C := Try.checked) own started (by kernel_rfl) Try.func3
    (ChangeSpec.witness6 (enc := enc) (C := Try.checked) false ⟨#[], #[.slice none 0 0], []⟩ 8 (by kernel_rfl) (by kernel_rfl) (by kernel_rfl) (by kernel_rfl)) ?_
  intro W base args ds gs before hval0 hW _ _
  have hval : ∀ (j : Nat) t v, Try.f3.params[j]? = some t → args[j]? = some v → Value.okWide Try.prog W .any base t v := hval0
  have hW' := hW
  obtain ⟨p, q, hA0, hV, rfl, _, _⟩ := hW
  have hA : DataW.TrodAll enc Try.prog W 0 (fun _ => true) true Try.f3.params.toList args.toList ds p := hA0
  rw [Try.params3] at hA hval
  obtain ⟨v0, d0, rfl, rfl, h0⟩ := trodAll_one hA
  obtain ⟨rfl, rfl⟩ := trodVars_none hV
  obtain ⟨a, n, cap, rfl⟩ := okWide_slice Try.underlying22 (hval 0 22 v0 rfl rfl)
  clear hA0 hval0
  simp only [List.append_nil] at hW'
  obtain ⟨_, hc⟩ := code_opened h0
  refine (fnProf_walk a n cap W hc).mono fun e W' ⟨he, hg⟩ => ?_
  subst he
  have hlt : ∀ x ∈ p, x.block < W.heap.size := fun x hx => by simpa using hW'.lt x hx
  have harg := Below.trod laidOutAll (by kernel_rfl) (of_decide_eq_true (by kernel_rfl)) h0 hg hlt
  exact ⟨_, rfl, _, _, _, [], _, [], hW', trodAll_mk1 (shut_bool Try.underlying4 _), trodAll_mk1 harg, rfl, hg.frame _, fun h => by cases h⟩
end LawFnProf

/-- For every code: the law returns true, and the code reads as it did. -/
theorem fnProf_holds : Rows.FnProfSaid :=
  OpenClaim.holds_of_wide 3 Try.f3 rfl rfl rfl rfl rfl rfl rfl ⟨rfl, rfl, rfl, rfl, rfl⟩ rfl rfl rfl rfl rfl (by kernel_rfl) Try.func3 (by kernel_rfl)
    (of_decide_eq_true (by kernel_rfl)) (by unfold Func.isWrapper; rw [if_neg (of_decide_eq_false (by kernel_rfl))]; exact ⟨rfl, rfl⟩)
    (fun os started H enc _ => LawFnProf.lifted os started H enc)
#print axioms fnProf_holds
end Go.Proofs.Ytdmgcbagijiohaa
