/- Draws of the laws on profiles. -/
import Derived.Test.YtgpogglaffehcaaPDrD
import Derived.Test.YtgpogglaffehcaaPDrC
namespace Go.Proofs.Ytgpogglaffehcaa
open Go.ChangeShapes Go.WideShapes Go.ChangeAt Go.RowKit

theorem owns_drawn {w w' : World} {B n g : Nat} {t : TypeId} {v : Value} {xs : List Value} (h : w.ownsRow B t 4 v n xs) (hg : w.grownBy w' (some g)) (hl : g < B) : w'.ownsRow B t 4 v n xs := h.kept hg (.inr (fun e => by have := (h.lt g e).1; omega))
theorem owns_cap {w : World} {B n c : Nat} {t : TypeId} {q : Option Addr} {xs : List Value} (h : w.ownsRow B t 4 (.slice q n c) n xs) : n ≤ c ∧ Sq w q xs := by
  refine ⟨?_, ?_⟩
  · rcases h.2 with ⟨h1, h2⟩ | ⟨g', cap', cur, h', _, _, hnc, _⟩
    · omega
    · cases h'; exact hnc
  · obtain ⟨a, c, hv, hs⟩ := (AnsP.of_owns h).form
    cases hv
    exact hs

set_option maxHeartbeats 2000000 in
theorem drawProfMin_c (a : Option Addr) (n cap : Nat) (w : World) (h : CodeIs w a n) :
    Calls Try.prog 20 #[.slice a n cap] w fun e w' => ∃ (q : Option Addr) (c : Nat) (ns : List Nd) (f t : Int), e = .returned (.tuple #[.agg #[.slice q ns.length c], .int .i64 f, .int .i64 t]) ∧ ns.length ≤ 201 ∧ ns.length ≤ c ∧ Sq w' q (flat ns) ∧ Below w.heap.size w w' := by
  have H : Hid (CodeIs w a n) := h
  clear h
  go_enter Try.func20, Try.ntmps20
  go_wp2_with fail
  generalize hW : w.alloc (.cells #[.slice none 0 0] 25) = w0
  have HB0 : Hid (Below w.heap.size w w0) := by subst hW; exact low_alloc _ _
  have HR0 : Hid (Row w0 w.heap.size [.slice none 0 0]) := by subst hW; exact row_fresh w [.slice none 0 0] 25
  clear hW
  refine (l01New_c a n cap _ (H.out.below HB0.out)).mono ?_
  rintro e w1 ⟨g, rfl, hg1, hb1, hc1⟩
  have HR1 : Hid (Row w1 w.heap.size [.slice none 0 0]) := HR0.out.below hb1
  have HB1 : Hid (Below w.heap.size w w1) := below_then HB0.out hb1
  have HC1 : Hid (Cur w1 g a n cap) := hc1
  have hgw : w.heap.size < g := by have := HR0.out.lt; omega
  have hgl : g < w1.heap.size := hc1.lt
  clear hb1 hc1 HR0 HB0
  go_wp2_with fail
  refine (l03Any_c g a n cap _ HC1.out).mono ?_
  rintro e w2 ⟨q, c, ns, rfl, hns, hnc, ho, hc, hg⟩
  have HO2 : Hid (w2.ownsRow w1.heap.size 47 4 (.slice q ns.length c) ns.length (flat ns)) := ho
  have HR2 : Hid (Row w2 w.heap.size [.slice none 0 0]) := far_ne HR1.out hg (by omega)
  have HB2 : Hid (Below w.heap.size w w2) := below_grown HB1.out hg (by omega)
  have HC2 : Hid (Cur w2 g a n cap) := hc
  have hw12 := hg.size
  clear ho hc hg HR1 HB1 HC1
  go_wp2_with fail
  have HO3 : Hid ((w2.alloc (.cells #[.slice q ns.length c] 25)).ownsRow w1.heap.size 47 4 (.slice q ns.length c) ns.length (flat ns)) := owns_below HO2.out (low_alloc _ _)
  have HR3 : Hid (Row (w2.alloc (.cells #[.slice q ns.length c] 25)) w.heap.size [.slice none 0 0]) := HR2.out.below (low_alloc _ _)
  have HB3 : Hid (Below w.heap.size w (w2.alloc (.cells #[.slice q ns.length c] 25))) := behind_alloc HB2.out _
  have HC3 : Hid (Cur (w2.alloc (.cells #[.slice q ns.length c] 25)) g a n cap) := HC2.out.below (low_alloc _ _)
  have HP3 : Hid (Row (w2.alloc (.cells #[.slice q ns.length c] 25)) w2.heap.size [.slice q ns.length c]) := row_fresh w2 [.slice q ns.length c] 25
  generalize w2.alloc (.cells #[.slice q ns.length c] 25) = w3 at *
  have hP3 := HP3.out.lt
  have hgP : g < w2.heap.size := by omega
  generalize w2.heap.size = P at *
  clear HO2 HR2 HB2 HC2
  refine (l03Span_c g a n cap _ HC3.out).mono ?_
  rintro e w4 ⟨f, t, rfl, hg, hc⟩
  have HO4 : Hid (w4.ownsRow w1.heap.size 47 4 (.slice q ns.length c) ns.length (flat ns)) := owns_drawn HO3.out hg hgl
  have HR4 : Hid (Row w4 w.heap.size [.slice none 0 0]) := far_ne HR3.out hg (by omega)
  have HB4 : Hid (Below w.heap.size w w4) := below_grown HB3.out hg (by omega)
  have HP4 : Hid (Row w4 P [.slice q ns.length c]) := HP3.out.far hg (fun e => by have := Option.some.inj e; omega)
  clear hg hc HO3 HR3 HB3 HP3
  have p0 := HP4.out.cell 0 _ rfl
  have r0 := HR4.out.cell 0 _ rfl
  have rf := HR4.out.free 0
  have hne : P ≠ w.heap.size := by omega
  have HO5 : Hid ((w4.setCell ⟨w.heap.size, 0, none⟩ (.slice q ns.length c)).ownsRow w1.heap.size 47 4 (.slice q ns.length c) ns.length (flat ns)) := owns_set HO4.out (by omega)
  have HB5 : Hid (Below w.heap.size w (w4.setCell ⟨w.heap.size, 0, none⟩ (.slice q ns.length c))) := HB4.out.setCell (p := ⟨w.heap.size, 0, none⟩) (Nat.le_refl _) _
  go_wp2_with fail
  exact bodyPost_ret (v := .tuple #[.agg #[.slice q ns.length c], .int .i64 f, .int .i64 t]) (by simp [results, Try.results20, go_sem, *]) rfl ⟨q, c, ns, f, t, rfl, hns, hnc, (owns_cap HO5.out).2, HB5.out⟩

set_option maxHeartbeats 2000000 in
theorem drawProfCut_c (a : Option Addr) (n cap : Nat) (w : World) (h : CodeIs w a n) :
    Calls Try.prog 24 #[.slice a n cap] w fun e w' => ∃ (q : Option Addr) (c : Nat) (ns : List Nd) (t : Int), e = .returned (.tuple #[.agg #[.slice q ns.length c], .int .i64 t]) ∧ ns.length ≤ 201 ∧ ns.length ≤ c ∧ Sq w' q (flat ns) ∧ Below w.heap.size w w' := by
  have H : Hid (CodeIs w a n) := h
  clear h
  go_enter Try.func24, Try.ntmps24
  go_wp2_with fail
  generalize hW : w.alloc (.cells #[.slice none 0 0] 25) = w0
  have HB0 : Hid (Below w.heap.size w w0) := by subst hW; exact low_alloc _ _
  have HR0 : Hid (Row w0 w.heap.size [.slice none 0 0]) := by subst hW; exact row_fresh w [.slice none 0 0] 25
  clear hW
  refine (l01New_c a n cap _ (H.out.below HB0.out)).mono ?_
  rintro e w1 ⟨g, rfl, hg1, hb1, hc1⟩
  have HR1 : Hid (Row w1 w.heap.size [.slice none 0 0]) := HR0.out.below hb1
  have HB1 : Hid (Below w.heap.size w w1) := below_then HB0.out hb1
  have HC1 : Hid (Cur w1 g a n cap) := hc1
  have hgw : w.heap.size < g := by have := HR0.out.lt; omega
  have hgl : g < w1.heap.size := hc1.lt
  clear hb1 hc1 HR0 HB0
  go_wp2_with fail
  refine (l03Any_c g a n cap _ HC1.out).mono ?_
  rintro e w2 ⟨q, c, ns, rfl, hns, hnc, ho, hc, hg⟩
  have HO2 : Hid (w2.ownsRow w1.heap.size 47 4 (.slice q ns.length c) ns.length (flat ns)) := ho
  have HR2 : Hid (Row w2 w.heap.size [.slice none 0 0]) := far_ne HR1.out hg (by omega)
  have HB2 : Hid (Below w.heap.size w w2) := below_grown HB1.out hg (by omega)
  have HC2 : Hid (Cur w2 g a n cap) := hc
  have hw12 := hg.size
  clear ho hc hg HR1 HB1 HC1
  go_wp2_with fail
  have HO3 : Hid ((w2.alloc (.cells #[.slice q ns.length c] 25)).ownsRow w1.heap.size 47 4 (.slice q ns.length c) ns.length (flat ns)) := owns_below HO2.out (low_alloc _ _)
  have HR3 : Hid (Row (w2.alloc (.cells #[.slice q ns.length c] 25)) w.heap.size [.slice none 0 0]) := HR2.out.below (low_alloc _ _)
  have HB3 : Hid (Below w.heap.size w (w2.alloc (.cells #[.slice q ns.length c] 25))) := behind_alloc HB2.out _
  have HC3 : Hid (Cur (w2.alloc (.cells #[.slice q ns.length c] 25)) g a n cap) := HC2.out.below (low_alloc _ _)
  have HP3 : Hid (Row (w2.alloc (.cells #[.slice q ns.length c] 25)) w2.heap.size [.slice q ns.length c]) := row_fresh w2 [.slice q ns.length c] 25
  generalize w2.alloc (.cells #[.slice q ns.length c] 25) = w3 at *
  have hP3 := HP3.out.lt
  have hgP : g < w2.heap.size := by omega
  generalize w2.heap.size = P at *
  clear HO2 HR2 HB2 HC2
  refine (l01Below_c g a n cap 110 (by decide) (by decide) _ HC3.out).mono ?_
  rintro e w4 ⟨t, rfl, ht0, ht1, hg, hc⟩
  have HO4 : Hid (w4.ownsRow w1.heap.size 47 4 (.slice q ns.length c) ns.length (flat ns)) := owns_drawn HO3.out hg hgl
  have HR4 : Hid (Row w4 w.heap.size [.slice none 0 0]) := far_ne HR3.out hg (by omega)
  have HB4 : Hid (Below w.heap.size w w4) := below_grown HB3.out hg (by omega)
  have HP4 : Hid (Row w4 P [.slice q ns.length c]) := HP3.out.far hg (fun e => by have := Option.some.inj e; omega)
  have HC4 : Hid (Cur w4 g a n cap) := hc
  clear hg hc HO3 HR3 HB3 HP3 HC3
  go_wp2_with fail
  refine (l01Below_c g a n cap 9 (by decide) (by decide) _ HC4.out).mono ?_
  rintro e w5 ⟨k, rfl, hk0, hk1, hg, hc⟩
  have HO5 : Hid (w5.ownsRow w1.heap.size 47 4 (.slice q ns.length c) ns.length (flat ns)) := owns_drawn HO4.out hg hgl
  have HR5 : Hid (Row w5 w.heap.size [.slice none 0 0]) := far_ne HR4.out hg (by omega)
  have HB5 : Hid (Below w.heap.size w w5) := below_grown HB4.out hg (by omega)
  have HP5 : Hid (Row w5 P [.slice q ns.length c]) := HP4.out.far hg (fun e => by have := Option.some.inj e; omega)
  have HC5 : Hid (Cur w5 g a n cap) := hc
  clear hg hc HO4 HR4 HB4 HP4 HC4
  have hne : P ≠ w.heap.size := by omega
  by_cases hk : k = 0
  · subst hk
    clear hk0 hk1
    go_wp2_with fail
    refine (l01Raw_c g a n cap _ HC5.out).mono ?_
    rintro e w6 ⟨x, rfl, hg, hc⟩
    have HO6 : Hid (w6.ownsRow w1.heap.size 47 4 (.slice q ns.length c) ns.length (flat ns)) := owns_drawn HO5.out hg hgl
    have HR6 : Hid (Row w6 w.heap.size [.slice none 0 0]) := far_ne HR5.out hg (by omega)
    have HB6 : Hid (Below w.heap.size w w6) := below_grown HB5.out hg (by omega)
    have HP6 : Hid (Row w6 P [.slice q ns.length c]) := HP5.out.far hg (fun e => by have := Option.some.inj e; omega)
    clear hg hc HO5 HR5 HB5 HP5 HC5
    have p0 := HP6.out.cell 0 _ rfl
    have r0 := HR6.out.cell 0 _ rfl
    have rf := HR6.out.free 0
    have HO7 : Hid ((w6.setCell ⟨w.heap.size, 0, none⟩ (.slice q ns.length c)).ownsRow w1.heap.size 47 4 (.slice q ns.length c) ns.length (flat ns)) := owns_set HO6.out (by omega)
    have HB7 : Hid (Below w.heap.size w (w6.setCell ⟨w.heap.size, 0, none⟩ (.slice q ns.length c))) := HB6.out.setCell (p := ⟨w.heap.size, 0, none⟩) (Nat.le_refl _) _
    go_wp2_with fail
    exact bodyPost_ret (v := .tuple #[.agg #[.slice q ns.length c], .int .i64 x]) (by simp [results, Try.results24, go_sem, *]) rfl ⟨q, c, ns, x, rfl, hns, hnc, (owns_cap HO7.out).2, HB7.out⟩
  · have e0 : (k == 0) = false := by simpa using hk
    have p0 := HP5.out.cell 0 _ rfl
    have r0 := HR5.out.cell 0 _ rfl
    have rf := HR5.out.free 0
    have HO7 : Hid ((w5.setCell ⟨w.heap.size, 0, none⟩ (.slice q ns.length c)).ownsRow w1.heap.size 47 4 (.slice q ns.length c) ns.length (flat ns)) := owns_set HO5.out (by omega)
    have HB7 : Hid (Below w.heap.size w (w5.setCell ⟨w.heap.size, 0, none⟩ (.slice q ns.length c))) := HB5.out.setCell (p := ⟨w.heap.size, 0, none⟩) (Nat.le_refl _) _
    go_wp2_with fail
    exact bodyPost_ret (v := .tuple #[.agg #[.slice q ns.length c], .int .i64 t]) (by simp [results, Try.results24, go_sem, *]) rfl ⟨q, c, ns, t, rfl, hns, hnc, (owns_cap HO7.out).2, HB7.out⟩
end Go.Proofs.Ytgpogglaffehcaa
