/- Draws of the laws on profiles. -/
import Derived.Test.YtdmgcbagijiohaaMgB
import Derived.Test.YtdmgcbagijiohaaMgA
import Derived.Deep.DeepCutAuto
import Derived.Deep.RegionWith
import Derived.Deep.RegionLaw
import Derived.Deep.AppendLies
namespace Go.Proofs.Ytdmgcbagijiohaa
open Go.ChangeShapes Go.WideShapes Go.ChangeAt Go.RowKit

set_option maxRecDepth 100000 in
set_option maxHeartbeats 8000000 in
theorem l03Any_c (g : Nat) (a : Option Addr) (n cap : Nat) (w : World) (h : Cur w g a n cap) :
    Calls Try.prog 33 #[.pointer (some ⟨g, 0, none⟩)] w fun e W' => ∃ q c ns, e = .returned (.agg #[.slice q (ns : List Nd).length c]) ∧ ns.length ≤ 201 ∧ ns.length ≤ c ∧ W'.ownsRow w.heap.size 80 4 (.slice q ns.length c) ns.length (flat ns) ∧ Cur W' g a n cap ∧ w.grownBy W' (some g) := by
  have HC : Hid (Cur w g a n cap) := h
  have hgl := h.lt
  clear h
  obtain ⟨i0, hi, hz0, hz1, hz2⟩ := info_parts infoPt
  go_enter Try.func33, Try.ntmps33
  go_wp2_with fail
  have HB0 : Hid (Below w.heap.size w (w.alloc (.cells #[.slice none 0 0] 25))) := low_alloc _ _
  have HR0 : Hid (Row (w.alloc (.cells #[.slice none 0 0] 25)) w.heap.size [.slice none 0 0]) := row_fresh w [.slice none 0 0] 25
  have hs0 : (w.alloc (.cells #[.slice none 0 0] 25)).heap.size = w.heap.size + 1 := by simp [go_sem]
  refine (l03Draw_c g a n cap _ (HC.out.below HB0.out)).mono ?_
  rintro e w1 ⟨v1, ns, rfl, hok, ho, hc, hg⟩
  have hfw := hok.few
  have hone := hok.one
  obtain ⟨a1, c1, hv1⟩ := owns_form ho
  subst hv1
  have hs1 := hg.size
  have HD1 : Hid (Dp w (w1.alloc (.cells #[.slice a1 ns.length c1] 25)) g a n cap w1.heap.size (.slice a1 ns.length c1) ns) := by
    rw [hs0] at ho
    have hg1 : w.grownBy w1 (some g) := ⟨hg.os.trans HB0.out.os, hg.tape.trans HB0.out.tape, hg.output.trans HB0.out.output, Nat.le_trans HB0.out.size hg.size, fun i hi hne => (hg.block i (Nat.lt_of_lt_of_le hi HB0.out.size) hne).trans (HB0.out.block i hi)⟩
    refine ⟨HC.out, hc.below (low_alloc _ _), Lib.grownBy_below hg1 (low_alloc _ _), (HR0.out.far hg (fun e => by have := Option.some.inj e; omega)).below (low_alloc _ _), row_fresh w1 [.slice a1 ns.length c1] 25, by omega, owns_below ho (low_alloc _ _), fun e => ?_⟩
    have := (ho.lt _ e).2
    omega
  clear ho hc hg HB0 HR0 hs0 hok
  go_wp2_with fail
  generalize w1.alloc (.cells #[.slice a1 ns.length c1] 25) = w2 at HD1
  generalize w1.heap.size = Bt at *
  refine (l01Below_c g a n cap 12 (by decide) (by decide) _ HD1.out.cur).mono ?_
  rintro e w3 ⟨k, rfl, hk0, hk1, hg, hc⟩
  have HD3 : Hid (Dp w w3 g a n cap Bt (.slice a1 ns.length c1) ns) := HD1.out.drawn hg hc
  clear hg hc HD1
  have b3 := HD3.out.box.cell 0 _ rfl
  have r3 := HD3.out.res.cell 0 _ rfl
  have rf3 := HD3.out.res.free 0
  rcases (by omega : k = 0 ∨ k = 1 ∨ k = 2 ∨ k = 3 ∨ 3 < k) with rfl | rfl | rfl | rfl | h5
  · clear hk0 hk1
    obtain ⟨gN, dN, hvN⟩ := HD3.out.block (by omega)
    cases hvN
    have HD4 : Hid (Dp w w3.drew g a n cap Bt (.slice (some ⟨gN, 0, none⟩) ns.length c1) ns) := HD3.out.below (low_drew _)
    go_wp2_with fail
    go_region_law (first
      | (go_simp; go_at_call_of 35 (Value.int IntKind.i64 (ns.length : Int)); refine (l01Below_c g a n cap ns.length (by omega) (by omega) w3.drew HD4.out.cur).mono ?_; rintro e w5 ⟨y, rfl, hy0, hy1, hg5, hc5⟩; obtain ⟨y', rfl⟩ : ∃ y' : Nat, y = y' := ⟨y.toNat, by omega⟩; have HD5 : Hid (Dp w w5 g a n cap Bt (.slice (some ⟨gN, 0, none⟩) ns.length c1) ns) := HD4.out.drawn hg5 hc5; have b5 := HD5.out.box.cell 0 _ rfl; clear hg5 hc5)
      | (go_simp; refine (l01Raw_c g a n cap w5 HD5.out.cur).mono ?_; rintro e w6 ⟨x, rfl, hg6, hc6⟩; have HD6 : Hid (Dp w w6 g a n cap Bt (.slice (some ⟨gN, 0, none⟩) ns.length c1) ns) := HD5.out.drawn hg6 hc6; have b6 := HD6.out.box.cell 0 _ rfl; obtain ⟨⟨z6, p6⟩, pf6⟩ := HD6.out.cellN (y' * 4) (by omega); clear hg6 hc6))
    all_goals
      obtain ⟨ns', hl', hd'⟩ := HD6.out.cell rfl (y' * 4) (by omega) x
      have HD7 : Hid (Dp w (w6.setCell ⟨gN, y' * 4, none⟩ (.int .i64 x)) g a n cap Bt (.slice (some ⟨gN, 0, none⟩) ns.length c1) ns') := hd'
      have hln : ns'.length ≤ 200 := by omega
      rw [← hl'] at HD7
      clear hd' hl' b3 b5 b6 p6 pf6 r3 rf3 HD3 HD4 HD5 HD6 hy0 hy1
      generalize w6.setCell ⟨gN, y' * 4, none⟩ (.int .i64 x) = w7 at *
      have b7 := HD7.out.box.cell 0 _ rfl
      have r7 := HD7.out.res.cell 0 _ rfl
      have rf7 := HD7.out.res.free 0
      obtain ⟨p, c, hv, hpc, d1, _, d3, d4, d5⟩ := HD7.out.done
      cases hv
      go_wp2_with fail
      exact bodyPost_ret (v := .agg #[.slice (some ⟨gN, 0, none⟩) ns'.length c1]) (by simp [results, Try.results33, go_sem, *]) rfl ⟨_, _, ns', rfl, by omega, hpc, owns_mono d3 (Nat.le_succ _), d4, d5⟩
  · clear hk0 hk1
    obtain ⟨gN, dN, hvN⟩ := HD3.out.block (by omega)
    cases hvN
    have HD4 : Hid (Dp w w3.drew g a n cap Bt (.slice (some ⟨gN, 0, none⟩) ns.length c1) ns) := HD3.out.below (low_drew _)
    go_wp2_with fail
    go_region_law (first
      | (go_simp; go_at_call_of 35 (Value.int IntKind.i64 (ns.length : Int)); refine (l01Below_c g a n cap ns.length (by omega) (by omega) w3.drew HD4.out.cur).mono ?_; rintro e w5 ⟨y, rfl, hy0, hy1, hg5, hc5⟩; obtain ⟨y', rfl⟩ : ∃ y' : Nat, y = y' := ⟨y.toNat, by omega⟩; have HD5 : Hid (Dp w w5 g a n cap Bt (.slice (some ⟨gN, 0, none⟩) ns.length c1) ns) := HD4.out.drawn hg5 hc5; have b5 := HD5.out.box.cell 0 _ rfl; clear hg5 hc5)
      | (go_simp; refine (l01Any_c g a n cap w5 HD5.out.cur).mono ?_; rintro e w6 ⟨x1, x2, x3, rfl, hg6, hc6⟩; have HD6 : Hid (Dp w w6 g a n cap Bt (.slice (some ⟨gN, 0, none⟩) ns.length c1) ns) := HD5.out.drawn hg6 hc6; have b6 := HD6.out.box.cell 0 _ rfl; obtain ⟨⟨z1, p1⟩, pf1⟩ := HD6.out.cellN (y' * 4 + 1) (by omega); obtain ⟨⟨z2, p2⟩, pf2⟩ := HD6.out.cellN (y' * 4 + 2) (by omega); obtain ⟨⟨z3, p3⟩, pf3⟩ := HD6.out.cellN (y' * 4 + 3) (by omega); clear hg6 hc6))
    all_goals
      obtain ⟨n1, hl1, hd1⟩ := HD6.out.cell rfl (y' * 4 + 1) (by omega) x1
      rw [← hl1] at hd1
      obtain ⟨n2, hl2, hd2⟩ := hd1.cell rfl (y' * 4 + 2) (by omega) x2
      rw [← hl2] at hd2
      obtain ⟨n3, hl3, hd3⟩ := hd2.cell rfl (y' * 4 + 3) (by omega) x3
      rw [← hl3] at hd3
      have HD7 : Hid (Dp w (((w6.setCell ⟨gN, y' * 4 + 1, none⟩ (.int .i64 x1)).setCell ⟨gN, y' * 4 + 2, none⟩ (.int .i64 x2)).setCell ⟨gN, y' * 4 + 3, none⟩ (.int .i64 x3)) g a n cap Bt (.slice (some ⟨gN, 0, none⟩) n3.length c1) n3) := hd3
      have hln : n3.length ≤ 200 := by omega
      clear hd1 hd2 hd3 hl1 hl2 hl3 b3 b5 b6 p1 pf1 p2 pf2 p3 pf3 r3 rf3 HD3 HD4 HD5 HD6 hy0 hy1
      generalize ((w6.setCell ⟨gN, y' * 4 + 1, none⟩ (.int .i64 x1)).setCell ⟨gN, y' * 4 + 2, none⟩ (.int .i64 x2)).setCell ⟨gN, y' * 4 + 3, none⟩ (.int .i64 x3) = w7 at *
      have b7 := HD7.out.box.cell 0 _ rfl
      have r7 := HD7.out.res.cell 0 _ rfl
      have rf7 := HD7.out.res.free 0
      obtain ⟨p, c, hv, hpc, d1, _, d3, d4, d5⟩ := HD7.out.done
      cases hv
      go_wp2_with fail
      exact bodyPost_ret (v := .agg #[.slice (some ⟨gN, 0, none⟩) n3.length c1]) (by simp [results, Try.results33, go_sem, *]) rfl ⟨_, _, n3, rfl, by omega, hpc, owns_mono d3 (Nat.le_succ _), d4, d5⟩
  · clear hk0 hk1
    obtain ⟨gN, dN, hvN⟩ := HD3.out.block (by omega)
    cases hvN
    obtain ⟨k, hkl⟩ : ∃ k, ns.length = k + 1 := ⟨ns.length - 1, by omega⟩
    have hkn : k < ns.length := by omega
    have n0 : w3.cell? ⟨gN, k * 4, none⟩ = some (.int .i64 ns[k].l) := by rw [HD3.out.own.cellAt (k * 4) (by omega)]; exact flat_get ns k 0 hkn (by decide)
    have n1 : w3.cell? ⟨gN, k * 4 + 1, none⟩ = some (.int .i64 ns[k].a) := by rw [HD3.out.own.cellAt (k * 4 + 1) (by omega)]; exact flat_get ns k 1 hkn (by decide)
    have n2 : w3.cell? ⟨gN, k * 4 + 2, none⟩ = some (.int .i64 ns[k].b) := by rw [HD3.out.own.cellAt (k * 4 + 2) (by omega)]; exact flat_get ns k 2 hkn (by decide)
    have n3 : w3.cell? ⟨gN, k * 4 + 3, none⟩ = some (.int .i64 ns[k].c) := by rw [HD3.out.own.cellAt (k * 4 + 3) (by omega)]; exact flat_get ns k 3 hkn (by decide)
    generalize ns[k] = l0 at *
    have HD4 : Hid (Dp w (w3.alloc (.cells #[.int .i64 l0.l, .int .i64 l0.a, .int .i64 l0.b, .int .i64 l0.c] 80)).drew g a n cap Bt (.slice (some ⟨gN, 0, none⟩) ns.length c1) ns) := (HD3.out.below (low_alloc _ _)).below (low_drew _)
    have hB3 := HD3.out.box.lt
    have hB4 : Bt ≠ w3.heap.size := by omega
    have hw3 : w.heap.size + 1 ≤ w3.heap.size := by have := HD3.out.bt; omega
    have hki : (ns.length : Int) - 1 = (k : Int) := by omega
    have hwk : IntKind.i64.wrap (k : Int) = (k : Int) := by rw [IntKind.wrap_i64]; omega
    have hk0 : (0 : Int) ≤ (k : Int) := by omega
    have hk1 : (k : Int) < (ns.length : Int) := by omega
    have k0 := cells4' w3 80 (.int .i64 l0.l) (.int .i64 l0.a) (.int .i64 l0.b) (.int .i64 l0.c)
    have k1 : ∀ u ∈ ([.int .i64 l0.l, .int .i64 l0.a, .int .i64 l0.b, .int .i64 l0.c] : List Value), u.oneCell' = true := by simp [Value.oneCell']
    have k2 : ns.length + 1 ≤ maxLen := by unfold maxLen; omega
    have k3 : (ns.length + 1) * 32 ≤ 140737488355328 := by omega
    have k4 : w.heap.size + 1 ≤ (w3.alloc (.cells #[.int .i64 l0.l, .int .i64 l0.a, .int .i64 l0.b, .int .i64 l0.c] 80)).drew.heap.size := Nat.le_trans hw3 (low_alloc w3 _).size
    have k5 : (w3.alloc (.cells #[.int .i64 l0.l, .int .i64 l0.a, .int .i64 l0.b, .int .i64 l0.c] 80)).drew.heap.size = w3.heap.size + 1 := by simp [go_sem]
    have hfn : ns.length ≤ 200 := hfw
    clear hkl
    go_wp2_with fail
    go_region_law (refine step_append_lies _ rfl _ _ 23 rfl (w.heap.size + 1) 80 i0 (.agg #[.int .i64 0, .int .i64 0, .int .i64 0, .int .i64 0]) 4 32 Try.underlying23 hi hz0 hz1 hz2 rfl (by decide) (.slice (some ⟨gN, 0, none⟩) ns.length c1) ns.length (flat ns) rfl HD4.out.own ⟨w3.heap.size, 0, none⟩ 1 1 [.int .i64 l0.l, .int .i64 l0.a, .int .i64 l0.b, .int .i64 l0.c] rfl rfl k0 k1 Nat.one_pos k2 k3 k4 (w3.heap.size + 1) k5 ?_; intro gq cq w11 hown hgrow hat _; obtain ⟨t1, t2⟩ := HD4.out.add l0 hown hgrow (hat.elim (fun e => Or.inl e.symm) (fun e => Or.inr ((congrArg some e).trans (congrArg some k5.symm)))); have s1 := t1.cell 0 _ rfl; have sf1 := t1.free 0; have HD7 : Hid (Dp w (w11.setCell ⟨Bt, 0, none⟩ (.slice (some ⟨gq, 0, none⟩) (ns.length + 1) cq)) g a n cap Bt (.slice (some ⟨gq, 0, none⟩) (ns.length + 1) cq) (ns ++ [l0])) := t2; clear t1 t2 hown hgrow hat)
    all_goals
      try go_simp
      have b7 := HD7.out.box.cell 0 _ rfl
      have r7 := HD7.out.res.cell 0 _ rfl
      have rf7 := HD7.out.res.free 0
      obtain ⟨p, c, hv, hpc, d1, _, d3, d4, d5⟩ := HD7.out.done
      have hlen : (ns ++ [l0]).length = ns.length + 1 := by simp
      rw [hlen] at hv hpc d3
      cases hv
      generalize w11.setCell ⟨Bt, 0, none⟩ (.slice (some ⟨gq, 0, none⟩) (ns.length + 1) cq) = w7 at *
      go_wp2_with fail
      exact bodyPost_ret (v := .agg #[.slice (some ⟨gq, 0, none⟩) (ns.length + 1) cq]) (by simp [results, Try.results33, go_sem, *]) rfl ⟨_, _, ns ++ [l0], by rw [hlen], by omega, by omega, by rw [hlen]; exact owns_mono d3 (Nat.le_succ _), d4, d5⟩
  · clear hk0 hk1
    have hbf := HD3.out.box.free 0
    have HD4 : Hid (Dp w (w3.setCell ⟨Bt, 0, none⟩ (.slice none 0 0)) g a n cap Bt (.slice none 0 0) []) := HD3.out.put (ns' := []) (B := Bt + 1) (owns_nil _ _ _) (by omega)
    obtain ⟨p, c, hv, hpc, d1, _, d3, d4, d5⟩ := HD4.out.done
    cases hv
    have hbw := HD3.out.bt
    have hn1 : w.heap.size ≠ Bt := by omega
    have hn2 : Bt ≠ w.heap.size := by omega
    go_wp2_with fail
    exact bodyPost_ret (v := .agg #[.slice none 0 0]) (by simp [results, Try.results33, go_sem, *]) rfl ⟨none, 0, [], rfl, by simp, by simp, owns_mono d3 (Nat.le_succ _), d4, d5⟩
  · have e0 : (k == 0) = false := by simp; omega
    have e1 : (k == 1) = false := by simp; omega
    have e2 : (k == 2) = false := by simp; omega
    have e3 : (k == 3) = false := by simp; omega
    obtain ⟨p, c, hv, hpc, d1, _, d3, d4, d5⟩ := HD3.out.done
    cases hv
    go_wp2_with fail
    exact bodyPost_ret (v := .agg #[.slice a1 ns.length c1]) (by simp [results, Try.results33, go_sem, *]) rfl ⟨_, _, ns, rfl, by omega, hpc, owns_mono d3 (Nat.le_succ _), d4, d5⟩
end Go.Proofs.Ytdmgcbagijiohaa

namespace Go.Proofs.Ytdmgcbagijiohaa
open Go.ChangeShapes Go.WideShapes Go.ChangeAt Go.RowKit

set_option maxHeartbeats 2000000 in
theorem l03Span_c (g : Nat) (a : Option Addr) (n cap : Nat) (w : World) (h : Cur w g a n cap) :
    Calls Try.prog 34 #[.pointer (some ⟨g, 0, none⟩)] w fun e w' => ∃ f t : Int, e = .returned (.tuple #[.int .i64 f, .int .i64 t]) ∧ w.grownBy w' (some g) ∧ Cur w' g a n cap := by
  have H : Hid (Cur w g a n cap) := h
  clear h
  go_enter Try.func34, Try.ntmps34
  go_wp2_with fail
  refine (l01Below_c g a n cap 80 (by decide) (by decide) _ H.out).mono ?_
  rintro e w1 ⟨x, rfl, hx0, hx1, hg, hc⟩
  have HG1 : Hid (w.grownBy w1 (some g)) := hg
  have HC1 : Hid (Cur w1 g a n cap) := hc
  clear hg hc
  go_wp2_with fail
  refine (l01Below_c g a n cap 50 (by decide) (by decide) _ HC1.out).mono ?_
  rintro e w2 ⟨y, rfl, hy0, hy1, hg, hc⟩
  have HG2 : Hid (w.grownBy w2 (some g)) := Lib.grownBy_trans HG1.out hg
  have HC2 : Hid (Cur w2 g a n cap) := hc
  clear hg hc HG1 HC1
  go_wp2_with fail
  refine (l01Below_c g a n cap 12 (by decide) (by decide) _ HC2.out).mono ?_
  rintro e w3 ⟨k, rfl, hk0, hk1, hg, hc⟩
  have HG3 : Hid (w.grownBy w3 (some g)) := Lib.grownBy_trans HG2.out hg
  have HC3 : Hid (Cur w3 g a n cap) := hc
  clear hg hc HG2 HC2
  rcases (by omega : k = 0 ∨ k = 1 ∨ k = 2 ∨ 2 < k) with rfl | rfl | rfl | h5
  · clear hk0 hk1
    go_wp2_with fail
    refine (l01Raw_c g a n cap _ HC3.out).mono ?_
    rintro e w6 ⟨x6, rfl, hg, hc⟩
    have HG6 : Hid (w.grownBy w6 (some g)) := Lib.grownBy_trans HG3.out hg
    have HC6 : Hid (Cur w6 g a n cap) := hc
    clear hg hc
    go_wp2_with fail
    go_ret2
    exact ⟨_, _, rfl, HG6.out, HC6.out⟩
  · clear hk0 hk1
    go_wp2_with fail
    refine (l01Raw_c g a n cap _ HC3.out).mono ?_
    rintro e w6 ⟨x6, rfl, hg, hc⟩
    have HG6 : Hid (w.grownBy w6 (some g)) := Lib.grownBy_trans HG3.out hg
    have HC6 : Hid (Cur w6 g a n cap) := hc
    clear hg hc
    go_wp2_with fail
    go_ret2
    exact ⟨_, _, rfl, HG6.out, HC6.out⟩
  · clear hk0 hk1
    go_wp2_with fail
    go_ret2
    exact ⟨_, _, rfl, HG3.out, HC3.out⟩
  · have e0 : (k == 0) = false := by simp; omega
    have e1 : (k == 1) = false := by simp; omega
    have e2 : (k == 2) = false := by simp; omega
    go_wp2_with fail
    go_ret2
    exact ⟨_, _, rfl, HG3.out, HC3.out⟩
end Go.Proofs.Ytdmgcbagijiohaa

namespace Go.Proofs.Ytdmgcbagijiohaa
open Go.ChangeShapes Go.WideShapes Go.ChangeAt Go.RowKit

theorem owns_drawn {w w' : World} {B n g : Nat} {t : TypeId} {v : Value} {xs : List Value} (h : w.ownsRow B t 4 v n xs) (hg : w.grownBy w' (some g)) (hl : g < B) : w'.ownsRow B t 4 v n xs := h.kept hg (.inr (fun e => by have := (h.lt g e).1; omega))
theorem owns_cap {w : World} {B n c : Nat} {t : TypeId} {q : Option Addr} {xs : List Value} (h : w.ownsRow B t 4 (.slice q n c) n xs) : n ≤ c ∧ Sq w q xs := by
  refine ⟨?_, ?_⟩
  · rcases h.2 with ⟨h1, h2⟩ | ⟨g', cap', cur, h', _, _, hnc, _⟩
    · omega
    · cases h'; exact hnc
  · obtain ⟨a, c, hv, hs⟩ := (AnsP.of_owns h).form
    cases hv
    exact hs

end Go.Proofs.Ytdmgcbagijiohaa
