/- Any topology drawn. -/
import Derived.Test.YtcjamjfdkpgjkaaDrB
import Derived.Test.YtcjamjfdkpgjkaaDrN
import Derived.Test.YtcjamjfdkpgjkaaCurD
import Derived.Deep.DeepCutAuto
import Derived.Deep.Light
import Derived.Deep.RegionLaw
namespace Go.Proofs.Ytcjamjfdkpgjkaa
open Go.ChangeShapes Go.WideShapes Go.ChangeAt Go.RowKit

theorem cells1 (W : World) (t : TypeId) (x : Value) : ∀ (j : Nat) (v : Value), [x][j]? = some v → (W.alloc (.cells #[x] t)).cell? ((⟨W.heap.size, 0, none⟩ : Addr).add j) = some v := fun j v h => by
  have h2 := (row_fresh W [x] t).cell j v h
  rw [show ((⟨W.heap.size, 0, none⟩ : Addr).add j) = ⟨W.heap.size, j, none⟩ by unfold Addr.add; by_cases e : j = 0 <;> simp [e]]
  exact h2

set_option maxRecDepth 100000 in
set_option maxHeartbeats 8000000 in
theorem l02Any_c (g : Nat) (a : Option Addr) (n cap : Nat) (w : World) (h : Cur w g a n cap) :
    Calls Try.prog 12 #[.pointer (some ⟨g, 0, none⟩)] w fun e W' => ∃ vP ps vN ns, e = .returned (.agg #[vP, vN]) ∧ ps.length ≤ 19 ∧ ns.length ≤ 10 ∧
      W'.ownsRow w.heap.size 3 1 vP ps.length (ints ps) ∧ W'.ownsRow w.heap.size 35 4 vN ns.length (flat ns) ∧ Cur W' g a n cap ∧ w.grownBy W' (some g) := by
  have HC : Hid (Cur w g a n cap) := h
  have hgl := h.lt
  clear h
  obtain ⟨i0, hi, hz0, hz1, hz2⟩ := info_parts infoInt
  go_enter Try.func12, Try.ntmps12
  go_wp2_with fail
  have HB0 : Hid (Below w.heap.size w (w.alloc (.cells #[.slice none 0 0, .slice none 0 0] 26))) := low_alloc _ _
  refine (l02Draw_c g a n cap (w.alloc (.cells #[.slice none 0 0, .slice none 0 0] 26)) (HC.out.below HB0.out)).mono ?_
  rintro e w1 ⟨gp, cp, ps, vN, ns, rfl, hp1, hp2, hn, hop, hon, hc, hg⟩
  obtain ⟨bN, dN, rfl⟩ : ∃ bN dN, vN = .slice bN ns.length dN := by
    rcases hon.2 with ⟨h1, h2⟩ | ⟨g', cap', cur, h', _⟩
    · first | exact ⟨none, 0, by rw [h1, h2]⟩ | exact ⟨none, 0, by rw [h2, h1]⟩
    · exact ⟨_, _, h'⟩
  have HD1 : Hid (Dw w (w1.alloc (.cells #[.slice (some ⟨gp, 0, none⟩) ps.length cp, .slice bN ns.length dN] 26)) g a n cap w1.heap.size gp cp ps (.slice bN ns.length dN) ns) :=
    Dw.begin HC.out ((Box2.new w 26 _ _).kept hg (by intro e; have := Option.some.inj e; omega)) ⟨hg.os.trans HB0.out.os, hg.tape.trans HB0.out.tape, hg.output.trans HB0.out.output, Nat.le_trans HB0.out.size hg.size, fun i hi hne => (hg.block i (Nat.lt_of_lt_of_le hi HB0.out.size) hne).trans (HB0.out.block i hi)⟩ hc (owns_mono hop (by simp)) (owns_mono hon (by simp))
  clear hop hon hc hg HB0
  go_wp2_with fail
  generalize w1.alloc (.cells #[.slice (some ⟨gp, 0, none⟩) ps.length cp, .slice bN ns.length dN] 26) = w2 at HD1
  refine (l01Below_c g a n cap 14 (by decide) (by decide) w2 HD1.out.cur).mono ?_
  rintro e w3 ⟨k, rfl, hk0, hk1, hg, hc⟩
  have HD3 : Hid (Dw w w3 g a n cap w1.heap.size gp cp ps (.slice bN ns.length dN) ns) := HD1.out.drawn hg hc
  clear hg hc HD1
  generalize w1.heap.size = Bt at HD3
  by_cases h5 : 5 ≤ k
  · have e0 : (k == 0) = false := by simp; omega
    have e1 : (k == 1) = false := by simp; omega
    have e2 : (k == 2) = false := by simp; omega
    have e3 : (k == 3) = false := by simp; omega
    have e4 : (k == 4) = false := by simp; omega
    have b0 := HD3.out.box.cell0
    have b1 := HD3.out.box.cell1
    have r0 := HD3.out.res.cell0
    have r1 := HD3.out.res.cell1
    have rf0 := HD3.out.res.frozen 0
    have rf1 := HD3.out.res.frozen 1
    obtain ⟨d1, d2, d3, d4, d5⟩ := HD3.out.done
    have c0 := d1.cell0
    have c1 := d1.cell1
    go_wp2_with fail
    exact bodyPost_ret (v := .agg #[.slice (some ⟨gp, 0, none⟩) ps.length cp, .slice bN ns.length dN]) (by simp [results, Try.results12, go_sem, c0, c1]) rfl ⟨_, ps, _, ns, rfl, by omega, hn, d2, d3, d4, d5⟩
  · obtain rfl | rfl | rfl | rfl | rfl : k = 0 ∨ k = 1 ∨ k = 2 ∨ k = 3 ∨ k = 4 := by omega
    · clear h5 hk0 hk1
      have b3 := HD3.out.box.cell0
      have HD4 : Hid (Dw w w3.drew g a n cap Bt gp cp ps (.slice bN ns.length dN) ns) := HD3.out.below ⟨rfl, rfl, rfl, Nat.le_refl _, fun _ _ => rfl⟩
      go_wp2_with fail
      go_region_law (first
        | (go_simp; go_at_call_of 25 (Value.int IntKind.i64 (ps.length : Int)); refine (l01Below_c g a n cap ps.length (by omega) (by omega) w3.drew HD4.out.cur).mono ?_; rintro e w5 ⟨y, rfl, hy0, hy1, hg5, hc5⟩; obtain ⟨y', rfl⟩ : ∃ y' : Nat, y = y' := ⟨y.toNat, by omega⟩; have HD5 : Hid (Dw w w5 g a n cap Bt gp cp ps (.slice bN ns.length dN) ns) := HD4.out.drawn hg5 hc5; have b5 := HD5.out.box.cell0; clear hg5 hc5)
        | (go_simp; refine (l01Raw_c g a n cap w5 HD5.out.cur).mono ?_; rintro e w6 ⟨x, rfl, hg6, hc6⟩; have HD6 : Hid (Dw w w6 g a n cap Bt gp cp ps (.slice bN ns.length dN) ns) := HD5.out.drawn hg6 hc6; have b6 := HD6.out.box.cell0; have hr7 := HD6.out.rowP hp1; have p6 := hr7.cell y' _ (ints_at ps y' (by omega)); have pf6 := hr7.free y'; clear hg6 hc6 hr7))
      all_goals
        have HD7 : Hid (Dw w (w6.setCell ⟨gp, y', none⟩ (.int .i64 x)) g a n cap Bt gp cp (ps.set y' x) (.slice bN ns.length dN) ns) := HD6.out.setPar y' x
        have hql : (ps.set y' x).length ≤ 18 := by simpa using hp2
        clear b3 b5 b6 p6 pf6 HD3 HD4 HD5 HD6 hy0 hy1
        generalize w6.setCell ⟨gp, y', none⟩ (.int .i64 x) = w7 at *
        generalize ps.set y' x = qs at *
        have b0 := HD7.out.box.cell0
        have b1 := HD7.out.box.cell1
        have r0 := HD7.out.res.cell0
        have r1 := HD7.out.res.cell1
        have rf0 := HD7.out.res.frozen 0
        have rf1 := HD7.out.res.frozen 1
        obtain ⟨d1, d2, d3, d4, d5⟩ := HD7.out.done
        have c0 := d1.cell0
        have c1 := d1.cell1
        go_wp2_with fail
        exact bodyPost_ret (v := .agg #[.slice (some ⟨gp, 0, none⟩) qs.length cp, .slice bN ns.length dN]) (by simp [results, Try.results12, go_sem, c0, c1]) rfl ⟨_, qs, _, ns, rfl, by omega, by omega, d2, d3, d4, d5⟩
    · clear h5 hk0 hk1
      by_cases hn0 : ns.length = 0
      · have hni : ¬ (0 : Int) < (ns.length : Int) := by omega
        clear hn0
        have b0 := HD3.out.box.cell0
        have b1 := HD3.out.box.cell1
        have r0 := HD3.out.res.cell0
        have r1 := HD3.out.res.cell1
        have rf0 := HD3.out.res.frozen 0
        have rf1 := HD3.out.res.frozen 1
        obtain ⟨d1, d2, d3, d4, d5⟩ := HD3.out.done
        have c0 := d1.cell0
        have c1 := d1.cell1
        go_wp2_with fail
        exact bodyPost_ret (v := .agg #[.slice (some ⟨gp, 0, none⟩) ps.length cp, .slice bN ns.length dN]) (by simp [results, Try.results12, go_sem, c0, c1]) rfl ⟨_, ps, _, ns, rfl, by omega, by omega, d2, d3, d4, d5⟩
      · have hni : (0 : Int) < (ns.length : Int) := by omega
        obtain ⟨gN, rfl⟩ : ∃ gN, bN = some ⟨gN, 0, none⟩ := by
          rcases HD3.out.nod.2 with ⟨h1, h2⟩ | ⟨g', cap', cur, h', _⟩
          · omega
          · cases h'; exact ⟨_, rfl⟩
        have b3 := HD3.out.box.cell1
        have HD4 : Hid (Dw w w3.drew g a n cap Bt gp cp ps (.slice (some ⟨gN, 0, none⟩) ns.length dN) ns) := HD3.out.below ⟨rfl, rfl, rfl, Nat.le_refl _, fun _ _ => rfl⟩
        go_wp2_with fail
        go_region_law (go_simp; refine (l01Raw_c g a n cap w3.drew HD4.out.cur).mono ?_; rintro e w5 ⟨x, rfl, hg5, hc5⟩; have HD5 : Hid (Dw w w5 g a n cap Bt gp cp ps (.slice (some ⟨gN, 0, none⟩) ns.length dN) ns) := HD4.out.drawn hg5 hc5; have b5 := HD5.out.box.cell1; obtain ⟨z0, p0⟩ := HD5.out.cellN (by omega) 0 (by decide); have pf0 := HD5.out.nod.frozenAt 0; clear hg5 hc5)
        all_goals
          obtain ⟨ns', hl, hd⟩ := HD5.out.node0 (by omega) x
          have HD7 : Hid (Dw w (w5.setCell ⟨gN, 0, none⟩ (.int .i64 x)) g a n cap Bt gp cp ps (.slice (some ⟨gN, 0, none⟩) ns'.length dN) ns') := hd
          have hn' : ns'.length ≤ 10 := by have := hl.out; omega
          clear b3 b5 HD3 HD4 HD5 hd hl p0 pf0
          generalize w5.setCell ⟨gN, 0, none⟩ (.int .i64 x) = w7 at *
          have b0 := HD7.out.box.cell0
          have b1 := HD7.out.box.cell1
          have r0 := HD7.out.res.cell0
          have r1 := HD7.out.res.cell1
          have rf0 := HD7.out.res.frozen 0
          have rf1 := HD7.out.res.frozen 1
          obtain ⟨d1, d2, d3, d4, d5⟩ := HD7.out.done
          have c0 := d1.cell0
          have c1 := d1.cell1
          go_wp2_with fail
          exact bodyPost_ret (v := .agg #[.slice (some ⟨gp, 0, none⟩) ps.length cp, .slice (some ⟨gN, 0, none⟩) ns'.length dN]) (by simp [results, Try.results12, go_sem, c0, c1]) rfl ⟨_, ps, _, ns', rfl, by omega, by omega, d2, d3, d4, d5⟩
    · clear h5 hk0 hk1
      by_cases hn0 : ns.length = 0
      · have hni : ¬ (0 : Int) < (ns.length : Int) := by omega
        clear hn0
        have b0 := HD3.out.box.cell0
        have b1 := HD3.out.box.cell1
        have r0 := HD3.out.res.cell0
        have r1 := HD3.out.res.cell1
        have rf0 := HD3.out.res.frozen 0
        have rf1 := HD3.out.res.frozen 1
        obtain ⟨d1, d2, d3, d4, d5⟩ := HD3.out.done
        have c0 := d1.cell0
        have c1 := d1.cell1
        go_wp2_with fail
        exact bodyPost_ret (v := .agg #[.slice (some ⟨gp, 0, none⟩) ps.length cp, .slice bN ns.length dN]) (by simp [results, Try.results12, go_sem, c0, c1]) rfl ⟨_, ps, _, ns, rfl, by omega, by omega, d2, d3, d4, d5⟩
      · have hni : (0 : Int) < (ns.length : Int) := by omega
        obtain ⟨gN, rfl⟩ : ∃ gN, bN = some ⟨gN, 0, none⟩ := by
          rcases HD3.out.nod.2 with ⟨h1, h2⟩ | ⟨g', cap', cur, h', _⟩
          · omega
          · cases h'; exact ⟨_, rfl⟩
        have b3 := HD3.out.box.cell1
        have HD4 : Hid (Dw w w3.drew g a n cap Bt gp cp ps (.slice (some ⟨gN, 0, none⟩) ns.length dN) ns) := HD3.out.below ⟨rfl, rfl, rfl, Nat.le_refl _, fun _ _ => rfl⟩
        go_wp2_with fail
        go_region_law (go_simp; refine (l01Any_c g a n cap w3.drew HD4.out.cur).mono ?_; rintro e w5 ⟨x, y, z, rfl, hg5, hc5⟩; have HD5 : Hid (Dw w w5 g a n cap Bt gp cp ps (.slice (some ⟨gN, 0, none⟩) ns.length dN) ns) := HD4.out.drawn hg5 hc5; have b5 := HD5.out.box.cell1; obtain ⟨z1, p1⟩ := HD5.out.cellN (by omega) 1 (by decide); have pf1 := HD5.out.nod.frozenAt 1; obtain ⟨z2, p2⟩ := HD5.out.cellN (by omega) 2 (by decide); have pf2 := HD5.out.nod.frozenAt 2; obtain ⟨z3, p3⟩ := HD5.out.cellN (by omega) 3 (by decide); have pf3 := HD5.out.nod.frozenAt 3; clear hg5 hc5)
        all_goals
          obtain ⟨ns', hl, hd⟩ := HD5.out.nodeCap (by omega) x y z
          have HD7 : Hid (Dw w (((w5.setCell ⟨gN, 1, none⟩ (.int .i64 x)).setCell ⟨gN, 2, none⟩ (.int .i64 y)).setCell ⟨gN, 3, none⟩ (.int .i64 z)) g a n cap Bt gp cp ps (.slice (some ⟨gN, 0, none⟩) ns'.length dN) ns') := hd
          have hn' : ns'.length ≤ 10 := by have := hl.out; omega
          clear b3 b5 HD3 HD4 HD5 hd hl p1 pf1 p2 pf2 p3 pf3
          generalize ((w5.setCell ⟨gN, 1, none⟩ (.int .i64 x)).setCell ⟨gN, 2, none⟩ (.int .i64 y)).setCell ⟨gN, 3, none⟩ (.int .i64 z) = w7 at *
          have b0 := HD7.out.box.cell0
          have b1 := HD7.out.box.cell1
          have r0 := HD7.out.res.cell0
          have r1 := HD7.out.res.cell1
          have rf0 := HD7.out.res.frozen 0
          have rf1 := HD7.out.res.frozen 1
          obtain ⟨d1, d2, d3, d4, d5⟩ := HD7.out.done
          have c0 := d1.cell0
          have c1 := d1.cell1
          go_wp2_with fail
          exact bodyPost_ret (v := .agg #[.slice (some ⟨gp, 0, none⟩) ps.length cp, .slice (some ⟨gN, 0, none⟩) ns'.length dN]) (by simp [results, Try.results12, go_sem, c0, c1]) rfl ⟨_, ps, _, ns', rfl, by omega, by omega, d2, d3, d4, d5⟩
    · clear h5 hk0 hk1
      have b3 := HD3.out.box.cell0
      have HD4 : Hid (Dw w w3.drew g a n cap Bt gp cp ps (.slice bN ns.length dN) ns) := HD3.out.below ⟨rfl, rfl, rfl, Nat.le_refl _, fun _ _ => rfl⟩
      go_wp2_with fail
      go_region_law (first
        | (refine step_append_lies _ rfl _ _ 23 rfl w.heap.size 3 i0 (.int .i64 0) 1 8 Try.underlying23 hi hz0 hz1 hz2 rfl (by decide) (.slice (some ⟨gp, 0, none⟩) ps.length cp) ps.length (ints ps) rfl (HD5.out.par.alloc _) ⟨w5.heap.size, 0, none⟩ 1 1 [.int .i64 y] rfl rfl (cells1 _ _ _) (by simp [Value.oneCell']) (by decide) (by unfold maxLen; omega) (by omega) (by have := HD5.out.grown.size; simp; omega) (w5.heap.size + 1) (by simp) ?_; intro gq cq w7 hown hgrow hat _; obtain ⟨e1, hd7, _⟩ := (HD5.out.below (low_alloc w5 (.cells #[.int .i64 y] 3))).parent y hown hgrow (by simpa [Value.ownBlock] using hat); have t0 := e1.cell0; have tf0 := e1.frozen 0; have HD7 : Hid (Dw w (w7.setCell ⟨Bt, 0, none⟩ (.slice (some ⟨gq, 0, none⟩) (ps.length + 1) cq)) g a n cap Bt gq cq (ps ++ [y]) (.slice bN ns.length dN) ns) := hd7; clear hown hgrow hat e1 hd7)
        | (go_simp; go_at_call_of 25 (Value.int IntKind.i64 (ps.length : Int)); refine (l01Below_c g a n cap ps.length (by omega) (by omega) w3.drew HD4.out.cur).mono ?_; rintro e w5 ⟨y, rfl, hy0, hy1, hg5, hc5⟩; have HD5 : Hid (Dw w w5 g a n cap Bt gp cp ps (.slice bN ns.length dN) ns) := HD4.out.drawn hg5 hc5; have b5 := HD5.out.box.cell0; have HDa := HD5.out.below (low_alloc w5 (.cells #[.int .i64 y] 3)); have ba := HDa.box.cell0; clear HDa; clear hg5 hc5))
      all_goals
        have hql : (ps ++ [y]).length ≤ 19 := by simp; omega
        clear b3 b5 ba t0 tf0 HD3 HD4 HD5 hy0 hy1
        generalize w7.setCell ⟨Bt, 0, none⟩ (.slice (some ⟨gq, 0, none⟩) (ps.length + 1) cq) = w8 at *
        generalize ps ++ [y] = qs at *
        have b0 := HD7.out.box.cell0
        have b1 := HD7.out.box.cell1
        have r0 := HD7.out.res.cell0
        have r1 := HD7.out.res.cell1
        have rf0 := HD7.out.res.frozen 0
        have rf1 := HD7.out.res.frozen 1
        obtain ⟨d1, d2, d3, d4, d5⟩ := HD7.out.done
        have c0 := d1.cell0
        have c1 := d1.cell1
        go_wp2_with fail
        exact bodyPost_ret (v := .agg #[.slice (some ⟨gq, 0, none⟩) qs.length cq, .slice bN ns.length dN]) (by simp [results, Try.results12, go_sem, c0, c1]) rfl ⟨_, qs, _, ns, rfl, by omega, by omega, d2, d3, d4, d5⟩
    · clear h5 hk0 hk1
      have b3 := HD3.out.box.cell0
      have f3 := HD3.out.box.frozen 0
      obtain ⟨v1, v2, d1, d3, d4, d5⟩ := HD3.out.bare
      have b0 := v1.cell0
      have b1 := v1.cell1
      have r0 := v2.cell0
      have r1 := v2.cell1
      have rf0 := v2.frozen 0
      have rf1 := v2.frozen 1
      have c0 := d1.cell0
      have c1 := d1.cell1
      go_wp2_with fail
      exact bodyPost_ret (v := .agg #[.slice none 0 0, .slice bN ns.length dN]) (by simp [results, Try.results12, go_sem, c0, c1]) rfl ⟨_, [], _, ns, rfl, by simp, by omega, World.ownsRow_nil _ _ _ _, d3, d4, d5⟩
end Go.Proofs.Ytcjamjfdkpgjkaa
