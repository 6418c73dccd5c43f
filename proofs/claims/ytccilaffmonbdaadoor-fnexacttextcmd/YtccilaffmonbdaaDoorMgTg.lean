/- FnExactTextCmd: for every text the program's TextCmd answers as the specification's; the listed variables of the library lie as its text lays them. -/
import Derived.Test.YtccilaffmonbdaaDoorRows
import Derived.ProofKit
import Derived.OpenShut
import Derived.LaidMore
import Derived.Stop.Joined
import Derived.Stop.LaidErr
import Derived.Lay
import Derived.Test.YtccilaffmonbdaaDoorMgTe
import Derived.Test.YtccilaffmonbdaaDoorTcG
import Derived.Test.YtccilaffmonbdaaDoorTcJ
import Derived.Test.YtccilaffmonbdaaDoorTcK
import Derived.Test.YtccilaffmonbdaaDoorMgTf
import Derived.Test.YtccilaffmonbdaaDoorTcM
import Derived.Test.YtccilaffmonbdaaDoorTcC
import Derived.Test.YtccilaffmonbdaaDoorNumD
import Derived.Lib.LaidTab
import Derived.Test.YtccilaffmonbdaaDoorMgTb
import Derived.Test.YtccilaffmonbdaaDoorMgTd
import Derived.OpenVars
import Derived.Test.YtccilaffmonbdaaDoorCards
import Derived.Test.YtccilaffmonbdaaDoorTie
import Derived.SevenTiedAt
namespace Go.Proofs.YtccilaffmonbdaaDoor
open Go.ChangeShapes Go.WideShapes Go.ChangeAt Go.RowKit

theorem ownKnobNone : ownKnob Tryd.prog.godebug = none := by kernel_rfl

set_option maxRecDepth 100000 in
/-- The listed data and the shape of the world, both handed to the walk. -/
theorem handed {H : Type} {enc : TypeId × Value → H} {os : Os} {f : FuncId} {fn : Func} {s : ChangeSpec} {laid : List (String × DataW Unit)} (started : os.Started)
    (noInit : Tryd.checked.prog.inits.idxOf? f = none) (hfn : Tryd.checked.prog.funcs[f]? = some fn)
    (wit : ∃ (w : World) (tape : Tape) (i : Input), w.os = os ∧ (w.forCall tape i).Shaped Tryd.checked.prog ∧ i.vars = [] ∧ Input.okWide Tryd.checked.prog (w.forCall tape i) .any w.heap.size f i ∧
      ((s.pre enc Tryd.checked.prog fn [] false (w.forCall tape i).memory i.args ∧ laidMetH Tryd.checked.prog laid (w.forCall tape i).memory) ∧ sizedMet enc Tryd.checked.prog fn (OpenSpec.ofChange s) false (w.forCall tape i).memory i.args) ∧ ({} : Assume).holds Tryd.checked.prog (lone (Frame.enter Tryd.checked.prog f i.args .normal) [] (w.forCall tape i)))
    (walk : ∀ (W : World) (base : Nat) (args : Array Value) (ds gs : List (DataW H)) (before : List MemPlace),
      (∀ (j : Nat) t v, fn.params[j]? = some t → args[j]? = some v → Value.okWide Tryd.checked.prog W .any base t v) →
      DataW.Whole enc Tryd.checked.prog fn.params.toList s.vars false W args.toList ds gs before →
      laidMetH Tryd.checked.prog laid W → W.ShapedOpen Tryd.checked.prog →
      Calls Tryd.checked.prog f args W fun e W' => ∃ v, e = .returned v ∧ s.post enc Tryd.checked.prog fn false true false false W args v W') :
    ReturnsInHanded {} Tryd.checked os f .any (fun w args => (s.pre enc Tryd.checked.prog fn [] false w args ∧ laidMetH Tryd.checked.prog laid w) ∧ sizedMet enc Tryd.checked.prog fn (OpenSpec.ofChange s) false w args) (s.post enc Tryd.checked.prog fn false true false false) := by
  refine returnsInHanded_of_calls ownKnobNone started noInit wit fun w tape i _ shape _ ok pre _ => ?_
  obtain ⟨_, _, _, fn1, hfn1, _, _, _, _, vals⟩ := ok
  obtain rfl : fn1 = fn := Option.some.inj (hfn1.symm.trans hfn)
  obtain ⟨⟨⟨ds, gs, before, whole, _⟩, laidThere⟩, _⟩ := pre
  have whole1 := DataW.Whole.of_heap (w' := w.forCall tape i) (by rfl) whole
  refine (walk _ w.heap.size i.args ds gs before vals whole1 (laidThere.of_heap (by rfl)) shape).mono fun e W1 ⟨v, he, hp⟩ => ?_
  subst he
  exact ChangeSpec.post_blind hp
end Go.Proofs.YtccilaffmonbdaaDoor

namespace Go.Proofs.YtccilaffmonbdaaDoor
open Go.ChangeShapes Go.WideShapes Go.ChangeAt Go.RowKit

theorem ctL_ne (x : Cm) (h : cmdB x.s x.j x.n x.a x.b x.c = true) : ctL x.s x.j x.n x.a x.b x.c ≠ [] := by
  rw [ctL, h]
  have h7 := cmdB_seven h
  intro e
  have e2 : (Lib.join (cwL x.s x.j x.n x.a x.b x.c) [32]).length = 0 := by
    have : Lib.join (cwL x.s x.j x.n x.a x.b x.c) [32] = [] := e
    rw [this]; rfl
  rcases h7 with h | h | h | h | h | h | h <;> (rw [h] at e2; simp [cwL, jwL, Lib.join, kwL, kws] at e2)
theorem spec_fin (s : ByteArray) (w : World) (x : Cm) (hx : rdC (pcs 32 s.data.toList) = x)
    (h1 : s.data.toList ≠ [] → ctL x.s x.j x.n x.a x.b x.c = s.data.toList → Calls Tryd.prog 22 #[.string s] w fun e w' => e = .returned (.tuple #[.agg x.cells.toArray, .bool true]) ∧ Below w.heap.size w w')
    (h2 : s.data.toList ≠ [] → ctL x.s x.j x.n x.a x.b x.c ≠ s.data.toList → Calls Tryd.prog 22 #[.string s] w fun e w' => e = .returned (.tuple #[.agg cm0.cells.toArray, .bool false]) ∧ Below w.heap.size w w')
    (h3 : s.data.toList = [] → Calls Tryd.prog 22 #[.string s] w fun e w' => e = .returned (.tuple #[.agg cm0.cells.toArray, .bool false]) ∧ Below w.heap.size w w') :
    Calls Tryd.prog 22 #[.string s] w fun e w' => e = .returned (.tuple #[.agg (tcR s.data.toList).1.cells.toArray, .bool (tcR s.data.toList).2]) ∧ Below w.heap.size w w' := by
  unfold tcR
  rw [hx]
  by_cases he : s.data.toList = []
  · rw [if_neg (fun t => ctL_ne x t.1 (t.2.trans he))]
    exact h3 he
  · by_cases ht : ctL x.s x.j x.n x.a x.b x.c = s.data.toList
    · have hc : cmdB x.s x.j x.n x.a x.b x.c = true := by
        cases hh : cmdB x.s x.j x.n x.a x.b x.c
        · exfalso
          rw [ctL, hh] at ht
          exact he ht.symm
        · rfl
      rw [if_pos ⟨hc, ht⟩]
      exact h1 he ht
    · rw [if_neg (fun t => ht t.2)]
      exact h2 he ht

theorem specTextCmd_c (s : ByteArray) (hs : s.size ≤ 1048576) (w : World) : Calls Tryd.prog 22 #[.string s] w fun e w' => e = .returned (.tuple #[.agg (tcR s.data.toList).1.cells.toArray, .bool (tcR s.data.toList).2]) ∧ Below w.heap.size w w' := by
  have hnil : ∀ P : List (List UInt8), pcs 32 s.data.toList = P → s.data.toList = [] → P = [[]] := fun P hP h => by rw [← hP, h]; rfl
  cases hP : pcs 32 s.data.toList with
  | nil => exact absurd hP (pcs_ne _ _)
  | cons x0 r =>
    by_cases h8 : r.length = 7 ∧ kdN x0 = 1
    · match r, h8.1, hP with
      | [x1, x2, x3, x4, x5, x6, x7], _, hP =>
        exact spec_fin s w ⟨1, jrd x1 x2 x3 x4 x5 x6 x7, 0, 0, 0, 0⟩ (by rw [hP]; unfold rdC; rw [if_pos ⟨rfl, h8.2⟩]; rfl)
          (fun he ht => specTextCmd_j_eq s hs x0 x1 x2 x3 x4 x5 x6 x7 hP h8.2 he ht w) (fun he ht => specTextCmd_j_ne s hs x0 x1 x2 x3 x4 x5 x6 x7 hP h8.2 he ht w) (fun he => by have := hnil _ hP he; simp at this)
    · by_cases h2 : r.length = 1
      · match r, h2, hP with
        | [x1], _, hP =>
          have h0 : s.data.toList = [] → False := fun he => by have := hnil _ hP he; simp at this
          by_cases h6 : kdN x0 = 6
          · exact spec_fin s w ⟨6, jb0, 0, (tvR x1).1.1, (tvR x1).1.2.1, (tvR x1).1.2.2⟩ (by rw [hP]; unfold rdC; rw [if_neg (fun t => by have := t.1; simp at this), if_pos ⟨rfl, h6⟩]; rfl)
              (fun he ht => specTextCmd_l_eq s hs x0 x1 hP h6 he ht w) (fun he ht => specTextCmd_l_ne s hs x0 x1 hP h6 he ht w) (fun he => (h0 he).elim)
          · have e : rdC [x0, x1] = ⟨kdN x0, jb0, (tnR x1).1, 0, 0, 0⟩ := by unfold rdC; rw [if_neg (fun t => by have := t.1; simp at this), if_neg (fun t => h6 t.2), if_pos (show [x0, x1].length = 2 from rfl)]; rfl
            by_cases h1 : kdN x0 = 1
            · exact spec_fin s w ⟨1, jb0, (tnR x1).1, 0, 0, 0⟩ (by rw [hP, e, h1]; rfl)
                (fun he ht => specTextCmd_o_eq s hs x0 x1 hP h1 he ht w) (fun he ht => specTextCmd_o_ne s hs x0 x1 hP h1 he ht w) (fun he => (h0 he).elim)
            · exact spec_fin s w ⟨kdN x0, jb0, (tnR x1).1, 0, 0, 0⟩ (by rw [hP, e])
                (fun he ht => specTextCmd_n_eq s hs x0 x1 hP (kdN x0) rfl h1 h6 he ht w) (fun he ht => specTextCmd_n_ne s hs x0 x1 hP (kdN x0) rfl h1 h6 he ht w) (fun he => (h0 he).elim)
      · have e : rdC (x0 :: r) = ⟨kdN x0, jb0, 0, 0, 0, 0⟩ := by
          unfold rdC
          rw [if_neg (fun t => h8 ⟨by have := t.1; simp at this; exact this, t.2⟩), if_neg (fun t => h2 (by have := t.1; simp at this; simp [this])), if_neg (fun t => h2 (by simp at t; simp [t]))]
          rfl
        have hPx : Hid ((x0 :: r)[0]? = some x0) := rfl
        have hPl : 0 < (x0 :: r).length := by simp
        have hP2 : (x0 :: r).length ≠ 2 := by simp; omega
        by_cases h1 : kdN x0 = 1
        · exact spec_fin s w ⟨1, jb0, 0, 0, 0, 0⟩ (by rw [hP, e, h1]; rfl)
            (fun he ht => specTextCmd_d1_eq s hs x0 _ hP hPx hPl hP2 h1 (by simp; exact fun t => h8 ⟨t, h1⟩) he ht w) (fun he ht => specTextCmd_d1_ne s hs x0 _ hP hPx hPl hP2 h1 (by simp; exact fun t => h8 ⟨t, h1⟩) he ht w)
            (fun he => by have := hnil _ hP he; simp at this; rw [this.1] at h1; exact absurd h1 (by decide))
        · by_cases h6 : kdN x0 = 6
          · exact spec_fin s w ⟨6, jb0, 0, 0, 0, 0⟩ (by rw [hP, e, h6]; rfl)
              (fun he ht => specTextCmd_d6_eq s hs x0 _ hP hPx hPl hP2 h6 he ht w) (fun he ht => specTextCmd_d6_ne s hs x0 _ hP hPx hPl hP2 h6 he ht w)
              (fun he => by have := hnil _ hP he; simp at this; rw [this.1] at h6; exact absurd h6 (by decide))
          · exact spec_fin s w ⟨kdN x0, jb0, 0, 0, 0, 0⟩ (by rw [hP, e])
              (fun he ht => specTextCmd_d0_eq s hs x0 _ hP hPx hPl hP2 (kdN x0) rfl h1 h6 he ht w) (fun he ht => specTextCmd_d0_ne s hs x0 _ hP hPx hPl hP2 (kdN x0) rfl h1 h6 he ht w)
              (fun he => specTextCmd_d0_em s hs x0 _ hP hPx hPl hP2 (kdN x0) rfl h1 h6 he w)
end Go.Proofs.YtccilaffmonbdaaDoor

namespace Go.Proofs.YtccilaffmonbdaaDoor
open Go.ChangeShapes Go.WideShapes Go.ChangeAt Go.RowKit

set_option maxHeartbeats 4000000 in
set_option maxRecDepth 100000 in
theorem eqCmd_c (x : Cm) (w : World) : Calls Tryd.prog 23 #[.agg #[.int .i64 x.s, .int .i64 x.j.id, .int .i64 x.j.pr, .int .i64 x.j.nd, .int .i64 x.j.na, .int .i64 x.j.nb, .int .i64 x.j.nc, .int .i64 x.j.la, .int .i64 x.j.lb, .int .i64 x.j.lc, .int .i64 x.j.wl, .int .i64 x.j.lv, .int .i64 x.n, .int .i64 x.a, .int .i64 x.b, .int .i64 x.c], .agg #[.int .i64 x.s, .int .i64 x.j.id, .int .i64 x.j.pr, .int .i64 x.j.nd, .int .i64 x.j.na, .int .i64 x.j.nb, .int .i64 x.j.nc, .int .i64 x.j.la, .int .i64 x.j.lb, .int .i64 x.j.lc, .int .i64 x.j.wl, .int .i64 x.j.lv, .int .i64 x.n, .int .i64 x.a, .int .i64 x.b, .int .i64 x.c]] w fun e w' => e = .returned (.bool true) ∧ Below w.heap.size w w' := by
  go_enter Tryd.func23, Tryd.ntmps23
  go_wp2_with (refine stay_load 40 ?_)
  refine ⟨?_⟩
  have hs1 : (w.alloc (.cells #[.int .i64 x.s, .int .i64 x.j.id, .int .i64 x.j.pr, .int .i64 x.j.nd, .int .i64 x.j.na, .int .i64 x.j.nb, .int .i64 x.j.nc, .int .i64 x.j.la, .int .i64 x.j.lb, .int .i64 x.j.lc, .int .i64 x.j.wl, .int .i64 x.j.lv, .int .i64 x.n, .int .i64 x.a, .int .i64 x.b, .int .i64 x.c] 42)).heap.size = w.heap.size + 1 := by simp [go_sem]
  have HA : Hid (Row ((w.alloc (.cells #[.int .i64 x.s, .int .i64 x.j.id, .int .i64 x.j.pr, .int .i64 x.j.nd, .int .i64 x.j.na, .int .i64 x.j.nb, .int .i64 x.j.nc, .int .i64 x.j.la, .int .i64 x.j.lb, .int .i64 x.j.lc, .int .i64 x.j.wl, .int .i64 x.j.lv, .int .i64 x.n, .int .i64 x.a, .int .i64 x.b, .int .i64 x.c] 42)).alloc (.cells #[.int .i64 x.s, .int .i64 x.j.id, .int .i64 x.j.pr, .int .i64 x.j.nd, .int .i64 x.j.na, .int .i64 x.j.nb, .int .i64 x.j.nc, .int .i64 x.j.la, .int .i64 x.j.lb, .int .i64 x.j.lc, .int .i64 x.j.wl, .int .i64 x.j.lv, .int .i64 x.n, .int .i64 x.a, .int .i64 x.b, .int .i64 x.c] 42)) w.heap.size [.int .i64 x.s, .int .i64 x.j.id, .int .i64 x.j.pr, .int .i64 x.j.nd, .int .i64 x.j.na, .int .i64 x.j.nb, .int .i64 x.j.nc, .int .i64 x.j.la, .int .i64 x.j.lb, .int .i64 x.j.lc, .int .i64 x.j.wl, .int .i64 x.j.lv, .int .i64 x.n, .int .i64 x.a, .int .i64 x.b, .int .i64 x.c]) := (row_fresh w [.int .i64 x.s, .int .i64 x.j.id, .int .i64 x.j.pr, .int .i64 x.j.nd, .int .i64 x.j.na, .int .i64 x.j.nb, .int .i64 x.j.nc, .int .i64 x.j.la, .int .i64 x.j.lb, .int .i64 x.j.lc, .int .i64 x.j.wl, .int .i64 x.j.lv, .int .i64 x.n, .int .i64 x.a, .int .i64 x.b, .int .i64 x.c] 42).below (low_alloc _ _)
  have hb0 := row_fresh (w.alloc (.cells #[.int .i64 x.s, .int .i64 x.j.id, .int .i64 x.j.pr, .int .i64 x.j.nd, .int .i64 x.j.na, .int .i64 x.j.nb, .int .i64 x.j.nc, .int .i64 x.j.la, .int .i64 x.j.lb, .int .i64 x.j.lc, .int .i64 x.j.wl, .int .i64 x.j.lv, .int .i64 x.n, .int .i64 x.a, .int .i64 x.b, .int .i64 x.c] 42)) [.int .i64 x.s, .int .i64 x.j.id, .int .i64 x.j.pr, .int .i64 x.j.nd, .int .i64 x.j.na, .int .i64 x.j.nb, .int .i64 x.j.nc, .int .i64 x.j.la, .int .i64 x.j.lb, .int .i64 x.j.lc, .int .i64 x.j.wl, .int .i64 x.j.lv, .int .i64 x.n, .int .i64 x.a, .int .i64 x.b, .int .i64 x.c] 42
  rw [hs1] at hb0
  have HC : Hid (Row ((w.alloc (.cells #[.int .i64 x.s, .int .i64 x.j.id, .int .i64 x.j.pr, .int .i64 x.j.nd, .int .i64 x.j.na, .int .i64 x.j.nb, .int .i64 x.j.nc, .int .i64 x.j.la, .int .i64 x.j.lb, .int .i64 x.j.lc, .int .i64 x.j.wl, .int .i64 x.j.lv, .int .i64 x.n, .int .i64 x.a, .int .i64 x.b, .int .i64 x.c] 42)).alloc (.cells #[.int .i64 x.s, .int .i64 x.j.id, .int .i64 x.j.pr, .int .i64 x.j.nd, .int .i64 x.j.na, .int .i64 x.j.nb, .int .i64 x.j.nc, .int .i64 x.j.la, .int .i64 x.j.lb, .int .i64 x.j.lc, .int .i64 x.j.wl, .int .i64 x.j.lv, .int .i64 x.n, .int .i64 x.a, .int .i64 x.b, .int .i64 x.c] 42)) (w.heap.size + 1) [.int .i64 x.s, .int .i64 x.j.id, .int .i64 x.j.pr, .int .i64 x.j.nd, .int .i64 x.j.na, .int .i64 x.j.nb, .int .i64 x.j.nc, .int .i64 x.j.la, .int .i64 x.j.lb, .int .i64 x.j.lc, .int .i64 x.j.wl, .int .i64 x.j.lv, .int .i64 x.n, .int .i64 x.a, .int .i64 x.b, .int .i64 x.c]) := hb0
  have HB : Hid (Below w.heap.size w ((w.alloc (.cells #[.int .i64 x.s, .int .i64 x.j.id, .int .i64 x.j.pr, .int .i64 x.j.nd, .int .i64 x.j.na, .int .i64 x.j.nb, .int .i64 x.j.nc, .int .i64 x.j.la, .int .i64 x.j.lb, .int .i64 x.j.lc, .int .i64 x.j.wl, .int .i64 x.j.lv, .int .i64 x.n, .int .i64 x.a, .int .i64 x.b, .int .i64 x.c] 42)).alloc (.cells #[.int .i64 x.s, .int .i64 x.j.id, .int .i64 x.j.pr, .int .i64 x.j.nd, .int .i64 x.j.na, .int .i64 x.j.nb, .int .i64 x.j.nc, .int .i64 x.j.la, .int .i64 x.j.lb, .int .i64 x.j.lc, .int .i64 x.j.wl, .int .i64 x.j.lv, .int .i64 x.n, .int .i64 x.a, .int .i64 x.b, .int .i64 x.c] 42))) := behind_alloc (low_alloc _ _) _
  clear hs1 hb0
  generalize (w.alloc (.cells #[.int .i64 x.s, .int .i64 x.j.id, .int .i64 x.j.pr, .int .i64 x.j.nd, .int .i64 x.j.na, .int .i64 x.j.nb, .int .i64 x.j.nc, .int .i64 x.j.la, .int .i64 x.j.lb, .int .i64 x.j.lc, .int .i64 x.j.wl, .int .i64 x.j.lv, .int .i64 x.n, .int .i64 x.a, .int .i64 x.b, .int .i64 x.c] 42)).alloc (.cells #[.int .i64 x.s, .int .i64 x.j.id, .int .i64 x.j.pr, .int .i64 x.j.nd, .int .i64 x.j.na, .int .i64 x.j.nb, .int .i64 x.j.nc, .int .i64 x.j.la, .int .i64 x.j.lb, .int .i64 x.j.lc, .int .i64 x.j.wl, .int .i64 x.j.lv, .int .i64 x.n, .int .i64 x.a, .int .i64 x.b, .int .i64 x.c] 42) = u0 at HA HC HB ⊢
  refine wpList_load_mid rfl 40 _ rfl w.heap.size 1 rfl [.int .i64 x.j.id, .int .i64 x.j.pr, .int .i64 x.j.nd, .int .i64 x.j.na, .int .i64 x.j.nb, .int .i64 x.j.nc, .int .i64 x.j.la, .int .i64 x.j.lb, .int .i64 x.j.lc, .int .i64 x.j.wl, .int .i64 x.j.lv] _ (HA.out.sub 1 11) Tryd.underlying40 rfl szJobC ?_
  go_wp2_with (refine stay_load 40 ?_)
  refine ⟨?_⟩
  refine wpList_load_mid rfl 40 _ rfl (w.heap.size + 1) 1 rfl [.int .i64 x.j.id, .int .i64 x.j.pr, .int .i64 x.j.nd, .int .i64 x.j.na, .int .i64 x.j.nb, .int .i64 x.j.nc, .int .i64 x.j.la, .int .i64 x.j.lb, .int .i64 x.j.lc, .int .i64 x.j.wl, .int .i64 x.j.lv] _ (HC.out.sub 1 11) Tryd.underlying40 rfl szJobC ?_
  go_wp2_with fail
  refine (eqJob_c x.j _).mono ?_
  rintro e w1 ⟨rfl, hb⟩
  replace HA : Hid (Row w1 w.heap.size [.int .i64 x.s, .int .i64 x.j.id, .int .i64 x.j.pr, .int .i64 x.j.nd, .int .i64 x.j.na, .int .i64 x.j.nb, .int .i64 x.j.nc, .int .i64 x.j.la, .int .i64 x.j.lb, .int .i64 x.j.lc, .int .i64 x.j.wl, .int .i64 x.j.lv, .int .i64 x.n, .int .i64 x.a, .int .i64 x.b, .int .i64 x.c]) := HA.out.below hb
  replace HC : Hid (Row w1 (w.heap.size + 1) [.int .i64 x.s, .int .i64 x.j.id, .int .i64 x.j.pr, .int .i64 x.j.nd, .int .i64 x.j.na, .int .i64 x.j.nb, .int .i64 x.j.nc, .int .i64 x.j.la, .int .i64 x.j.lb, .int .i64 x.j.lc, .int .i64 x.j.wl, .int .i64 x.j.lv, .int .i64 x.n, .int .i64 x.a, .int .i64 x.b, .int .i64 x.c]) := HC.out.below hb
  replace HB : Hid (Below w.heap.size w w1) := below_then HB.out hb
  clear hb
  have a12 := HA.out.cell 12 _ rfl
  have c12 := HC.out.cell 12 _ rfl
  have a13 := HA.out.cell 13 _ rfl
  have c13 := HC.out.cell 13 _ rfl
  have a14 := HA.out.cell 14 _ rfl
  have c14 := HC.out.cell 14 _ rfl
  have a15 := HA.out.cell 15 _ rfl
  have c15 := HC.out.cell 15 _ rfl
  go_wp2_with fail
  refine (eqVec_c x.a x.b x.c x.a x.b x.c _).mono ?_
  rintro e w2 ⟨rfl, hb⟩
  rw [show (x.a == x.a && x.b == x.b && x.c == x.c) = true by simp]
  replace HB : Hid (Below w.heap.size w w2) := below_then HB.out hb
  clear hb HA HC a12 a13 a14 a15 c12 c13 c14 c15
  go_wp2_with fail
  go_ret
  exact ⟨rfl, HB.out⟩
end Go.Proofs.YtccilaffmonbdaaDoor

namespace Go.Proofs.YtccilaffmonbdaaDoor
open Go.ChangeShapes Go.WideShapes Go.ChangeAt Go.RowKit

theorem own : ownKnob Tryd.prog.godebug = none := by kernel_rfl
theorem gTabType : (Tryd.prog.globals[2]?).map (·.type) = some 161 := by kernel_rfl
theorem cellsTab : Tryd.prog.cellsOf 161 = 20 := by kernel_rfl
theorem cellsElem : Tryd.prog.cellsOf 142 = 1 := by kernel_rfl
theorem gErrSType : (Tryd.prog.globals[3]?).map (·.type) = some 103 := by kernel_rfl
theorem gErrRType : (Tryd.prog.globals[4]?).map (·.type) = some 103 := by kernel_rfl
theorem cellsErr : Tryd.prog.cellsOf 175 = 1 := by kernel_rfl
theorem cellsStr : Tryd.prog.cellsOf 9 = 1 := by kernel_rfl
theorem star : "*" ++ "errors.errorString" = "*errors.errorString" := by decide
theorem rowErr (u : TypeId) (h : Tryd.prog.typeName? 3 u = some "*errors.errorString") : u = 173 :=
  typeName_ptr_named (nm := "errors.errorString") (by rw [star]; kernel_rfl) (by kernel_rfl) (by decide) u (by rw [star]; exact h)

theorem tab_head {W : World} {r : List (String × DataW Unit)} (h : laidMet Tryd.prog (("internal/strconv.uint64pow10", Rows.laid_internal_strconv_uint64pow10) :: r) W) : Tab W := by
  have h2 : laidMet Tryd.prog (("internal/strconv.uint64pow10", Lib.tabData .u64 Lib.pow10Tab) :: r) W := h
  have hT := Lib.tabIs_of_head gTab gTabType Tryd.underlying161 Tryd.underlying142 cellsElem cellsTab h2
  exact ⟨hT, World.block_lt_of_cell? W _ (hT.cell gTab 0 (by decide))⟩

theorem errs_head {W : World} {r r' : List (String × DataW Unit)} (hR : laidMet Tryd.prog (("strconv.ErrRange", Rows.laid_strconv_ErrRange) :: r) W) (hS : laidMet Tryd.prog (("strconv.ErrSyntax", Rows.laid_strconv_ErrSyntax) :: r') W) : Errs W := by
  obtain ⟨a0, s0, hv0, -, -, -⟩ := laid_sentinel hS gErrS gErrSType Tryd.underlying103 rowErr Tryd.underlying173 Tryd.underlying175 rfl rfl Tryd.underlying9 cellsErr cellsStr
  obtain ⟨a1, s1, hv1, -, -, -⟩ := laid_sentinel hR gErrR gErrRType Tryd.underlying103 rowErr Tryd.underlying173 Tryd.underlying175 rfl rfl Tryd.underlying9 cellsErr cellsStr
  have c0 := World.var?_cell gErrS hv0 0
  have c1 := World.var?_cell gErrR hv1 0
  exact ⟨⟨_, _, hv0⟩, ⟨_, _, hv1⟩, World.block_lt_of_cell? W _ (by simpa using c0), World.block_lt_of_cell? W _ (by simpa using c1)⟩
end Go.Proofs.YtccilaffmonbdaaDoor

namespace Go.Proofs.YtccilaffmonbdaaDoor
open Go.ChangeShapes Go.WideShapes Go.ChangeAt Go.RowKit

/-- An array of texts that reads as the list holds these texts, cell for cell. -/
theorem cells_of_texts {H : Type} {enc : TypeId × Value → H} {P : Program} {w : World} {base : Nat} {sp : Nat → Bool} {held : Bool} {fuel : Nat} {t e : TypeId} {n : Nat} {cs : List Value} {ws : List (List UInt8)} {p : List MemPlace}
    (ht : P.underlying t = some (.array n e)) (he : P.underlying e = some .string) (hce : P.cellsOf e = 1) (hct : P.cellsOf t = n)
    (h : DataW.trod enc P w base sp held fuel t cs = some (.agg (ws.map fun l => .lit (.string l)), p)) : cs = strs ws := by
  obtain ⟨xs, m, _, hx, hl, hxl, hf⟩ := DataW.trod_array ht h
  simp only [Prod.mk.injEq, DataW.agg.injEq] at hx
  have hxs := hx.1
  rw [hct] at hl
  have hwl : ws.length = n := by
    have := congrArg List.length hxs
    simp at this
    omega
  apply List.ext_getElem?
  intro i
  by_cases hi : i < n
  · have hfi := hf i hi
    rw [hce] at hfi
    have hxi : xs[i]? = some xs[i] := List.getElem?_eq_getElem (by omega)
    rw [hxi] at hfi
    obtain ⟨s, hc, hx2, _⟩ := DataW.trod_string he hfi
    have h1 : cs[i]? = some (.string s) := by
      have := congrArg (·[0]?) hc
      simpa [List.getElem?_take, List.getElem?_drop] using this
    have h2 := congrArg (·[i]?) hxs
    simp only [List.getElem?_map, hxi, Option.map_some, hx2] at h2
    rw [h1, strs_get]
    cases hw : ws[i]? with
    | none => rw [hw] at h2; cases h2
    | some l =>
      rw [hw] at h2
      simp at h2
      rw [Option.map_some, h2]
  · rw [List.getElem?_eq_none (by omega), List.getElem?_eq_none (by rw [strs_length]; omega)]

theorem gKwType : (Tryd.prog.globals[0]?).map (·.type) = some 107 := by kernel_rfl
theorem cellsKw : Tryd.prog.cellsOf 107 = 8 := by kernel_rfl
theorem cellsStrK : Tryd.prog.cellsOf 9 = 1 := by kernel_rfl
theorem kwV_strs : strs kws = kwV := rfl

theorem kw_head {W : World} {r : List (String × DataW Unit)} (h : laidMet Tryd.prog (("loop.example/g00454/impl.kindWords", Rows.laid_loop_example_g00454_impl_kindWords) :: r) W) : KwT W := by
  have h2 : laidMet Tryd.prog (("loop.example/g00454/impl.kindWords", .agg (kws.map fun l => .lit (.string l))) :: r) W := h
  obtain ⟨ps, ⟨g', t', cs, fuel, p, q, hg', ht', hvar, hd, _, _⟩, _⟩ := h2
  obtain rfl := Option.some.inj (gKw.symm.trans hg')
  obtain rfl := Option.some.inj (gKwType.symm.trans ht')
  have hcs := cells_of_texts Tryd.underlying107 Tryd.underlying9 cellsStrK cellsKw hd
  have hcs2 : cs = kwV.toArray := by rw [← kwV_strs, ← hcs]
  subst hcs2
  refine ⟨hvar, ?_⟩
  have := World.var?_cell gKw hvar 0
  exact World.block_lt_of_cell? W _ (by rw [this]; rfl)
end Go.Proofs.YtccilaffmonbdaaDoor

namespace Go.Proofs.YtccilaffmonbdaaDoor
namespace LawTextCmd
open Go.ChangeShapes Go.WideShapes Go.ChangeAt Go.RowKit
open Go.WideMaps Go.WideElems
open Go.ChangeMaps (open_string shut_string)

theorem laidOutTc : laidOutB Tryd.prog = true := by kernel_rfl
set_option maxHeartbeats 4000000 in
set_option maxRecDepth 100000 in
theorem walk (s : ByteArray) (w : World) (hs : s.size ≤ maxLen) (hk : KwT w) (env : Env w) :
    Calls Tryd.prog 6 #[.string s] w fun e w' => e = .returned (.bool true) ∧ Below w.heap.size w w' := by
  have HE : Hid (Env w) := env
  have HK : Hid (KwT w) := hk
  clear env hk
  by_cases hl : 1048576 < s.size
  · unfold maxLen at hs
    go_enter Tryd.func6, Tryd.ntmps6
    go_wp2_with fail
    go_ret
    exact ⟨rfl, Below.refl _ _⟩
  · have hl' : s.size ≤ 1048576 := by omega
    have hsp := fun W => specTextCmd_c s hl' W
    have him := fun W hk env => implTextCmd_c s hl' W hk env
    generalize (tcR s.data.toList).1 = x at hsp him
    generalize (tcR s.data.toList).2 = k at hsp him
    have Hs : Hid (∀ W : World, Calls Tryd.prog 22 #[.string s] W fun e w' => e = .returned (.tuple #[.agg #[.int .i64 x.s, .int .i64 x.j.id, .int .i64 x.j.pr, .int .i64 x.j.nd, .int .i64 x.j.na, .int .i64 x.j.nb, .int .i64 x.j.nc, .int .i64 x.j.la, .int .i64 x.j.lb, .int .i64 x.j.lc, .int .i64 x.j.wl, .int .i64 x.j.lv, .int .i64 x.n, .int .i64 x.a, .int .i64 x.b, .int .i64 x.c], .bool k]) ∧ Below W.heap.size W w') := hsp
    have Hi : Hid (∀ W : World, KwT W → Env W → Calls Tryd.prog 19 #[.string s] W fun e w' => e = .returned (.tuple #[.agg #[.int .i64 x.s, .int .i64 x.j.id, .int .i64 x.j.pr, .int .i64 x.j.nd, .int .i64 x.j.na, .int .i64 x.j.nb, .int .i64 x.j.nc, .int .i64 x.j.la, .int .i64 x.j.lb, .int .i64 x.j.lc, .int .i64 x.j.wl, .int .i64 x.j.lv, .int .i64 x.n, .int .i64 x.a, .int .i64 x.b, .int .i64 x.c], .bool k]) ∧ Below W.heap.size W w') := him
    clear hl hs hsp him
    go_enter Tryd.func6, Tryd.ntmps6
    go_wp2_with fail
    refine (Hs.out _).mono ?_
    rintro e w1 ⟨rfl, hb⟩
    have HB : Hid (Below w.heap.size w (w1.alloc (.cells #[.int .i64 x.s, .int .i64 x.j.id, .int .i64 x.j.pr, .int .i64 x.j.nd, .int .i64 x.j.na, .int .i64 x.j.nb, .int .i64 x.j.nc, .int .i64 x.j.la, .int .i64 x.j.lb, .int .i64 x.j.lc, .int .i64 x.j.wl, .int .i64 x.j.lv, .int .i64 x.n, .int .i64 x.a, .int .i64 x.b, .int .i64 x.c] 42))) := behind_alloc hb _
    have HW : Hid (Row (w1.alloc (.cells #[.int .i64 x.s, .int .i64 x.j.id, .int .i64 x.j.pr, .int .i64 x.j.nd, .int .i64 x.j.na, .int .i64 x.j.nb, .int .i64 x.j.nc, .int .i64 x.j.la, .int .i64 x.j.lb, .int .i64 x.j.lc, .int .i64 x.j.wl, .int .i64 x.j.lv, .int .i64 x.n, .int .i64 x.a, .int .i64 x.b, .int .i64 x.c] 42)) w1.heap.size [.int .i64 x.s, .int .i64 x.j.id, .int .i64 x.j.pr, .int .i64 x.j.nd, .int .i64 x.j.na, .int .i64 x.j.nb, .int .i64 x.j.nc, .int .i64 x.j.la, .int .i64 x.j.lb, .int .i64 x.j.lc, .int .i64 x.j.wl, .int .i64 x.j.lv, .int .i64 x.n, .int .i64 x.a, .int .i64 x.b, .int .i64 x.c]) := row_fresh w1 [.int .i64 x.s, .int .i64 x.j.id, .int .i64 x.j.pr, .int .i64 x.j.nd, .int .i64 x.j.na, .int .i64 x.j.nb, .int .i64 x.j.nc, .int .i64 x.j.la, .int .i64 x.j.lb, .int .i64 x.j.lc, .int .i64 x.j.wl, .int .i64 x.j.lv, .int .i64 x.n, .int .i64 x.a, .int .i64 x.b, .int .i64 x.c] 42
    clear hb
    go_wp2_with fail
    generalize w1.alloc (.cells #[.int .i64 x.s, .int .i64 x.j.id, .int .i64 x.j.pr, .int .i64 x.j.nd, .int .i64 x.j.na, .int .i64 x.j.nb, .int .i64 x.j.nc, .int .i64 x.j.la, .int .i64 x.j.lb, .int .i64 x.j.lc, .int .i64 x.j.wl, .int .i64 x.j.lv, .int .i64 x.n, .int .i64 x.a, .int .i64 x.b, .int .i64 x.c] 42) = u1 at HB HW ⊢
    generalize w1.heap.size = q at HW ⊢
    refine (Hi.out _ (HK.out.on HB.out) (HE.out.on HB.out)).mono ?_
    rintro e w2 ⟨rfl, hb⟩
    replace HW : Hid (Row w2 q [.int .i64 x.s, .int .i64 x.j.id, .int .i64 x.j.pr, .int .i64 x.j.nd, .int .i64 x.j.na, .int .i64 x.j.nb, .int .i64 x.j.nc, .int .i64 x.j.la, .int .i64 x.j.lb, .int .i64 x.j.lc, .int .i64 x.j.wl, .int .i64 x.j.lv, .int .i64 x.n, .int .i64 x.a, .int .i64 x.b, .int .i64 x.c]) := HW.out.below hb
    replace HB : Hid (Below w.heap.size w w2) := below_then HB.out hb
    clear hb Hs Hi
    go_wp2_with (refine stay_load 42 ?_)
    refine ⟨?_⟩
    replace HW : Hid (Row (w2.alloc (.cells #[.int .i64 x.s, .int .i64 x.j.id, .int .i64 x.j.pr, .int .i64 x.j.nd, .int .i64 x.j.na, .int .i64 x.j.nb, .int .i64 x.j.nc, .int .i64 x.j.la, .int .i64 x.j.lb, .int .i64 x.j.lc, .int .i64 x.j.wl, .int .i64 x.j.lv, .int .i64 x.n, .int .i64 x.a, .int .i64 x.b, .int .i64 x.c] 42)) q [.int .i64 x.s, .int .i64 x.j.id, .int .i64 x.j.pr, .int .i64 x.j.nd, .int .i64 x.j.na, .int .i64 x.j.nb, .int .i64 x.j.nc, .int .i64 x.j.la, .int .i64 x.j.lb, .int .i64 x.j.lc, .int .i64 x.j.wl, .int .i64 x.j.lv, .int .i64 x.n, .int .i64 x.a, .int .i64 x.b, .int .i64 x.c]) := HW.out.below (low_alloc _ _)
    have HG : Hid (Row (w2.alloc (.cells #[.int .i64 x.s, .int .i64 x.j.id, .int .i64 x.j.pr, .int .i64 x.j.nd, .int .i64 x.j.na, .int .i64 x.j.nb, .int .i64 x.j.nc, .int .i64 x.j.la, .int .i64 x.j.lb, .int .i64 x.j.lc, .int .i64 x.j.wl, .int .i64 x.j.lv, .int .i64 x.n, .int .i64 x.a, .int .i64 x.b, .int .i64 x.c] 42)) w2.heap.size [.int .i64 x.s, .int .i64 x.j.id, .int .i64 x.j.pr, .int .i64 x.j.nd, .int .i64 x.j.na, .int .i64 x.j.nb, .int .i64 x.j.nc, .int .i64 x.j.la, .int .i64 x.j.lb, .int .i64 x.j.lc, .int .i64 x.j.wl, .int .i64 x.j.lv, .int .i64 x.n, .int .i64 x.a, .int .i64 x.b, .int .i64 x.c]) := row_fresh w2 [.int .i64 x.s, .int .i64 x.j.id, .int .i64 x.j.pr, .int .i64 x.j.nd, .int .i64 x.j.na, .int .i64 x.j.nb, .int .i64 x.j.nc, .int .i64 x.j.la, .int .i64 x.j.lb, .int .i64 x.j.lc, .int .i64 x.j.wl, .int .i64 x.j.lv, .int .i64 x.n, .int .i64 x.a, .int .i64 x.b, .int .i64 x.c] 42
    replace HB : Hid (Below w.heap.size w (w2.alloc (.cells #[.int .i64 x.s, .int .i64 x.j.id, .int .i64 x.j.pr, .int .i64 x.j.nd, .int .i64 x.j.na, .int .i64 x.j.nb, .int .i64 x.j.nc, .int .i64 x.j.la, .int .i64 x.j.lb, .int .i64 x.j.lc, .int .i64 x.j.wl, .int .i64 x.j.lv, .int .i64 x.n, .int .i64 x.a, .int .i64 x.b, .int .i64 x.c] 42))) := behind_alloc HB.out _
    generalize w2.alloc (.cells #[.int .i64 x.s, .int .i64 x.j.id, .int .i64 x.j.pr, .int .i64 x.j.nd, .int .i64 x.j.na, .int .i64 x.j.nb, .int .i64 x.j.nc, .int .i64 x.j.la, .int .i64 x.j.lb, .int .i64 x.j.lc, .int .i64 x.j.wl, .int .i64 x.j.lv, .int .i64 x.n, .int .i64 x.a, .int .i64 x.b, .int .i64 x.c] 42) = u2 at HW HG HB ⊢
    generalize w2.heap.size = q2 at HG ⊢
    refine wpList_load_mid rfl 42 _ rfl q2 0 rfl [.int .i64 x.s, .int .i64 x.j.id, .int .i64 x.j.pr, .int .i64 x.j.nd, .int .i64 x.j.na, .int .i64 x.j.nb, .int .i64 x.j.nc, .int .i64 x.j.la, .int .i64 x.j.lb, .int .i64 x.j.lc, .int .i64 x.j.wl, .int .i64 x.j.lv, .int .i64 x.n, .int .i64 x.a, .int .i64 x.b, .int .i64 x.c] _ HG.out.all Tryd.underlying42 rfl szCmdC ?_
    go_wp2_with (refine stay_load 42 ?_)
    refine ⟨?_⟩
    refine wpList_load_mid rfl 42 _ rfl q 0 rfl [.int .i64 x.s, .int .i64 x.j.id, .int .i64 x.j.pr, .int .i64 x.j.nd, .int .i64 x.j.na, .int .i64 x.j.nb, .int .i64 x.j.nc, .int .i64 x.j.la, .int .i64 x.j.lb, .int .i64 x.j.lc, .int .i64 x.j.wl, .int .i64 x.j.lv, .int .i64 x.n, .int .i64 x.a, .int .i64 x.b, .int .i64 x.c] _ HW.out.all Tryd.underlying42 rfl szCmdC ?_
    go_wp2_with fail
    refine (eqCmd_c x _).mono ?_
    rintro e w3 ⟨rfl, hb⟩
    replace HB : Hid (Below w.heap.size w w3) := below_then HB.out hb
    clear hb HW HG
    go_wp2_with fail
    go_ret
    exact ⟨rfl, HB.out⟩

set_option maxRecDepth 100000 in
theorem lifted (os : Os) (started : os.Started) (H : Type) (enc : TypeId × Value → H) :
    ReturnsInHanded {} Tryd.checked os 6 .any (fun w args => (Rows.fnExactTextCmdSpec.pre enc Tryd.prog Tryd.f6 [] false w args ∧ laidMetH Tryd.prog Rows.fnExactTextCmdRow.laid w) ∧ sizedMet enc Tryd.prog Tryd.f6 (OpenSpec.ofChange Rows.fnExactTextCmdSpec) false w args)
      (Rows.fnExactTextCmdSpec.post enc Tryd.prog Tryd.f6 false true false false) := by
  refine handed (laid := Rows.fnExactTextCmdRow.laid) started (by kernel_rfl) Tryd.func6
    (ChangeSpec.witness_shaped (enc := enc) (C := Tryd.checked) (os := os) (X := fun w _ => laidMetH Tryd.prog Rows.fnExactTextCmdRow.laid w) false (World.laidAll Tryd.prog os Rows.fnExactTextCmdRow.laid) #[.string ByteArray.empty] 8 (World.laidAll_os _ _ _)
      (World.shaped_of_ZipB (by kernel_rfl) (by kernel_rfl)) (by kernel_rfl) (by kernel_rfl) (by kernel_rfl)
      (by rw [MakeChecks.laidMetH_plain _ _ _ (by kernel_rfl)]; exact laidMet_laidAll _ (by kernel_rfl) (by kernel_rfl))) ?_
  intro W base args ds gs before hval0 hW hL hsh
  have hval : ∀ (j : Nat) t v, Tryd.f6.params[j]? = some t → args[j]? = some v → Value.okWide Tryd.prog W .any base t v := hval0
  have hW' := hW
  obtain ⟨p, q, hA0, hV, rfl, hfz, hnd⟩ := hW
  have hA : DataW.TrodAll enc Tryd.prog W 0 (fun _ => true) true Tryd.f6.params.toList args.toList ds p := hA0
  rw [Tryd.params6] at hA hval
  obtain ⟨v0, d0, rfl, rfl, h0⟩ := trodAll_one hA
  have hV0 := hV
  obtain ⟨g1, t1, cs1, fuel1, d1, p1, rfl, _, _, _, _, _⟩ := trodVars_one hV
  obtain ⟨s, rfl, rfl, rfl, hs⟩ := open_string Tryd.underlying9 (hval 0 9 v0 rfl rfl) h0
  clear hA0 hval0
  have hM := hL
  rw [MakeChecks.laidMetH_plain _ _ _ (by kernel_rfl)] at hM
  refine (walk s W hs (kw_head hM.tail.tail.tail.tail.tail.tail) ⟨tab_head hM.tail.tail, errs_head hM.tail.tail.tail.tail hM.tail.tail.tail.tail.tail, Tryd.laysM146.s1_3 W hsh⟩).mono fun e W' ⟨he, hg⟩ => ?_
  subst he
  have hvars := Below.trodVars laidOutTc hg (by kernel_rfl) hV0
  exact ⟨_, rfl, _, _, _, [], [], _, hW', trodAll_mk1 (shut_bool Tryd.underlying4 _), trodAll_mk1 (shut_string Tryd.underlying9 hs), hvars, hg.frame _, fun h => by cases h⟩
end LawTextCmd

theorem fnExactTextCmd_row : Rows.FnExactTextCmdSaid :=
  OpenClaim.holds_of_wide 6 Tryd.f6 rfl rfl rfl rfl rfl rfl rfl ⟨rfl, rfl, rfl, rfl, rfl⟩ rfl rfl rfl rfl rfl (by kernel_rfl) Tryd.func6 (by kernel_rfl)
    (of_decide_eq_true (by kernel_rfl)) (by unfold Func.isWrapper; rw [if_neg (of_decide_eq_false (by kernel_rfl))]; exact ⟨rfl, rfl⟩)
    (fun os started H enc _ => LawTextCmd.lifted os started H enc)

/-- For every text: the law returns true; what it lists is tied to the program's text. -/
theorem fnExactTextCmd_holds : Rows.FnExactTextCmdCardSaid :=
  Claim7.holds_tied_plain_at .later [] _ true _ _
    fnExactTextCmd_row (fun _ h => by cases h) (by kernel_rfl) (fun _ h => by cases h) fnExactTextCmd_row_tie rfl ⟨rfl, rfl⟩ (by kernel_rfl) rfl
    (fun f fn hf hfn => by
      obtain rfl : f = 6 := Option.some.inj ((show Tryd.prog.funcNamed Rows.fnExactTextCmdRow.func = some 6 by kernel_rfl).symm.trans hf) |>.symm
      obtain rfl : fn = Tryd.f6 := (Option.some.inj (Tryd.func6.symm.trans hfn)).symm
      exact ⟨by kernel_rfl, fun j t ht => by
        rw [Tryd.params6] at ht
        have hm : t ∈ [9] := by simpa using Array.mem_of_getElem? ht
        have hall : ([9].all fun u => !Tryd.prog.wantsStandIn u) = true := by kernel_rfl
        exact (show Tryd.prog.wantsStandIn t = false by simpa using List.all_eq_true.1 hall t hm)⟩)
    (by kernel_rfl)
#print axioms fnExactTextCmd_holds
end Go.Proofs.YtccilaffmonbdaaDoor
