/- The program's Reserve. -/
import Derived.Test.YtplaajldmklngaaGreatMzMvB
namespace Go.Proofs.YtplaajldmklngaaGreat
open Go.ChangeShapes Go.WideShapes Go.ChangeAt Go.RowKit

set_option maxRecDepth 100000 in
set_option maxHeartbeats 4000000 in
theorem implReserve_c (A : Ra) (R : Rm) (j : Jb) (f : Int) (x : Option Addr) (cx : Nat) (xs : List Int) (hs : RSmall R) (hx : xs.length ≤ 1048576) (w : World) (h : RAt w A R) (hxs : Sq w x (ints xs)) :
    Calls Tryz.prog 23 #[.agg #[.slice A.aP R.ps.length A.cP, .slice A.aN R.ns.length A.cN, .slice A.aU R.up.length A.cU, .slice A.aQ R.pss.length A.cQ, .slice A.aL R.lic.length A.cL], .agg #[.int .i64 j.id, .int .i64 j.pr, .int .i64 j.nd, .int .i64 j.na, .int .i64 j.nb, .int .i64 j.nc, .int .i64 j.la, .int .i64 j.lb, .int .i64 j.lc, .int .i64 j.wl, .int .i64 j.lv], .int .i64 f, .slice x xs.length cx] w (RetR w (mvR false R j f (wrap64 (f + j.wl)) xs)) := by
  generalize hu : wrap64 (f + j.wl) = u
  have H : Hid (RAt w A R) := h
  have HM : Hid (RSmall R) := hs
  have HXs : Hid (Sq w x (ints xs)) := hxs
  clear h hs hxs
  go_enter Tryz.func23, Tryz.ntmps23
  go_wp2_with fail
  generalize hV : ((w.alloc (.cells #[.slice A.aP R.ps.length A.cP, .slice A.aN R.ns.length A.cN, .slice A.aU R.up.length A.cU, .slice A.aQ R.pss.length A.cQ, .slice A.aL R.lic.length A.cL] 48)).alloc (.cells #[.int .i64 j.id, .int .i64 j.pr, .int .i64 j.nd, .int .i64 j.na, .int .i64 j.nb, .int .i64 j.nc, .int .i64 j.la, .int .i64 j.lb, .int .i64 j.lc, .int .i64 j.wl, .int .i64 j.lv] 52)).alloc (.cells #[.slice none 0 0, .slice none 0 0, .slice none 0 0, .slice none 0 0, .slice none 0 0] 48) = V
  have HZ : Hid (Row V (w.heap.size + 1 + 1) [.slice none 0 0, .slice none 0 0, .slice none 0 0, .slice none 0 0, .slice none 0 0]) := by
    subst hV
    have h := row_fresh ((w.alloc (.cells #[.slice A.aP R.ps.length A.cP, .slice A.aN R.ns.length A.cN, .slice A.aU R.up.length A.cU, .slice A.aQ R.pss.length A.cQ, .slice A.aL R.lic.length A.cL] 48)).alloc (.cells #[.int .i64 j.id, .int .i64 j.pr, .int .i64 j.nd, .int .i64 j.na, .int .i64 j.nb, .int .i64 j.nc, .int .i64 j.la, .int .i64 j.lb, .int .i64 j.lc, .int .i64 j.wl, .int .i64 j.lv] 52)) [.slice none 0 0, .slice none 0 0, .slice none 0 0, .slice none 0 0, .slice none 0 0] 48
    rw [show ((w.alloc (.cells #[.slice A.aP R.ps.length A.cP, .slice A.aN R.ns.length A.cN, .slice A.aU R.up.length A.cU, .slice A.aQ R.pss.length A.cQ, .slice A.aL R.lic.length A.cL] 48)).alloc (.cells #[.int .i64 j.id, .int .i64 j.pr, .int .i64 j.nd, .int .i64 j.na, .int .i64 j.nb, .int .i64 j.nc, .int .i64 j.la, .int .i64 j.lb, .int .i64 j.lc, .int .i64 j.wl, .int .i64 j.lv] 52)).heap.size = w.heap.size + 1 + 1 by simp [go_sem]] at h
    exact h
  have BV : Hid (Below w.heap.size w V) := by subst hV; exact behind_alloc (behind_alloc (low_alloc _ _) _) _
  clear hV
  have hZV : w.heap.size + 1 + 1 < V.heap.size := HZ.out.lt
  refine (moved_false A R j f u x cx xs HM.out hx _ (H.out.below BV.out) (HXs.out.below BV.out)).mono ?_
  rintro e w1 hret
  generalize hO : mvR false R j f u xs = o at hret
  have HO : Hid (mvR false R j f u xs = o) := hO
  clear hO
  cases o with
  | none =>
    obtain ⟨rfl, hb⟩ := hret
    have B1 : Hid (Below V.heap.size V w1) := hb
    clear hb
    have z0 := (HZ.out.below B1.out).cell 0 _ rfl
    have f0 := (HZ.out.below B1.out).free 0
    have z1 := (HZ.out.below B1.out).cell 1 _ rfl
    have f1 := (HZ.out.below B1.out).free 1
    have z2 := (HZ.out.below B1.out).cell 2 _ rfl
    have f2 := (HZ.out.below B1.out).free 2
    have z3 := (HZ.out.below B1.out).cell 3 _ rfl
    have f3 := (HZ.out.below B1.out).free 3
    have z4 := (HZ.out.below B1.out).cell 4 _ rfl
    have f4 := (HZ.out.below B1.out).free 4
    have B8 := below_then BV.out B1.out
    go_wp2_with fail
    exact bodyPost_ret (v := .tuple #[.agg #[.slice none 0 0, .slice none 0 0, .slice none 0 0, .slice none 0 0, .slice none 0 0], .bool false]) (by simp [results, Tryz.results23, go_sem, *]) rfl (retR_no HO.out rfl (below_setL (show w.heap.size ≤ w.heap.size + 1 + 1 by omega) [.slice none 0 0, .slice none 0 0, .slice none 0 0, .slice none 0 0, .slice none 0 0] 0 B8))
  | some Q =>
    obtain ⟨K, rfl, hst, hrx, hb⟩ := hret
    have B1 : Hid (Below V.heap.size V w1) := hb
    have HS : Hid (RStat Q K V.heap.size w1.heap.size) := hst
    have HX : Hid (RX w1 Q K) := hrx
    clear hb hst hrx
    have z0 := (HZ.out.below B1.out).cell 0 _ rfl
    have f0 := (HZ.out.below B1.out).free 0
    have z1 := (HZ.out.below B1.out).cell 1 _ rfl
    have f1 := (HZ.out.below B1.out).free 1
    have z2 := (HZ.out.below B1.out).cell 2 _ rfl
    have f2 := (HZ.out.below B1.out).free 2
    have z3 := (HZ.out.below B1.out).cell 3 _ rfl
    have f3 := (HZ.out.below B1.out).free 3
    have z4 := (HZ.out.below B1.out).cell 4 _ rfl
    have f4 := (HZ.out.below B1.out).free 4
    have B8 := below_then BV.out B1.out
    go_wp2_with fail
    have far : ∀ {b : Nat} {ys : List Value}, Row w1 b ys → V.heap.size ≤ b → Row (setL w1 (w.heap.size + 1 + 1) 0 [.slice (some ⟨K.gP, 0, none⟩) Q.ps.length K.cP, .slice (some ⟨K.gN, 0, none⟩) Q.ns.length K.cN, .slice (some ⟨K.gU, 0, none⟩) Q.up.length K.cU, .slice (some ⟨K.gQ, 0, none⟩) Q.pss.length K.cQ, .slice (some ⟨K.gL, 0, none⟩) Q.lic.length K.cL]) b ys := fun hr hb => ((((hr.apart (w.heap.size + 1 + 1) 0 _ (by omega)).apart (w.heap.size + 1 + 1) 1 _ (by omega)).apart (w.heap.size + 1 + 1) 2 _ (by omega)).apart (w.heap.size + 1 + 1) 3 _ (by omega)).apart (w.heap.size + 1 + 1) 4 _ (by omega)
    have hrg := HS.out.rng
    have hrx := HX.out
    have hBl : Below w.heap.size w (setL w1 (w.heap.size + 1 + 1) 0 [.slice (some ⟨K.gP, 0, none⟩) Q.ps.length K.cP, .slice (some ⟨K.gN, 0, none⟩) Q.ns.length K.cN, .slice (some ⟨K.gU, 0, none⟩) Q.up.length K.cU, .slice (some ⟨K.gQ, 0, none⟩) Q.pss.length K.cQ, .slice (some ⟨K.gL, 0, none⟩) Q.lic.length K.cL]) := below_setL (by omega) _ _ B8
    have hsz : (setL w1 (w.heap.size + 1 + 1) 0 [.slice (some ⟨K.gP, 0, none⟩) Q.ps.length K.cP, .slice (some ⟨K.gN, 0, none⟩) Q.ns.length K.cN, .slice (some ⟨K.gU, 0, none⟩) Q.up.length K.cU, .slice (some ⟨K.gQ, 0, none⟩) Q.pss.length K.cQ, .slice (some ⟨K.gL, 0, none⟩) Q.lic.length K.cL]).heap.size = w1.heap.size := by simp only [setL, World.size_setCell]
    have hst : RStat Q K w.heap.size w1.heap.size := ⟨HS.out.hh, HS.out.tqs, fun b hb => by have := hrg b hb; have := BV.out.size; omega, HS.out.nd⟩
    rw [← hsz] at hst
    exact bodyPost_ret (v := .tuple #[.agg #[.slice (some ⟨K.gP, 0, none⟩) Q.ps.length K.cP, .slice (some ⟨K.gN, 0, none⟩) Q.ns.length K.cN, .slice (some ⟨K.gU, 0, none⟩) Q.up.length K.cU, .slice (some ⟨K.gQ, 0, none⟩) Q.pss.length K.cQ, .slice (some ⟨K.gL, 0, none⟩) Q.lic.length K.cL], .bool true]) (by simp [results, Tryz.results23, go_sem, *]) rfl (retR_yes HO.out K rfl hst ⟨far hrx.rP (hrg _ (by simp [RK.blocks])).1, far hrx.rN (hrg _ (by simp [RK.blocks])).1, far hrx.rU (hrg _ (by simp [RK.blocks])).1, far hrx.rQ (hrg _ (by simp [RK.blocks])).1, fun i h ns h1 h2 => far (hrx.each i h ns h1 h2) (hrg _ (mem_bl h1)).1, far hrx.rL (hrg _ (by simp [RK.blocks])).1⟩ hBl)
end Go.Proofs.YtplaajldmklngaaGreat
