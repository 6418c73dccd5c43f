/- What a job asks of its nodes: the program's 'asksFor'; what 'move' tells. -/
import Derived.Test.YtmpjebkjopfejaaGreatMzMvC
import Derived.Test.YtmpjebkjopfejaaGreatMzDfA
import Derived.Deep.RegionHeld3
namespace Go.Proofs.YtmpjebkjopfejaaGreat
open Go.ChangeShapes Go.WideShapes Go.ChangeAt Go.RowKit

structure AskOk (ps : List Int) (ns : List Nd) (j : Jb) (xs : List Int) : Prop where
  job : jobB j = true
  len : (xs.length : Int) = j.nd
  there : NdOk ps ns xs
  differ : xs.Nodup
theorem MvOk.ask {R : Rm} {j : Jb} {xs : List Int} (h : MvOk R j xs) : AskOk R.ps R.ns j xs := ⟨h.job, h.len, ⟨h.room.topo, h.there⟩, h.differ⟩
theorem AskOk.mv {R : Rm} {j : Jb} {xs : List Int} (h : AskOk R.ps R.ns j xs) (hr : ROk R) : MvOk R j xs := ⟨hr, h.job, h.len, h.there.2, h.differ⟩
theorem MvOk.nodes {R : Rm} {j : Jb} {xs : List Int} (h : MvOk R j xs) : 0 < R.ns.length := by
  have hl := h.len
  have hj := h.job
  have hnd : 1 ≤ j.nd := by
    simp only [jobB, Bool.and_eq_true] at hj
    exact (btw_iff.1 hj.2.2.1).1
  have h0 : 0 < xs.length := by omega
  have := h.there xs[0] (List.getElem_mem h0)
  unfold isNd at this
  omega
/-- What 'move' tells and leaves. -/
def RetM (V : World) (add : Bool) (R : Rm) (j : Jb) (f u : Int) (xs : List Int) (Q0 : Nat) (e : Ending) (w' : World) : Prop :=
  (e = .returned (.bool false) ∧ (tkR add j.lic R.lic f u = none ∨ mvP add j.need f u R.pss xs = none) ∧ Below V.heap.size V w') ∨ (∃ (L : List Nd) (Q : List (List Nd)) (K : RK), e = .returned (.bool true) ∧ tkR add j.lic R.lic f u = some L ∧ mvP add j.need f u R.pss xs = some Q ∧ CpM V w' { R with lic := L, pss := Q } K Q0)
theorem retM_no {V w' : World} {add : Bool} {R : Rm} {j : Jb} {f u : Int} {xs : List Int} {Q0 : Nat} {e : Ending} (he : e = .returned (.bool false)) (h : tkR add j.lic R.lic f u = none ∨ mvP add j.need f u R.pss xs = none) (hb : Below V.heap.size V w') : RetM V add R j f u xs Q0 e w' := .inl ⟨he, h, hb⟩
theorem retM_yes {V w' : World} {add : Bool} {R : Rm} {j : Jb} {f u : Int} {xs : List Int} {Q0 : Nat} {e : Ending} {L : List Nd} {Q : List (List Nd)} {K : RK} (he : e = .returned (.bool true)) (hl : tkR add j.lic R.lic f u = some L) (hq : mvP add j.need f u R.pss xs = some Q) (hc : CpM V w' { R with lic := L, pss := Q } K Q0) : RetM V add R j f u xs Q0 e w' := .inr ⟨L, Q, K, he, hl, hq, hc⟩

/-- A right room copied. -/
theorem copyRoom_r (A : Ra) (R : Rm) (hsm : RSmall R) (hok : ROk R) (hn : 0 < R.ns.length) (w : World) (h : RAt w A R) :
    Calls Tryz.prog 61 #[.agg #[.slice A.aP R.ps.length A.cP, .slice A.aN R.ns.length A.cN, .slice A.aU R.up.length A.cU, .slice A.aQ R.pss.length A.cQ, .slice A.aL R.lic.length A.cL]] w fun e w' => ∃ K : RK, e = .returned (.agg #[.slice (some ⟨K.gP, 0, none⟩) R.ps.length K.cP, .slice (some ⟨K.gN, 0, none⟩) R.ns.length K.cN, .slice (some ⟨K.gU, 0, none⟩) R.up.length K.cU, .slice (some ⟨K.gQ, 0, none⟩) R.pss.length K.cQ, .slice (some ⟨K.gL, 0, none⟩) R.lic.length K.cL]) ∧ RStat R K w.heap.size w'.heap.size ∧ RX w' R K ∧ Below w.heap.size w w' := by
  obtain ⟨aP, aN, aU, aQ, aL, cP, cN, cU, cQ, cL⟩ := A
  obtain ⟨sP, sN, sU, sQ, sL⟩ := h
  dsimp only at sP sN sU sQ sL ⊢
  have hp : 0 < R.ps.length := hok.topo.one
  have hu : 0 < R.up.length := by rw [hok.ups]; exact hn
  have hq : 0 < R.pss.length := by rw [hok.profs]; exact hn
  have hl : 0 < R.lic.length := hok.lics.one
  obtain ⟨x1, r1, e1⟩ := head_ints hp
  obtain ⟨x2, r2, e2⟩ := head_flat hn
  obtain ⟨x3, r3, e3⟩ := head_bools hu
  obtain ⟨x4, r4, e4⟩ := head_flat hl
  obtain ⟨pP, rfl, _⟩ := sP.cell 0 _ (by rw [e1]; rfl)
  obtain ⟨pN, rfl, _⟩ := sN.cell 0 _ (by rw [e2]; rfl)
  obtain ⟨pU, rfl, _⟩ := sU.cell 0 _ (by rw [e3]; rfl)
  obtain ⟨pL, rfl, _⟩ := sL.cell 0 _ (by rw [e4]; rfl)
  obtain ⟨pQ, _, _, rfl, _⟩ := sQ.here 0 _ (List.getElem?_eq_getElem hq)
  exact copyRoom_c pP pN pU pQ pL cP cN cU cQ cL R hsm hp hn hu hq hl (fun ns hm => (hok.each ns hm).one) (by rw [hok.profs]; exact hok.topo.nodes) w sP sN sU sQ sL

/-- The specification's copy of a right room owns its memory. -/
def CopyC : Prop := ∀ (A : Ra) (R : Rm), RSmall R → ROk R → 0 < R.ns.length → ∀ w : World, RAt w A R →
    Calls Tryz.prog 24 #[.agg #[.slice A.aP R.ps.length A.cP, .slice A.aN R.ns.length A.cN, .slice A.aU R.up.length A.cU, .slice A.aQ R.pss.length A.cQ, .slice A.aL R.lic.length A.cL]] w fun e w' => ∃ K : RK, e = .returned (.agg #[.slice (some ⟨K.gP, 0, none⟩) R.ps.length K.cP, .slice (some ⟨K.gN, 0, none⟩) R.ns.length K.cN, .slice (some ⟨K.gU, 0, none⟩) R.up.length K.cU, .slice (some ⟨K.gQ, 0, none⟩) R.pss.length K.cQ, .slice (some ⟨K.gL, 0, none⟩) R.lic.length K.cL]) ∧ RStat R K w.heap.size w'.heap.size ∧ RX w' R K ∧ Below w.heap.size w w'
set_option maxRecDepth 20000 in
set_option maxHeartbeats 8000000 in
theorem asksFor_c (aP aN x : Option Addr) (cP cN cx : Nat) (ps : List Int) (ns : List Nd) (j : Jb) (xs : List Int) (hn : ns.length ≤ 1048576) (hx : xs.length ≤ 1048576) (w : World) (hp : Sq w aP (ints ps)) (hq : Sq w aN (flat ns)) (hxs : Sq w x (ints xs)) :
    Calls Tryz.prog 60 #[.agg #[.slice aP ps.length cP, .slice aN ns.length cN], .agg #[.int .i64 j.id, .int .i64 j.pr, .int .i64 j.nd, .int .i64 j.na, .int .i64 j.nb, .int .i64 j.nc, .int .i64 j.la, .int .i64 j.lb, .int .i64 j.lc, .int .i64 j.wl, .int .i64 j.lv], .slice x xs.length cx] w (Says w (AskOk ps ns j xs)) := by
  have HP : Hid (Sq w aP (ints ps)) := hp
  have HQ : Hid (Sq w aN (flat ns)) := hq
  have HXs : Hid (Sq w x (ints xs)) := hxs
  clear hp hq hxs
  go_enter Tryz.func60, Tryz.ntmps60
  go_wp2_with fail
  generalize hV : (w.alloc (.cells #[.slice aP ps.length cP, .slice aN ns.length cN] 40)).alloc (.cells #[.int .i64 j.id, .int .i64 j.pr, .int .i64 j.nd, .int .i64 j.na, .int .i64 j.nb, .int .i64 j.nc, .int .i64 j.la, .int .i64 j.lb, .int .i64 j.lc, .int .i64 j.wl, .int .i64 j.lv] 52) = V
  have HA : Hid (Row V w.heap.size [.slice aP ps.length cP, .slice aN ns.length cN]) := by subst hV; exact (row_fresh w [.slice aP ps.length cP, .slice aN ns.length cN] 40).below (low_alloc _ _)
  have HJ : Hid (Row V (w.heap.size + 1) [.int .i64 j.id, .int .i64 j.pr, .int .i64 j.nd, .int .i64 j.na, .int .i64 j.nb, .int .i64 j.nc, .int .i64 j.la, .int .i64 j.lb, .int .i64 j.lc, .int .i64 j.wl, .int .i64 j.lv]) := by
    subst hV
    have h := row_fresh (w.alloc (.cells #[.slice aP ps.length cP, .slice aN ns.length cN] 40)) [.int .i64 j.id, .int .i64 j.pr, .int .i64 j.nd, .int .i64 j.na, .int .i64 j.nb, .int .i64 j.nc, .int .i64 j.la, .int .i64 j.lb, .int .i64 j.lc, .int .i64 j.wl, .int .i64 j.lv] 52
    rw [show (w.alloc (.cells #[.slice aP ps.length cP, .slice aN ns.length cN] 40)).heap.size = w.heap.size + 1 by simp [go_sem]] at h
    exact h
  have BV : Hid (Below w.heap.size w V) := by subst hV; exact behind_alloc (low_alloc _ _) _
  clear hV
  refine (implJobOk_c j _).mono ?_
  rintro e w2 ⟨rfl, hb⟩
  have B2 : Hid (Below V.heap.size V w2) := hb
  clear hb
  have y2 := (HJ.out.below B2.out).cell 2 _ rfl
  cases hjb : jobB j
  · have HN : Hid (¬ AskOk ps ns j xs) := fun t => by have := t.job; rw [hjb] at this; cases this
    clear hjb
    go_wp2_with fail
    go_ret
    exact says_no rfl HN.out (below_then BV.out B2.out)
  have HJok : Hid (jobB j = true) := hjb
  clear hjb
  by_cases hlen : (xs.length : Int) = j.nd
  rotate_left
  · have HN : Hid (¬ AskOk ps ns j xs) := fun t => hlen t.len
    have hd : ((xs.length : Int) == j.nd) = false := by simpa using hlen
    clear hlen
    go_wp2_with fail
    go_ret
    exact says_no rfl HN.out (below_then BV.out B2.out)
  have hd : ((xs.length : Int) == j.nd) = true := by simpa using hlen
  have HLen : Hid ((xs.length : Int) = j.nd) := hlen
  clear hlen
  have a0 := (HA.out.below B2.out).cell 0 _ rfl
  have a1 := (HA.out.below B2.out).cell 1 _ rfl
  go_wp2_with fail
  clear y2 a0 a1 hd
  refine (nodesThere_c aP aN x cP cN cx ps ns xs hn hx _ ((HP.out.below BV.out).below B2.out) ((HQ.out.below BV.out).below B2.out) ((HXs.out.below BV.out).below B2.out)).mono ?_
  rintro e w3 ⟨k, rfl, hk, hb⟩
  have B3 : Hid (Below V.heap.size V w3) := below_then B2.out hb
  have HK : Hid (k = true ↔ NdOk ps ns xs) := hk
  clear hb hk B2
  cases k
  · have HN : Hid (¬ AskOk ps ns j xs) := fun t => by have := HK.out.2 t.there; cases this
    clear HK
    go_wp2_with fail
    go_ret
    exact says_no rfl HN.out (below_then BV.out B3.out)
  have HThere : Hid (NdOk ps ns xs) := HK.out.1 rfl
  clear HK
  go_wp2_with fail
  refine (allDiffer_c x cx xs hx _ ((HXs.out.below BV.out).below B3.out)).mono ?_
  rintro e w4 ⟨rfl, hb⟩
  have B4 : Hid (Below V.heap.size V w4) := below_then B3.out hb
  clear hb B3
  generalize hdf : decide xs.Nodup = k
  have HY : Hid (k = true ↔ AskOk ps ns j xs) := ⟨fun e => ⟨HJok.out, HLen.out, HThere.out, by subst e; exact of_decide_eq_true hdf⟩, fun t => by rw [← hdf]; exact decide_eq_true t.differ⟩
  clear hdf
  go_wp2_with fail
  go_ret
  exact ⟨k, rfl, HY.out, below_then BV.out B4.out⟩
end Go.Proofs.YtmpjebkjopfejaaGreat
