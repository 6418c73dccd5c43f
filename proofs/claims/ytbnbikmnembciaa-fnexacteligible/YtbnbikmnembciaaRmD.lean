/- Rooms: what a room is, copied. -/
import Derived.Test.YtbnbikmnembciaaRmC
namespace Go.Proofs.Ytbnbikmnembciaa
open Go.ChangeShapes Go.WideShapes Go.ChangeAt Go.RowKit

/-- A room: switches, nodes, which are up, what is free on them and of the licences. -/
structure Rm where
  (ps : List Int) (ns : List Nd) (up : List Bool) (pss : List (List Nd)) (lic : List Nd)
/-- Where its five rows begin, and their room. -/
structure Ra where
  (aP aN aU aQ aL : Option Addr) (cP cN cU cQ cL : Nat)
structure RAt (w : World) (A : Ra) (R : Rm) : Prop where
  sP : Sq w A.aP (ints R.ps)
  sN : Sq w A.aN (flat R.ns)
  sU : Sq w A.aU (bools R.up)
  sQ : PVs w A.aQ R.pss
  sL : Sq w A.aL (flat R.lic)
theorem RAt.below {w w' : World} {A : Ra} {R : Rm} (h : RAt w A R) (hb : Below w.heap.size w w') : RAt w' A R := ⟨h.sP.below hb, h.sN.below hb, h.sU.below hb, h.sQ.below hb, h.sL.below hb⟩

theorem OPs.apart {w : World} {g : Nat} {pss : List (List Nd)} {hs : List Nat} (h : OPs w g pss hs) {b i : Nat} {v : Value} (hb : b < g) : OPs (w.setCell ⟨b, i, none⟩ v) g pss hs :=
  ⟨h.len, h.top.apart b i v (by omega), fun j x ns h1 h2 => (h.each j x ns h1 h2).apart b i v (by have := (List.pairwise_cons.1 h.rise).1 x (List.mem_of_getElem? h1); omega), h.rise⟩
theorem OPs.lt {w : World} {g : Nat} {pss : List (List Nd)} {hs : List Nat} (h : OPs w g pss hs) : g < w.heap.size ∧ ∀ x ∈ hs, x < w.heap.size := ⟨h.top.lt, fun x hx => by
  obtain ⟨i, hi⟩ := List.getElem?_of_mem hx
  have hil := (List.getElem?_eq_some_iff.1 hi).1
  exact (h.each i x _ hi (List.getElem?_eq_getElem (by rw [← h.len]; exact hil))).lt⟩

/-- A room of the call's own. -/
structure RO (w : World) (B : Nat) (R : Rm) (gP gN gU gQ gL : Nat) (hs : List Nat) : Prop where
  rP : Row w gP (ints R.ps)
  rN : Row w gN (flat R.ns)
  rU : Row w gU (bools R.up)
  oQ : OPs w gQ R.pss hs
  rL : Row w gL (flat R.lic)
  ord : B ≤ gP ∧ gP < gN ∧ gN < gU ∧ gU < gQ ∧ gQ < gL
  last : ∀ h ∈ hs, h < gL
theorem RO.below {w w' : World} {B : Nat} {R : Rm} {gP gN gU gQ gL : Nat} {hs : List Nat} (h : RO w B R gP gN gU gQ gL hs) (hb : Below w.heap.size w w') : RO w' B R gP gN gU gQ gL hs := ⟨h.rP.below hb, h.rN.below hb, h.rU.below hb, h.oQ.below hb, h.rL.below hb, h.ord, h.last⟩
/-- The addresses of such a room. -/
def ownRa (R : Rm) (gP gN gU gQ gL : Nat) : Ra := ⟨some ⟨gP, 0, none⟩, some ⟨gN, 0, none⟩, some ⟨gU, 0, none⟩, some ⟨gQ, 0, none⟩, some ⟨gL, 0, none⟩, R.ps.length, R.ns.length, R.up.length, R.pss.length, R.lic.length⟩
theorem RO.rat {w : World} {B : Nat} {R : Rm} {gP gN gU gQ gL : Nat} {hs : List Nat} (h : RO w B R gP gN gU gQ gL hs) : RAt w (ownRa R gP gN gU gQ gL) R := ⟨Sq.of_row h.rP, Sq.of_row h.rN, Sq.of_row h.rU, h.oQ.pvs, Sq.of_row h.rL⟩
/-- Rows that can be copied. -/
structure RSmall (R : Rm) : Prop where
  p : R.ps.length ≤ 1048576
  n : R.ns.length ≤ 1048576
  u : R.up.length ≤ 1048576
  q : R.pss.length ≤ 1048576
  e : ∀ ns ∈ R.pss, ns.length ≤ 1048576
  l : R.lic.length ≤ 1048576

set_option maxHeartbeats 4000000 in
theorem toRoom_c (A : Ra) (R : Rm) (hsm : RSmall R) (w : World) (h : RAt w A R) :
    Calls Try.prog 6 #[.agg #[.slice A.aP R.ps.length A.cP, .slice A.aN R.ns.length A.cN, .slice A.aU R.up.length A.cU, .slice A.aQ R.pss.length A.cQ, .slice A.aL R.lic.length A.cL]] w fun e w' => ∃ gP gN gU gQ gL hs, e = .returned (.agg #[.slice (some ⟨gP, 0, none⟩) R.ps.length R.ps.length, .slice (some ⟨gN, 0, none⟩) R.ns.length R.ns.length, .slice (some ⟨gU, 0, none⟩) R.up.length R.up.length, .slice (some ⟨gQ, 0, none⟩) R.pss.length R.pss.length, .slice (some ⟨gL, 0, none⟩) R.lic.length R.lic.length]) ∧ RO w' w.heap.size R gP gN gU gQ gL hs ∧ Below w.heap.size w w' := by
  have H : Hid (RAt w A R) := h
  have HM : Hid (RSmall R) := hsm
  clear h hsm
  go_enter Try.func6, Try.ntmps6
  go_wp2_with fail
  generalize hV : ((w.alloc (.cells #[.slice A.aP R.ps.length A.cP, .slice A.aN R.ns.length A.cN, .slice A.aU R.up.length A.cU, .slice A.aQ R.pss.length A.cQ, .slice A.aL R.lic.length A.cL] 32)).alloc (.cells #[.slice none 0 0, .slice none 0 0, .slice none 0 0, .slice none 0 0, .slice none 0 0] 45)).alloc (.cells #[.slice none 0 0, .slice none 0 0, .slice none 0 0, .slice none 0 0, .slice none 0 0] 45) = V
  have HA0 : Hid (Row V w.heap.size [.slice A.aP R.ps.length A.cP, .slice A.aN R.ns.length A.cN, .slice A.aU R.up.length A.cU, .slice A.aQ R.pss.length A.cQ, .slice A.aL R.lic.length A.cL]) := by subst hV; exact ((row_fresh w [.slice A.aP R.ps.length A.cP, .slice A.aN R.ns.length A.cN, .slice A.aU R.up.length A.cU, .slice A.aQ R.pss.length A.cQ, .slice A.aL R.lic.length A.cL] 32).below (low_alloc _ _)).below (low_alloc _ _)
  have HR0 : Hid (Row V (w.heap.size + 1) [.slice none 0 0, .slice none 0 0, .slice none 0 0, .slice none 0 0, .slice none 0 0]) := by
    subst hV
    have h := row_fresh (w.alloc (.cells #[.slice A.aP R.ps.length A.cP, .slice A.aN R.ns.length A.cN, .slice A.aU R.up.length A.cU, .slice A.aQ R.pss.length A.cQ, .slice A.aL R.lic.length A.cL] 32)) [.slice none 0 0, .slice none 0 0, .slice none 0 0, .slice none 0 0, .slice none 0 0] 45
    rw [show (w.alloc (.cells #[.slice A.aP R.ps.length A.cP, .slice A.aN R.ns.length A.cN, .slice A.aU R.up.length A.cU, .slice A.aQ R.pss.length A.cQ, .slice A.aL R.lic.length A.cL] 32)).heap.size = w.heap.size + 1 by simp [go_sem]] at h
    exact h.below (low_alloc _ _)
  have HO0 : Hid (Row V (w.heap.size + 1 + 1) [.slice none 0 0, .slice none 0 0, .slice none 0 0, .slice none 0 0, .slice none 0 0]) := by
    subst hV
    have h := row_fresh ((w.alloc (.cells #[.slice A.aP R.ps.length A.cP, .slice A.aN R.ns.length A.cN, .slice A.aU R.up.length A.cU, .slice A.aQ R.pss.length A.cQ, .slice A.aL R.lic.length A.cL] 32)).alloc (.cells #[.slice none 0 0, .slice none 0 0, .slice none 0 0, .slice none 0 0, .slice none 0 0] 45)) [.slice none 0 0, .slice none 0 0, .slice none 0 0, .slice none 0 0, .slice none 0 0] 45
    rw [show ((w.alloc (.cells #[.slice A.aP R.ps.length A.cP, .slice A.aN R.ns.length A.cN, .slice A.aU R.up.length A.cU, .slice A.aQ R.pss.length A.cQ, .slice A.aL R.lic.length A.cL] 32)).alloc (.cells #[.slice none 0 0, .slice none 0 0, .slice none 0 0, .slice none 0 0, .slice none 0 0] 45)).heap.size = w.heap.size + 1 + 1 by simp [go_sem]] at h
    exact h
  have HB0 : Hid (Below w.heap.size w V) := by subst hV; exact behind_alloc (behind_alloc (low_alloc _ _) _) _
  clear hV
  generalize V = w0 at *
  have hs0 := HO0.out.lt
  refine (toTopo_c A.aP A.aN A.cP A.cN R.ps R.ns HM.out.p HM.out.n _ (H.out.sP.below HB0.out) (H.out.sN.below HB0.out)).mono ?_
  rintro e w1 ⟨gP, gN, rfl, hg, hgh, hr, hr2, hb⟩
  have HA1 : Hid (Row w1 w.heap.size [.slice A.aP R.ps.length A.cP, .slice A.aN R.ns.length A.cN, .slice A.aU R.up.length A.cU, .slice A.aQ R.pss.length A.cQ, .slice A.aL R.lic.length A.cL]) := HA0.out.below hb
  have HR1 : Hid (Row w1 (w.heap.size + 1) [.slice none 0 0, .slice none 0 0, .slice none 0 0, .slice none 0 0, .slice none 0 0]) := HR0.out.below hb
  have HO1 : Hid (Row w1 (w.heap.size + 1 + 1) [.slice none 0 0, .slice none 0 0, .slice none 0 0, .slice none 0 0, .slice none 0 0]) := HO0.out.below hb
  have HB1 : Hid (Below w.heap.size w w1) := below_then HB0.out hb
  have HP1 : Hid (Row w1 gP (ints R.ps)) := hr
  have HN1 : Hid (Row w1 gN (flat R.ns)) := hr2
  clear hb hr HA0 HR0 HO0 HB0
  clear hr2
  have hO : w.heap.size + 1 + 1 < gP := by have := hs0; omega
  have o0 := HO1.out.cell 0 _ rfl
  have f0 := HO1.out.free 0
  have o1 := HO1.out.cell 1 _ rfl
  have f1 := HO1.out.free 1
  have a2 := HA1.out.cell 2 _ rfl
  have HA2 : Hid (Row ((w1.setCell ⟨w.heap.size + 1 + 1, 0, none⟩ (.slice (some ⟨gP, 0, none⟩) R.ps.length R.ps.length)).setCell ⟨w.heap.size + 1 + 1, 1, none⟩ (.slice (some ⟨gN, 0, none⟩) R.ns.length R.ns.length)) w.heap.size [.slice A.aP R.ps.length A.cP, .slice A.aN R.ns.length A.cN, .slice A.aU R.up.length A.cU, .slice A.aQ R.pss.length A.cQ, .slice A.aL R.lic.length A.cL]) := ((HA1.out.apart (w.heap.size + 1 + 1) 0 (.slice (some ⟨gP, 0, none⟩) R.ps.length R.ps.length) (by omega)).apart (w.heap.size + 1 + 1) 1 (.slice (some ⟨gN, 0, none⟩) R.ns.length R.ns.length) (by omega))
  have HR2 : Hid (Row ((w1.setCell ⟨w.heap.size + 1 + 1, 0, none⟩ (.slice (some ⟨gP, 0, none⟩) R.ps.length R.ps.length)).setCell ⟨w.heap.size + 1 + 1, 1, none⟩ (.slice (some ⟨gN, 0, none⟩) R.ns.length R.ns.length)) (w.heap.size + 1) [.slice none 0 0, .slice none 0 0, .slice none 0 0, .slice none 0 0, .slice none 0 0]) := ((HR1.out.apart (w.heap.size + 1 + 1) 0 (.slice (some ⟨gP, 0, none⟩) R.ps.length R.ps.length) (by omega)).apart (w.heap.size + 1 + 1) 1 (.slice (some ⟨gN, 0, none⟩) R.ns.length R.ns.length) (by omega))
  have HO2 : Hid (Row ((w1.setCell ⟨w.heap.size + 1 + 1, 0, none⟩ (.slice (some ⟨gP, 0, none⟩) R.ps.length R.ps.length)).setCell ⟨w.heap.size + 1 + 1, 1, none⟩ (.slice (some ⟨gN, 0, none⟩) R.ns.length R.ns.length)) (w.heap.size + 1 + 1) [.slice (some ⟨gP, 0, none⟩) R.ps.length R.ps.length, .slice (some ⟨gN, 0, none⟩) R.ns.length R.ns.length, .slice none 0 0, .slice none 0 0, .slice none 0 0]) := ((HO1.out.set 0 (by simp) (.slice (some ⟨gP, 0, none⟩) R.ps.length R.ps.length)).set 1 (by simp) (.slice (some ⟨gN, 0, none⟩) R.ns.length R.ns.length))
  have HB2 : Hid (Below w.heap.size w ((w1.setCell ⟨w.heap.size + 1 + 1, 0, none⟩ (.slice (some ⟨gP, 0, none⟩) R.ps.length R.ps.length)).setCell ⟨w.heap.size + 1 + 1, 1, none⟩ (.slice (some ⟨gN, 0, none⟩) R.ns.length R.ns.length))) := ((HB1.out.setCell (p := ⟨w.heap.size + 1 + 1, 0, none⟩) (by show w.heap.size ≤ w.heap.size + 1 + 1; omega) _).setCell (p := ⟨w.heap.size + 1 + 1, 1, none⟩) (by show w.heap.size ≤ w.heap.size + 1 + 1; omega) _)
  have HP2 : Hid (Row ((w1.setCell ⟨w.heap.size + 1 + 1, 0, none⟩ (.slice (some ⟨gP, 0, none⟩) R.ps.length R.ps.length)).setCell ⟨w.heap.size + 1 + 1, 1, none⟩ (.slice (some ⟨gN, 0, none⟩) R.ns.length R.ns.length)) gP (ints R.ps)) := ((HP1.out.apart (w.heap.size + 1 + 1) 0 (.slice (some ⟨gP, 0, none⟩) R.ps.length R.ps.length) (by omega)).apart (w.heap.size + 1 + 1) 1 (.slice (some ⟨gN, 0, none⟩) R.ns.length R.ns.length) (by omega))
  have HN2 : Hid (Row ((w1.setCell ⟨w.heap.size + 1 + 1, 0, none⟩ (.slice (some ⟨gP, 0, none⟩) R.ps.length R.ps.length)).setCell ⟨w.heap.size + 1 + 1, 1, none⟩ (.slice (some ⟨gN, 0, none⟩) R.ns.length R.ns.length)) gN (flat R.ns)) := ((HN1.out.apart (w.heap.size + 1 + 1) 0 (.slice (some ⟨gP, 0, none⟩) R.ps.length R.ps.length) (by omega)).apart (w.heap.size + 1 + 1) 1 (.slice (some ⟨gN, 0, none⟩) R.ns.length R.ns.length) (by omega))
  go_wp2_with fail
  generalize ((w1.setCell ⟨w.heap.size + 1 + 1, 0, none⟩ (.slice (some ⟨gP, 0, none⟩) R.ps.length R.ps.length)).setCell ⟨w.heap.size + 1 + 1, 1, none⟩ (.slice (some ⟨gN, 0, none⟩) R.ns.length R.ns.length)) = w2 at *
  clear HA1 HR1 HO1 HB1 HP1 HN1 o0 f0 o1 f1 a2
  have hN2 := HN2.out.lt
  refine (toBoolS_c A.aU A.cU R.up HM.out.u _ (H.out.sU.below HB2.out)).mono ?_
  rintro e w3 ⟨gU, rfl, hgU, hr, hb⟩
  have HA3 : Hid (Row w3 w.heap.size [.slice A.aP R.ps.length A.cP, .slice A.aN R.ns.length A.cN, .slice A.aU R.up.length A.cU, .slice A.aQ R.pss.length A.cQ, .slice A.aL R.lic.length A.cL]) := HA2.out.below hb
  have HR3 : Hid (Row w3 (w.heap.size + 1) [.slice none 0 0, .slice none 0 0, .slice none 0 0, .slice none 0 0, .slice none 0 0]) := HR2.out.below hb
  have HO3 : Hid (Row w3 (w.heap.size + 1 + 1) [.slice (some ⟨gP, 0, none⟩) R.ps.length R.ps.length, .slice (some ⟨gN, 0, none⟩) R.ns.length R.ns.length, .slice none 0 0, .slice none 0 0, .slice none 0 0]) := HO2.out.below hb
  have HB3 : Hid (Below w.heap.size w w3) := below_then HB2.out hb
  have HP3 : Hid (Row w3 gP (ints R.ps)) := HP2.out.below hb
  have HN3 : Hid (Row w3 gN (flat R.ns)) := HN2.out.below hb
  have HU3 : Hid (Row w3 gU (bools R.up)) := hr
  clear hb hr HA2 HR2 HO2 HB2 HP2 HN2
  have o2 := HO3.out.cell 2 _ rfl
  have f2 := HO3.out.free 2
  have a3 := HA3.out.cell 3 _ rfl
  have HA4 : Hid (Row (w3.setCell ⟨w.heap.size + 1 + 1, 2, none⟩ (.slice (some ⟨gU, 0, none⟩) R.up.length R.up.length)) w.heap.size [.slice A.aP R.ps.length A.cP, .slice A.aN R.ns.length A.cN, .slice A.aU R.up.length A.cU, .slice A.aQ R.pss.length A.cQ, .slice A.aL R.lic.length A.cL]) := (HA3.out.apart (w.heap.size + 1 + 1) 2 (.slice (some ⟨gU, 0, none⟩) R.up.length R.up.length) (by omega))
  have HR4 : Hid (Row (w3.setCell ⟨w.heap.size + 1 + 1, 2, none⟩ (.slice (some ⟨gU, 0, none⟩) R.up.length R.up.length)) (w.heap.size + 1) [.slice none 0 0, .slice none 0 0, .slice none 0 0, .slice none 0 0, .slice none 0 0]) := (HR3.out.apart (w.heap.size + 1 + 1) 2 (.slice (some ⟨gU, 0, none⟩) R.up.length R.up.length) (by omega))
  have HO4 : Hid (Row (w3.setCell ⟨w.heap.size + 1 + 1, 2, none⟩ (.slice (some ⟨gU, 0, none⟩) R.up.length R.up.length)) (w.heap.size + 1 + 1) [.slice (some ⟨gP, 0, none⟩) R.ps.length R.ps.length, .slice (some ⟨gN, 0, none⟩) R.ns.length R.ns.length, .slice (some ⟨gU, 0, none⟩) R.up.length R.up.length, .slice none 0 0, .slice none 0 0]) := (HO3.out.set 2 (by simp) (.slice (some ⟨gU, 0, none⟩) R.up.length R.up.length))
  have HB4 : Hid (Below w.heap.size w (w3.setCell ⟨w.heap.size + 1 + 1, 2, none⟩ (.slice (some ⟨gU, 0, none⟩) R.up.length R.up.length))) := (HB3.out.setCell (p := ⟨w.heap.size + 1 + 1, 2, none⟩) (by show w.heap.size ≤ w.heap.size + 1 + 1; omega) _)
  have HP4 : Hid (Row (w3.setCell ⟨w.heap.size + 1 + 1, 2, none⟩ (.slice (some ⟨gU, 0, none⟩) R.up.length R.up.length)) gP (ints R.ps)) := (HP3.out.apart (w.heap.size + 1 + 1) 2 (.slice (some ⟨gU, 0, none⟩) R.up.length R.up.length) (by omega))
  have HN4 : Hid (Row (w3.setCell ⟨w.heap.size + 1 + 1, 2, none⟩ (.slice (some ⟨gU, 0, none⟩) R.up.length R.up.length)) gN (flat R.ns)) := (HN3.out.apart (w.heap.size + 1 + 1) 2 (.slice (some ⟨gU, 0, none⟩) R.up.length R.up.length) (by omega))
  have HU4 : Hid (Row (w3.setCell ⟨w.heap.size + 1 + 1, 2, none⟩ (.slice (some ⟨gU, 0, none⟩) R.up.length R.up.length)) gU (bools R.up)) := (HU3.out.apart (w.heap.size + 1 + 1) 2 (.slice (some ⟨gU, 0, none⟩) R.up.length R.up.length) (by omega))
  go_wp2_with fail
  generalize (w3.setCell ⟨w.heap.size + 1 + 1, 2, none⟩ (.slice (some ⟨gU, 0, none⟩) R.up.length R.up.length)) = w4 at *
  clear HA3 HR3 HO3 HB3 HP3 HN3 HU3 o2 f2 a3
  have hU4 := HU4.out.lt
  refine (toProfS_c A.aQ A.cQ R.pss HM.out.q HM.out.e _ (H.out.sQ.below HB4.out)).mono ?_
  rintro e w5 ⟨gQ, hs, rfl, hgQ, hr, hb⟩
  have HA5 : Hid (Row w5 w.heap.size [.slice A.aP R.ps.length A.cP, .slice A.aN R.ns.length A.cN, .slice A.aU R.up.length A.cU, .slice A.aQ R.pss.length A.cQ, .slice A.aL R.lic.length A.cL]) := HA4.out.below hb
  have HR5 : Hid (Row w5 (w.heap.size + 1) [.slice none 0 0, .slice none 0 0, .slice none 0 0, .slice none 0 0, .slice none 0 0]) := HR4.out.below hb
  have HO5 : Hid (Row w5 (w.heap.size + 1 + 1) [.slice (some ⟨gP, 0, none⟩) R.ps.length R.ps.length, .slice (some ⟨gN, 0, none⟩) R.ns.length R.ns.length, .slice (some ⟨gU, 0, none⟩) R.up.length R.up.length, .slice none 0 0, .slice none 0 0]) := HO4.out.below hb
  have HB5 : Hid (Below w.heap.size w w5) := below_then HB4.out hb
  have HP5 : Hid (Row w5 gP (ints R.ps)) := HP4.out.below hb
  have HN5 : Hid (Row w5 gN (flat R.ns)) := HN4.out.below hb
  have HU5 : Hid (Row w5 gU (bools R.up)) := HU4.out.below hb
  have HQ5 : Hid (OPs w5 gQ R.pss hs) := hr
  clear hb hr HA4 HR4 HO4 HB4 HP4 HN4 HU4
  have o3 := HO5.out.cell 3 _ rfl
  have f3 := HO5.out.free 3
  have a4 := HA5.out.cell 4 _ rfl
  have HA6 : Hid (Row (w5.setCell ⟨w.heap.size + 1 + 1, 3, none⟩ (.slice (some ⟨gQ, 0, none⟩) R.pss.length R.pss.length)) w.heap.size [.slice A.aP R.ps.length A.cP, .slice A.aN R.ns.length A.cN, .slice A.aU R.up.length A.cU, .slice A.aQ R.pss.length A.cQ, .slice A.aL R.lic.length A.cL]) := (HA5.out.apart (w.heap.size + 1 + 1) 3 (.slice (some ⟨gQ, 0, none⟩) R.pss.length R.pss.length) (by omega))
  have HR6 : Hid (Row (w5.setCell ⟨w.heap.size + 1 + 1, 3, none⟩ (.slice (some ⟨gQ, 0, none⟩) R.pss.length R.pss.length)) (w.heap.size + 1) [.slice none 0 0, .slice none 0 0, .slice none 0 0, .slice none 0 0, .slice none 0 0]) := (HR5.out.apart (w.heap.size + 1 + 1) 3 (.slice (some ⟨gQ, 0, none⟩) R.pss.length R.pss.length) (by omega))
  have HO6 : Hid (Row (w5.setCell ⟨w.heap.size + 1 + 1, 3, none⟩ (.slice (some ⟨gQ, 0, none⟩) R.pss.length R.pss.length)) (w.heap.size + 1 + 1) [.slice (some ⟨gP, 0, none⟩) R.ps.length R.ps.length, .slice (some ⟨gN, 0, none⟩) R.ns.length R.ns.length, .slice (some ⟨gU, 0, none⟩) R.up.length R.up.length, .slice (some ⟨gQ, 0, none⟩) R.pss.length R.pss.length, .slice none 0 0]) := (HO5.out.set 3 (by simp) (.slice (some ⟨gQ, 0, none⟩) R.pss.length R.pss.length))
  have HB6 : Hid (Below w.heap.size w (w5.setCell ⟨w.heap.size + 1 + 1, 3, none⟩ (.slice (some ⟨gQ, 0, none⟩) R.pss.length R.pss.length))) := (HB5.out.setCell (p := ⟨w.heap.size + 1 + 1, 3, none⟩) (by show w.heap.size ≤ w.heap.size + 1 + 1; omega) _)
  have HP6 : Hid (Row (w5.setCell ⟨w.heap.size + 1 + 1, 3, none⟩ (.slice (some ⟨gQ, 0, none⟩) R.pss.length R.pss.length)) gP (ints R.ps)) := (HP5.out.apart (w.heap.size + 1 + 1) 3 (.slice (some ⟨gQ, 0, none⟩) R.pss.length R.pss.length) (by omega))
  have HN6 : Hid (Row (w5.setCell ⟨w.heap.size + 1 + 1, 3, none⟩ (.slice (some ⟨gQ, 0, none⟩) R.pss.length R.pss.length)) gN (flat R.ns)) := (HN5.out.apart (w.heap.size + 1 + 1) 3 (.slice (some ⟨gQ, 0, none⟩) R.pss.length R.pss.length) (by omega))
  have HU6 : Hid (Row (w5.setCell ⟨w.heap.size + 1 + 1, 3, none⟩ (.slice (some ⟨gQ, 0, none⟩) R.pss.length R.pss.length)) gU (bools R.up)) := (HU5.out.apart (w.heap.size + 1 + 1) 3 (.slice (some ⟨gQ, 0, none⟩) R.pss.length R.pss.length) (by omega))
  have HQ6 : Hid (OPs (w5.setCell ⟨w.heap.size + 1 + 1, 3, none⟩ (.slice (some ⟨gQ, 0, none⟩) R.pss.length R.pss.length)) gQ R.pss hs) := (HQ5.out.apart (b := w.heap.size + 1 + 1) (by omega))
  go_wp2_with fail
  generalize (w5.setCell ⟨w.heap.size + 1 + 1, 3, none⟩ (.slice (some ⟨gQ, 0, none⟩) R.pss.length R.pss.length)) = w6 at *
  clear HA5 HR5 HO5 HB5 HP5 HN5 HU5 HQ5 o3 f3 a4
  obtain ⟨hQ6, hQs⟩ := HQ6.out.lt
  refine (toProf_c A.aL A.cL R.lic HM.out.l _ (H.out.sL.below HB6.out)).mono ?_
  rintro e w7 ⟨gL, rfl, hgL, hr, hb⟩
  have HA7 : Hid (Row w7 w.heap.size [.slice A.aP R.ps.length A.cP, .slice A.aN R.ns.length A.cN, .slice A.aU R.up.length A.cU, .slice A.aQ R.pss.length A.cQ, .slice A.aL R.lic.length A.cL]) := HA6.out.below hb
  have HR7 : Hid (Row w7 (w.heap.size + 1) [.slice none 0 0, .slice none 0 0, .slice none 0 0, .slice none 0 0, .slice none 0 0]) := HR6.out.below hb
  have HO7 : Hid (Row w7 (w.heap.size + 1 + 1) [.slice (some ⟨gP, 0, none⟩) R.ps.length R.ps.length, .slice (some ⟨gN, 0, none⟩) R.ns.length R.ns.length, .slice (some ⟨gU, 0, none⟩) R.up.length R.up.length, .slice (some ⟨gQ, 0, none⟩) R.pss.length R.pss.length, .slice none 0 0]) := HO6.out.below hb
  have HB7 : Hid (Below w.heap.size w w7) := below_then HB6.out hb
  have HP7 : Hid (Row w7 gP (ints R.ps)) := HP6.out.below hb
  have HN7 : Hid (Row w7 gN (flat R.ns)) := HN6.out.below hb
  have HU7 : Hid (Row w7 gU (bools R.up)) := HU6.out.below hb
  have HQ7 : Hid (OPs w7 gQ R.pss hs) := HQ6.out.below hb
  have HL7 : Hid (Row w7 gL (flat R.lic)) := hr
  clear hb hr HA6 HR6 HO6 HB6 HP6 HN6 HU6 HQ6
  have hQL : gQ < gL := by omega
  have hlast : ∀ h ∈ hs, h < gL := fun h hh => by have := hQs h hh; omega
  have FP : Hid (Row ((((((w7.setCell ⟨w.heap.size + 1 + 1, 4, none⟩ (.slice (some ⟨gL, 0, none⟩) R.lic.length R.lic.length)).setCell ⟨w.heap.size + 1, 0, none⟩ (.slice (some ⟨gP, 0, none⟩) R.ps.length R.ps.length)).setCell ⟨w.heap.size + 1, 1, none⟩ (.slice (some ⟨gN, 0, none⟩) R.ns.length R.ns.length)).setCell ⟨w.heap.size + 1, 2, none⟩ (.slice (some ⟨gU, 0, none⟩) R.up.length R.up.length)).setCell ⟨w.heap.size + 1, 3, none⟩ (.slice (some ⟨gQ, 0, none⟩) R.pss.length R.pss.length)).setCell ⟨w.heap.size + 1, 4, none⟩ (.slice (some ⟨gL, 0, none⟩) R.lic.length R.lic.length)) gP (ints R.ps)) := ((((((HP7.out.apart (w.heap.size + 1 + 1) 4 (.slice (some ⟨gL, 0, none⟩) R.lic.length R.lic.length) (by omega)).apart (w.heap.size + 1) 0 (.slice (some ⟨gP, 0, none⟩) R.ps.length R.ps.length) (by omega)).apart (w.heap.size + 1) 1 (.slice (some ⟨gN, 0, none⟩) R.ns.length R.ns.length) (by omega)).apart (w.heap.size + 1) 2 (.slice (some ⟨gU, 0, none⟩) R.up.length R.up.length) (by omega)).apart (w.heap.size + 1) 3 (.slice (some ⟨gQ, 0, none⟩) R.pss.length R.pss.length) (by omega)).apart (w.heap.size + 1) 4 (.slice (some ⟨gL, 0, none⟩) R.lic.length R.lic.length) (by omega))
  have FN : Hid (Row ((((((w7.setCell ⟨w.heap.size + 1 + 1, 4, none⟩ (.slice (some ⟨gL, 0, none⟩) R.lic.length R.lic.length)).setCell ⟨w.heap.size + 1, 0, none⟩ (.slice (some ⟨gP, 0, none⟩) R.ps.length R.ps.length)).setCell ⟨w.heap.size + 1, 1, none⟩ (.slice (some ⟨gN, 0, none⟩) R.ns.length R.ns.length)).setCell ⟨w.heap.size + 1, 2, none⟩ (.slice (some ⟨gU, 0, none⟩) R.up.length R.up.length)).setCell ⟨w.heap.size + 1, 3, none⟩ (.slice (some ⟨gQ, 0, none⟩) R.pss.length R.pss.length)).setCell ⟨w.heap.size + 1, 4, none⟩ (.slice (some ⟨gL, 0, none⟩) R.lic.length R.lic.length)) gN (flat R.ns)) := ((((((HN7.out.apart (w.heap.size + 1 + 1) 4 (.slice (some ⟨gL, 0, none⟩) R.lic.length R.lic.length) (by omega)).apart (w.heap.size + 1) 0 (.slice (some ⟨gP, 0, none⟩) R.ps.length R.ps.length) (by omega)).apart (w.heap.size + 1) 1 (.slice (some ⟨gN, 0, none⟩) R.ns.length R.ns.length) (by omega)).apart (w.heap.size + 1) 2 (.slice (some ⟨gU, 0, none⟩) R.up.length R.up.length) (by omega)).apart (w.heap.size + 1) 3 (.slice (some ⟨gQ, 0, none⟩) R.pss.length R.pss.length) (by omega)).apart (w.heap.size + 1) 4 (.slice (some ⟨gL, 0, none⟩) R.lic.length R.lic.length) (by omega))
  have FU : Hid (Row ((((((w7.setCell ⟨w.heap.size + 1 + 1, 4, none⟩ (.slice (some ⟨gL, 0, none⟩) R.lic.length R.lic.length)).setCell ⟨w.heap.size + 1, 0, none⟩ (.slice (some ⟨gP, 0, none⟩) R.ps.length R.ps.length)).setCell ⟨w.heap.size + 1, 1, none⟩ (.slice (some ⟨gN, 0, none⟩) R.ns.length R.ns.length)).setCell ⟨w.heap.size + 1, 2, none⟩ (.slice (some ⟨gU, 0, none⟩) R.up.length R.up.length)).setCell ⟨w.heap.size + 1, 3, none⟩ (.slice (some ⟨gQ, 0, none⟩) R.pss.length R.pss.length)).setCell ⟨w.heap.size + 1, 4, none⟩ (.slice (some ⟨gL, 0, none⟩) R.lic.length R.lic.length)) gU (bools R.up)) := ((((((HU7.out.apart (w.heap.size + 1 + 1) 4 (.slice (some ⟨gL, 0, none⟩) R.lic.length R.lic.length) (by omega)).apart (w.heap.size + 1) 0 (.slice (some ⟨gP, 0, none⟩) R.ps.length R.ps.length) (by omega)).apart (w.heap.size + 1) 1 (.slice (some ⟨gN, 0, none⟩) R.ns.length R.ns.length) (by omega)).apart (w.heap.size + 1) 2 (.slice (some ⟨gU, 0, none⟩) R.up.length R.up.length) (by omega)).apart (w.heap.size + 1) 3 (.slice (some ⟨gQ, 0, none⟩) R.pss.length R.pss.length) (by omega)).apart (w.heap.size + 1) 4 (.slice (some ⟨gL, 0, none⟩) R.lic.length R.lic.length) (by omega))
  have FQ : Hid (OPs ((((((w7.setCell ⟨w.heap.size + 1 + 1, 4, none⟩ (.slice (some ⟨gL, 0, none⟩) R.lic.length R.lic.length)).setCell ⟨w.heap.size + 1, 0, none⟩ (.slice (some ⟨gP, 0, none⟩) R.ps.length R.ps.length)).setCell ⟨w.heap.size + 1, 1, none⟩ (.slice (some ⟨gN, 0, none⟩) R.ns.length R.ns.length)).setCell ⟨w.heap.size + 1, 2, none⟩ (.slice (some ⟨gU, 0, none⟩) R.up.length R.up.length)).setCell ⟨w.heap.size + 1, 3, none⟩ (.slice (some ⟨gQ, 0, none⟩) R.pss.length R.pss.length)).setCell ⟨w.heap.size + 1, 4, none⟩ (.slice (some ⟨gL, 0, none⟩) R.lic.length R.lic.length)) gQ R.pss hs) := ((((((HQ7.out.apart (b := w.heap.size + 1 + 1) (by omega)).apart (b := w.heap.size + 1) (by omega)).apart (b := w.heap.size + 1) (by omega)).apart (b := w.heap.size + 1) (by omega)).apart (b := w.heap.size + 1) (by omega)).apart (b := w.heap.size + 1) (by omega))
  have FL : Hid (Row ((((((w7.setCell ⟨w.heap.size + 1 + 1, 4, none⟩ (.slice (some ⟨gL, 0, none⟩) R.lic.length R.lic.length)).setCell ⟨w.heap.size + 1, 0, none⟩ (.slice (some ⟨gP, 0, none⟩) R.ps.length R.ps.length)).setCell ⟨w.heap.size + 1, 1, none⟩ (.slice (some ⟨gN, 0, none⟩) R.ns.length R.ns.length)).setCell ⟨w.heap.size + 1, 2, none⟩ (.slice (some ⟨gU, 0, none⟩) R.up.length R.up.length)).setCell ⟨w.heap.size + 1, 3, none⟩ (.slice (some ⟨gQ, 0, none⟩) R.pss.length R.pss.length)).setCell ⟨w.heap.size + 1, 4, none⟩ (.slice (some ⟨gL, 0, none⟩) R.lic.length R.lic.length)) gL (flat R.lic)) := ((((((HL7.out.apart (w.heap.size + 1 + 1) 4 (.slice (some ⟨gL, 0, none⟩) R.lic.length R.lic.length) (by omega)).apart (w.heap.size + 1) 0 (.slice (some ⟨gP, 0, none⟩) R.ps.length R.ps.length) (by omega)).apart (w.heap.size + 1) 1 (.slice (some ⟨gN, 0, none⟩) R.ns.length R.ns.length) (by omega)).apart (w.heap.size + 1) 2 (.slice (some ⟨gU, 0, none⟩) R.up.length R.up.length) (by omega)).apart (w.heap.size + 1) 3 (.slice (some ⟨gQ, 0, none⟩) R.pss.length R.pss.length) (by omega)).apart (w.heap.size + 1) 4 (.slice (some ⟨gL, 0, none⟩) R.lic.length R.lic.length) (by omega))
  have FB : Hid (Below w.heap.size w ((((((w7.setCell ⟨w.heap.size + 1 + 1, 4, none⟩ (.slice (some ⟨gL, 0, none⟩) R.lic.length R.lic.length)).setCell ⟨w.heap.size + 1, 0, none⟩ (.slice (some ⟨gP, 0, none⟩) R.ps.length R.ps.length)).setCell ⟨w.heap.size + 1, 1, none⟩ (.slice (some ⟨gN, 0, none⟩) R.ns.length R.ns.length)).setCell ⟨w.heap.size + 1, 2, none⟩ (.slice (some ⟨gU, 0, none⟩) R.up.length R.up.length)).setCell ⟨w.heap.size + 1, 3, none⟩ (.slice (some ⟨gQ, 0, none⟩) R.pss.length R.pss.length)).setCell ⟨w.heap.size + 1, 4, none⟩ (.slice (some ⟨gL, 0, none⟩) R.lic.length R.lic.length))) := ((((((HB7.out.setCell (p := ⟨w.heap.size + 1 + 1, 4, none⟩) (by show w.heap.size ≤ w.heap.size + 1 + 1; omega) _).setCell (p := ⟨w.heap.size + 1, 0, none⟩) (by show w.heap.size ≤ w.heap.size + 1; omega) _).setCell (p := ⟨w.heap.size + 1, 1, none⟩) (by show w.heap.size ≤ w.heap.size + 1; omega) _).setCell (p := ⟨w.heap.size + 1, 2, none⟩) (by show w.heap.size ≤ w.heap.size + 1; omega) _).setCell (p := ⟨w.heap.size + 1, 3, none⟩) (by show w.heap.size ≤ w.heap.size + 1; omega) _).setCell (p := ⟨w.heap.size + 1, 4, none⟩) (by show w.heap.size ≤ w.heap.size + 1; omega) _)
  have o0 := HO7.out.cell 0 _ rfl
  have o1 := HO7.out.cell 1 _ rfl
  have o2 := HO7.out.cell 2 _ rfl
  have o3 := HO7.out.cell 3 _ rfl
  have o4 := HO7.out.cell 4 _ rfl
  have fo4 := HO7.out.free 4
  have r0 := HR7.out.cell 0 _ rfl
  have fr0 := HR7.out.free 0
  have r1 := HR7.out.cell 1 _ rfl
  have fr1 := HR7.out.free 1
  have r2 := HR7.out.cell 2 _ rfl
  have fr2 := HR7.out.free 2
  have r3 := HR7.out.cell 3 _ rfl
  have fr3 := HR7.out.free 3
  have r4 := HR7.out.cell 4 _ rfl
  have fr4 := HR7.out.free 4
  have n1 : w.heap.size + 1 ≠ w.heap.size + 1 + 1 := by omega
  have n2 : w.heap.size + 1 + 1 ≠ w.heap.size + 1 := by omega
  go_wp2_with fail
  exact bodyPost_ret (v := .agg #[.slice (some ⟨gP, 0, none⟩) R.ps.length R.ps.length, .slice (some ⟨gN, 0, none⟩) R.ns.length R.ns.length, .slice (some ⟨gU, 0, none⟩) R.up.length R.up.length, .slice (some ⟨gQ, 0, none⟩) R.pss.length R.pss.length, .slice (some ⟨gL, 0, none⟩) R.lic.length R.lic.length]) (by simp [results, Try.results6, go_sem, *]) rfl ⟨gP, gN, gU, gQ, gL, hs, rfl, ⟨FP.out, FN.out, FU.out, FQ.out, FL.out, ⟨by omega, by omega, by omega, by omega, hQL⟩, hlast⟩, FB.out⟩
end Go.Proofs.Ytbnbikmnembciaa
