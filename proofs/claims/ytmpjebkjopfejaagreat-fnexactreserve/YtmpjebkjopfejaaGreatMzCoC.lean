/- Rooms copied. -/
import Derived.Test.YtmpjebkjopfejaaGreatMgRj
import Derived.Test.YtmpjebkjopfejaaGreatMgRd
import Derived.Test.YtmpjebkjopfejaaGreatMgRm
import Derived.Deep.RegionHeld3
import Derived.Deep.RegionLaw
import Derived.Deep.AppendLies
import Derived.Deep.Light
namespace Go.Proofs.YtmpjebkjopfejaaGreat
open Go.ChangeShapes Go.WideShapes Go.ChangeAt Go.RowKit


def CpB (U W : World) (R : Rm) (X gP gN gU gL cP cN cU cL : Nat) : Prop :=
  Row W X [.slice (some ⟨gP, 0, none⟩) R.ps.length cP, .slice (some ⟨gN, 0, none⟩) R.ns.length cN, .slice (some ⟨gU, 0, none⟩) R.up.length cU, .slice none 0 0, .slice (some ⟨gL, 0, none⟩) R.lic.length cL] ∧ (Row W gP (ints R.ps) ∧ Row W gN (flat R.ns) ∧ Row W gU (bools R.up) ∧ Row W gL (flat R.lic)) ∧ Below U.heap.size U W ∧ U.heap.size ≤ X ∧ U.heap.size ≤ gP ∧ gP < gN ∧ gN < gU ∧ gU < gL ∧ X ≠ gP ∧ X ≠ gN ∧ X ≠ gU ∧ X ≠ gL
theorem row_ne {W : World} {X g : Nat} {x y : Value} {r s : List Value} (h : Row W X (x :: r)) (h' : Row W g (y :: s)) (hne : x ≠ y) : X ≠ g := fun e => by
  subst e
  have h1 := h.cell 0 x rfl
  rw [h'.cell 0 y rfl] at h1
  exact hne (Option.some.inj h1).symm
theorem head_ints {xs : List Int} (h : 0 < xs.length) : ∃ x r, ints xs = .int .i64 x :: r := by
  cases xs with
  | nil => simp at h
  | cons x r => exact ⟨x, _, rfl⟩
theorem head_flat {xs : List Nd} (h : 0 < xs.length) : ∃ x r, flat xs = .int .i64 x :: r := by
  cases xs with
  | nil => simp at h
  | cons x r => exact ⟨x.l, _, rfl⟩
theorem head_bools {xs : List Bool} (h : 0 < xs.length) : ∃ x r, bools xs = .bool x :: r := by
  cases xs with
  | nil => simp at h
  | cons x r => exact ⟨x, _, rfl⟩
theorem fin_room {U W : World} {R : Rm} {X gP gN gU gL cP cN cU cL : Nat} (hp : 0 < R.ps.length) (hn : 0 < R.ns.length) (hu : 0 < R.up.length) (hl : 0 < R.lic.length) (hX : Row W X [.slice none 0 0, .slice none 0 0, .slice none 0 0, .slice none 0 0, .slice none 0 0]) (rP : Row W gP (ints R.ps)) (rN : Row W gN (flat R.ns)) (rU : Row W gU (bools R.up)) (rL : Row W gL (flat R.lic))
    (hB : Below U.heap.size U W) (hUX : U.heap.size ≤ X) (o1 : U.heap.size ≤ gP) (o2 : gP < gN) (o3 : gN < gU) (o4 : gU < gL) : CpB U (setL W X 0 [.slice (some ⟨gP, 0, none⟩) R.ps.length cP, .slice (some ⟨gN, 0, none⟩) R.ns.length cN, .slice (some ⟨gU, 0, none⟩) R.up.length cU, .slice none 0 0, .slice (some ⟨gL, 0, none⟩) R.lic.length cL]) R X gP gN gU gL cP cN cU cL := by
  obtain ⟨x1, r1, e1⟩ := head_ints hp
  obtain ⟨x2, r2, e2⟩ := head_flat hn
  obtain ⟨x3, r3, e3⟩ := head_bools hu
  obtain ⟨x4, r4, e4⟩ := head_flat hl
  have n1 : X ≠ gP := row_ne hX (e1 ▸ rP) (by simp)
  have n2 : X ≠ gN := row_ne hX (e2 ▸ rN) (by simp)
  have n3 : X ≠ gU := row_ne hX (e3 ▸ rU) (by simp)
  have n4 : X ≠ gL := row_ne hX (e4 ▸ rL) (by simp)
  have far : ∀ {g : Nat} {ys : List Value}, Row W g ys → X ≠ g → Row (setL W X 0 [.slice (some ⟨gP, 0, none⟩) R.ps.length cP, .slice (some ⟨gN, 0, none⟩) R.ns.length cN, .slice (some ⟨gU, 0, none⟩) R.up.length cU, .slice none 0 0, .slice (some ⟨gL, 0, none⟩) R.lic.length cL]) g ys := fun hr hne => ((((hr.apart X 0 _ hne.symm).apart X 1 _ hne.symm).apart X 2 _ hne.symm).apart X 3 _ hne.symm).apart X 4 _ hne.symm
  exact ⟨Row.putL [.slice (some ⟨gP, 0, none⟩) R.ps.length cP, .slice (some ⟨gN, 0, none⟩) R.ns.length cN, .slice (some ⟨gU, 0, none⟩) R.up.length cU, .slice none 0 0, .slice (some ⟨gL, 0, none⟩) R.lic.length cL] 0 hX (by simp), ⟨far rP n1, far rN n2, far rU n3, far rL n4⟩, below_setL hUX _ _ hB, hUX, o1, o2, o3, o4, n1, n2, n3, n4⟩
theorem fin_room_new {U W : World} {R : Rm} {gP gN gU gL cP cN cU cL : Nat} {t : TypeId} (rP : Row W gP (ints R.ps)) (rN : Row W gN (flat R.ns)) (rU : Row W gU (bools R.up)) (rL : Row W gL (flat R.lic))
    (hB : Below U.heap.size U W) (o1 : U.heap.size ≤ gP) (o2 : gP < gN) (o3 : gN < gU) (o4 : gU < gL) : CpB U (W.alloc (.cells #[.slice (some ⟨gP, 0, none⟩) R.ps.length cP, .slice (some ⟨gN, 0, none⟩) R.ns.length cN, .slice (some ⟨gU, 0, none⟩) R.up.length cU, .slice none 0 0, .slice (some ⟨gL, 0, none⟩) R.lic.length cL] t)) R W.heap.size gP gN gU gL cP cN cU cL := by
  have l1 := rP.lt
  have l2 := rN.lt
  have l3 := rU.lt
  have l4 := rL.lt
  exact ⟨row_fresh W [.slice (some ⟨gP, 0, none⟩) R.ps.length cP, .slice (some ⟨gN, 0, none⟩) R.ns.length cN, .slice (some ⟨gU, 0, none⟩) R.up.length cU, .slice none 0 0, .slice (some ⟨gL, 0, none⟩) R.lic.length cL] t, ⟨rP.below (low_alloc _ _), rN.below (low_alloc _ _), rU.below (low_alloc _ _), rL.below (low_alloc _ _)⟩, behind_alloc hB _, hB.size, o1, o2, o3, o4, by omega, by omega, by omega, by omega⟩
theorem cell1' (W : World) (t : TypeId) (x : Value) : ∀ (j : Nat) (v : Value), [x][j]? = some v → (W.alloc (.cells #[x] t)).cell? ((⟨W.heap.size, 0, none⟩ : Addr).add j) = some v := fun j v h => by
  match j, h with
  | 0, h => simp at h; subst h; simp [Addr.add]
/-- How far the profiles are copied. -/
structure CpL (U W : World) (R : Rm) (X gP gN gU gL cP cN cU cL : Nat) (vQ : Value) (hs : List Nat) (tq : List Value) : Prop where
  box : Row W X [.slice (some ⟨gP, 0, none⟩) R.ps.length cP, .slice (some ⟨gN, 0, none⟩) R.ns.length cN, .slice (some ⟨gU, 0, none⟩) R.up.length cU, vQ, .slice (some ⟨gL, 0, none⟩) R.lic.length cL]
  own : W.ownsRow U.heap.size 44 1 vQ hs.length tq
  rP : Row W gP (ints R.ps)
  rN : Row W gN (flat R.ns)
  rU : Row W gU (bools R.up)
  rL : Row W gL (flat R.lic)
  each : ∀ (i h : Nat) ns, hs[i]? = some h → R.pss[i]? = some ns → Row W h (flat ns)
  tqs : ∀ (i h : Nat) ns, hs[i]? = some h → R.pss[i]? = some ns → ∃ c, tq[i]? = some (.slice (some ⟨h, 0, none⟩) ns.length c)
  le : hs.length ≤ R.pss.length
  low : Below U.heap.size U W
  ge : ∀ b ∈ X :: gP :: gN :: gU :: gL :: hs, U.heap.size ≤ b ∧ b < W.heap.size
  nd : (X :: gP :: gN :: gU :: gL :: hs).Nodup
  nb : ∀ b ∈ X :: gP :: gN :: gU :: gL :: hs, vQ.ownBlock ≠ some b
theorem CpL.below {U W W' : World} {R : Rm} {X gP gN gU gL cP cN cU cL : Nat} {vQ : Value} {hs : List Nat} {tq : List Value} (h : CpL U W R X gP gN gU gL cP cN cU cL vQ hs tq) (hb : Below W.heap.size W W') : CpL U W' R X gP gN gU gL cP cN cU cL vQ hs tq :=
  ⟨h.box.below hb, owns_below h.own hb, h.rP.below hb, h.rN.below hb, h.rU.below hb, h.rL.below hb, fun i x ns h1 h2 => (h.each i x ns h1 h2).below hb, h.tqs, h.le, below_then h.low hb, fun b hm => ⟨(h.ge b hm).1, Nat.lt_of_lt_of_le (h.ge b hm).2 hb.size⟩, h.nd, h.nb⟩
theorem CpL.add {U W W' : World} {R : Rm} {X gP gN gU gL cP cN cU cL : Nat} {vQ : Value} {hs : List Nat} {tq : List Value} (h : CpL U W R X gP gN gU gL cP cN cU cL vQ hs tq) {g c gq cq : Nat} {ns : List Nd} {o : Obj} (hns : R.pss[hs.length]? = some ns) (hg : Row W g (flat ns)) (hfar : ∀ b, b ∈ X :: gP :: gN :: gU :: gL :: hs → b < g) (hvg : ∀ b, vQ.ownBlock = some b → b < g) (hUg : U.heap.size ≤ g)
    (hown : W'.ownsRow U.heap.size 44 1 (.slice (some ⟨gq, 0, none⟩) (hs.length + 1) cq) (hs.length + 1) (tq ++ [.slice (some ⟨g, 0, none⟩) ns.length c])) (hgr : (W.alloc o).grownBy W' vQ.ownBlock) (hat : vQ.ownBlock = some gq ∨ gq = W.heap.size + 1) :
    Row W' X [.slice (some ⟨gP, 0, none⟩) R.ps.length cP, .slice (some ⟨gN, 0, none⟩) R.ns.length cN, .slice (some ⟨gU, 0, none⟩) R.up.length cU, vQ, .slice (some ⟨gL, 0, none⟩) R.lic.length cL] ∧ CpL U (W'.setCell ⟨X, 3, none⟩ (.slice (some ⟨gq, 0, none⟩) (hs.length + 1) cq)) R X gP gN gU gL cP cN cU cL (.slice (some ⟨gq, 0, none⟩) (hs.length + 1) cq) (hs ++ [g]) (tq ++ [.slice (some ⟨g, 0, none⟩) ns.length c]) := by
  have mX : X ∈ X :: gP :: gN :: gU :: gL :: hs := by simp
  have hlt := hg.lt
  have keep : ∀ {b : Nat} {ys : List Value}, Row W b ys → vQ.ownBlock ≠ some b → Row W' b ys := fun hr hne => (hr.below (low_alloc W o)).far hgr (fun e => hne e.symm)
  have hvn : vQ.ownBlock ≠ some g := fun e => by have := hvg g e; omega
  have hbox := keep h.box (h.nb X mX)
  have hqX : gq ≠ X := by
    rcases hat with e | e
    · intro e2; subst e2; exact h.nb _ mX e
    · have := (h.ge X mX).2; omega
  have keep2 : ∀ {b : Nat} {ys : List Value}, Row W b ys → vQ.ownBlock ≠ some b → b ≠ X → Row (W'.setCell ⟨X, 3, none⟩ (.slice (some ⟨gq, 0, none⟩) (hs.length + 1) cq)) b ys := fun hr hne hb => (keep hr hne).apart X 3 _ hb
  have hnd := h.nd
  have nX := (List.nodup_cons.1 hnd).1
  have old : ∀ {b : Nat} {ys : List Value}, b ∈ gP :: gN :: gU :: gL :: hs → Row W b ys → Row (W'.setCell ⟨X, 3, none⟩ (.slice (some ⟨gq, 0, none⟩) (hs.length + 1) cq)) b ys := fun hm hr => keep2 hr (h.nb _ (List.mem_cons_of_mem _ hm)) (fun e => nX (e ▸ hm))
  have hsz : W.heap.size + 1 ≤ W'.heap.size := by have := hgr.size; simpa [go_sem] using this
  have new : ∀ b, b ∈ X :: gP :: gN :: gU :: gL :: (hs ++ [g]) → b ∈ X :: gP :: gN :: gU :: gL :: hs ∨ b = g := fun b hb => by
    simp only [List.mem_cons, List.mem_append, List.not_mem_nil, or_false] at hb ⊢
    rcases hb with h | h | h | h | h | h | h <;> simp [h]
  refine ⟨hbox, ⟨hbox.set 3 (by simp) _, ?_, old (by simp) h.rP, old (by simp) h.rN, old (by simp) h.rU, old (by simp) h.rL, ?_, ?_, ?_, ?_, ?_, ?_, ?_⟩⟩
  · rw [List.length_append, List.length_singleton]
    exact hown.kept (Lib.grownBy_setCell W' X 3 _) (.inr (by simp [Value.ownBlock]; exact hqX))
  · intro i x ms h1 h2
    by_cases hi : i < hs.length
    · rw [List.getElem?_append_left hi] at h1
      exact old (by simp [List.mem_of_getElem? h1]) (h.each i x ms h1 h2)
    · have hi2 : i < (hs ++ [g]).length := (List.getElem?_eq_some_iff.1 h1).1
      obtain rfl : i = hs.length := by simp at hi2; omega
      rw [hns] at h2
      cases h2
      simp at h1
      subst h1
      exact keep2 hg hvn (fun e => by have := hfar X mX; omega)
  · intro i x ms h1 h2
    have htl : tq.length = hs.length := by have := h.own.1; omega
    by_cases hi : i < hs.length
    · rw [List.getElem?_append_left hi] at h1
      obtain ⟨c', hc'⟩ := h.tqs i x ms h1 h2
      exact ⟨c', by rw [List.getElem?_append_left (by omega)]; exact hc'⟩
    · have hi2 : i < (hs ++ [g]).length := (List.getElem?_eq_some_iff.1 h1).1
      obtain rfl : i = hs.length := by simp at hi2; omega
      rw [hns] at h2
      cases h2
      simp at h1
      subst h1
      exact ⟨c, by rw [← htl]; simp⟩
  · have := (List.getElem?_eq_some_iff.1 hns).1
    simp
    omega
  · exact ((h.low.alloc h.low.size o).grown hgr (by simp [go_sem]; have := h.low.size; omega) (fun q hq => (h.own.lt q hq).1)).setCell (p := ⟨X, 3, none⟩) (h.ge X mX).1 _
  · intro b hb
    rw [World.size_setCell]
    rcases new b hb with hb | rfl
    · have := h.ge b hb; omega
    · omega
  · have e : X :: gP :: gN :: gU :: gL :: (hs ++ [g]) = (X :: gP :: gN :: gU :: gL :: hs) ++ [g] := rfl
    rw [e, List.nodup_append]
    refine ⟨hnd, by simp, fun a ha b hb => ?_⟩
    simp at hb
    subst hb
    have := hfar a ha
    omega
  · intro b hb e
    simp [Value.ownBlock] at e
    subst e
    rcases hat with e | e
    · rcases new _ hb with hb | hb
      · exact h.nb _ hb e
      · rw [hb] at e; exact hvn e
    · rcases new _ hb with hb | hb
      · have := (h.ge _ hb).2; omega
      · omega
set_option maxRecDepth 100000 in
set_option maxHeartbeats 8000000 in
theorem copyRoom_c (pP pN pU pQ pL : Addr) (cP cN cU cQ cL : Nat) (R : Rm) (hsm : RSmall R) (hp : 0 < R.ps.length) (hn : 0 < R.ns.length) (hu : 0 < R.up.length) (hq : 0 < R.pss.length) (hl : 0 < R.lic.length) (he : ∀ ns ∈ R.pss, 0 < ns.length) (hq2 : R.pss.length ≤ 24) (w : World)
    (sP : Sq w (some pP) (ints R.ps)) (sN : Sq w (some pN) (flat R.ns)) (sU : Sq w (some pU) (bools R.up)) (sQ : PVs w (some pQ) R.pss) (sL : Sq w (some pL) (flat R.lic)) :
    Calls Tryz.prog 61 #[.agg #[.slice (some pP) R.ps.length cP, .slice (some pN) R.ns.length cN, .slice (some pU) R.up.length cU, .slice (some pQ) R.pss.length cQ, .slice (some pL) R.lic.length cL]] w fun e w' => ∃ K : RK, e = .returned (.agg #[.slice (some ⟨K.gP, 0, none⟩) R.ps.length K.cP, .slice (some ⟨K.gN, 0, none⟩) R.ns.length K.cN, .slice (some ⟨K.gU, 0, none⟩) R.up.length K.cU, .slice (some ⟨K.gQ, 0, none⟩) R.pss.length K.cQ, .slice (some ⟨K.gL, 0, none⟩) R.lic.length K.cL]) ∧ RStat R K w.heap.size w'.heap.size ∧ RX w' R K ∧ Below w.heap.size w w' := by
  have SP : Hid (Sq w (some pP) (ints R.ps)) := sP
  have SN : Hid (Sq w (some pN) (flat R.ns)) := sN
  have SU : Hid (Sq w (some pU) (bools R.up)) := sU
  have SQ : Hid (PVs w (some pQ) R.pss) := sQ
  have SL : Hid (Sq w (some pL) (flat R.lic)) := sL
  have HM : Hid (RSmall R) := hsm
  have HE : Hid (∀ ns ∈ R.pss, 0 < ns.length) := he
  clear sP sN sU sQ sL hsm he
  go_enter Tryz.func61, Tryz.ntmps61
  go_wp2_with fail
  generalize hV : (w.alloc (.cells #[.slice (some pP) R.ps.length cP, .slice (some pN) R.ns.length cN, .slice (some pU) R.up.length cU, .slice (some pQ) R.pss.length cQ, .slice (some pL) R.lic.length cL] 46)).alloc (.cells #[.slice none 0 0, .slice none 0 0, .slice none 0 0, .slice none 0 0, .slice none 0 0] 46) = U
  have BU : Hid (Below w.heap.size w U) := by subst hV; exact behind_alloc (low_alloc _ _) _
  have HA : Hid (Row U w.heap.size [.slice (some pP) R.ps.length cP, .slice (some pN) R.ns.length cN, .slice (some pU) R.up.length cU, .slice (some pQ) R.pss.length cQ, .slice (some pL) R.lic.length cL]) := by subst hV; exact (row_fresh w [.slice (some pP) R.ps.length cP, .slice (some pN) R.ns.length cN, .slice (some pU) R.up.length cU, .slice (some pQ) R.pss.length cQ, .slice (some pL) R.lic.length cL] 46).below (low_alloc _ _)
  have HZ : Hid (Row U (w.heap.size + 1) [.slice none 0 0, .slice none 0 0, .slice none 0 0, .slice none 0 0, .slice none 0 0]) := by
    subst hV
    have h := row_fresh (w.alloc (.cells #[.slice (some pP) R.ps.length cP, .slice (some pN) R.ns.length cN, .slice (some pU) R.up.length cU, .slice (some pQ) R.pss.length cQ, .slice (some pL) R.lic.length cL] 46)) [.slice none 0 0, .slice none 0 0, .slice none 0 0, .slice none 0 0, .slice none 0 0] 46
    rw [show (w.alloc (.cells #[.slice (some pP) R.ps.length cP, .slice (some pN) R.ns.length cN, .slice (some pU) R.up.length cU, .slice (some pQ) R.pss.length cQ, .slice (some pL) R.lic.length cL] 46)).heap.size = w.heap.size + 1 by simp [go_sem]] at h
    exact h
  clear hV
  obtain ⟨A, hA⟩ : ∃ A, w.heap.size = A := ⟨_, rfl⟩
  have HwA : Hid (w.heap.size = A) := hA
  rw [hA] at HA HZ ⊢
  clear hA
  have HT : Hid (∀ W : World, Below U.heap.size U W → Calls Tryz.prog 88 #[.agg #[.slice (some pP) R.ps.length cP, .slice (some pN) R.ns.length cN]] W fun e w' => ∃ g k cP cN, e = .returned (.agg #[.slice (some ⟨g, 0, none⟩) R.ps.length cP, .slice (some ⟨k, 0, none⟩) R.ns.length cN]) ∧ W.heap.size ≤ g ∧ g < k ∧ Row w' g (ints R.ps) ∧ Row w' k (flat R.ns) ∧ Below W.heap.size W w') := fun W hW => copyTopo_c pP pN cP cN R.ps R.ns HM.out.p HM.out.n hp hn W ((SP.out.below BU.out).below hW) ((SN.out.below BU.out).below hW)
  have HU : Hid (∀ W : World, Below U.heap.size U W → Calls Tryz.prog 89 #[.slice (some pU) R.up.length cU] W fun e w' => ∃ g cap, e = .returned (.slice (some ⟨g, 0, none⟩) R.up.length cap) ∧ W.heap.size ≤ g ∧ Row w' g (bools R.up) ∧ Below W.heap.size W w') := fun W hW => (cloneB_c pU cU R.up HM.out.u W ((SU.out.below BU.out).below hW)).mono fun _ w' ⟨v, he, ho, hb⟩ => by
    obtain ⟨g, cap, rfl, hg, hl, hr⟩ := own1 ho hu
    exact ⟨g, cap, he, hg, hr, hb⟩
  have HL : Hid (∀ W : World, Below U.heap.size U W → Calls Tryz.prog 90 #[.agg #[.slice (some pL) R.lic.length cL]] W fun e w' => ∃ g cap, e = .returned (.agg #[.slice (some ⟨g, 0, none⟩) R.lic.length cap]) ∧ W.heap.size ≤ g ∧ Row w' g (flat R.lic) ∧ Below W.heap.size W w') := fun W hW => copyProf_c pL cL R.lic HM.out.l hl W ((SL.out.below BU.out).below hW)
  have HK : Hid (∀ W : World, Below U.heap.size U W → Below U.heap.size U W ∧ U.heap.size ≤ W.heap.size ∧ W.cell? ⟨A, 0, none⟩ = some (.slice (some pP) R.ps.length cP) ∧ W.cell? ⟨A, 1, none⟩ = some (.slice (some pN) R.ns.length cN) ∧ W.cell? ⟨A, 2, none⟩ = some (.slice (some pU) R.up.length cU) ∧ W.cell? ⟨A, 4, none⟩ = some (.slice (some pL) R.lic.length cL)) := fun W h => ⟨h, h.size, (HA.out.below h).cell 0 _ rfl, (HA.out.below h).cell 1 _ rfl, (HA.out.below h).cell 2 _ rfl, (HA.out.below h).cell 4 _ rfl⟩
  have D1 : Hid (Below U.heap.size U U.drew) := low_drew U
  have z1 : U.heap.size ≤ U.heap.size := Nat.le_refl _
  have z2 : U.heap.size ≤ U.drew.heap.size := Nat.le_refl _
  go_cut [3] (fun p wc => ∃ (X gP gN gU gL cP cN cU cL : Nat), p = .pointer (some ⟨X, 0, none⟩) ∧ CpB U wc R X gP gN gU gL cP cN cU cL)
  case first =>
    go_region_held3 (fun W => Below U.heap.size U W ∧ U.heap.size ≤ W.heap.size ∧ W.cell? ⟨A, 0, none⟩ = some (.slice (some pP) R.ps.length cP) ∧ W.cell? ⟨A, 1, none⟩ = some (.slice (some pN) R.ns.length cN) ∧ W.cell? ⟨A, 2, none⟩ = some (.slice (some pU) R.up.length cU) ∧ W.cell? ⟨A, 4, none⟩ = some (.slice (some pL) R.lic.length cL)) ((go_split_ands; refine HK.out _ ?_; first | (exact Hid.out (by with_reducible assumption)) | (exact behind_alloc (Hid.out (by with_reducible assumption)) _) | (with_reducible assumption) | (exact behind (by with_reducible assumption) (by with_reducible assumption)) | (exact behind_alloc (by with_reducible assumption) _) | (repeat (refine Below.setCell ?_ (by with_reducible assumption) _)); (exact Hid.out (by with_reducible assumption)) | (go_grown; done)))
      (first
      | (go_at_call 88; refine (HT.out _ (And.left (by with_reducible assumption))).mono ?_; rintro e wk ⟨gP, gN, qP, qN, rfl, hg1, hg2, hr1, hr2, hbk⟩; have HR1 : Hid (Row wk gP (ints R.ps)) := hr1; have HR2 : Hid (Row wk gN (flat R.ns)) := hr2; clear hr1 hr2; (try (first | have HX : Hid (Row wk _ [.slice none 0 0, .slice none 0 0, .slice none 0 0, .slice none 0 0, .slice none 0 0]) := (row_fresh _ [.slice none 0 0, .slice none 0 0, .slice none 0 0, .slice none 0 0, .slice none 0 0] 46).below hbk | have HX : Hid (Row wk _ [.slice none 0 0, .slice none 0 0, .slice none 0 0, .slice none 0 0, .slice none 0 0]) := ((row_fresh _ [.slice none 0 0, .slice none 0 0, .slice none 0 0, .slice none 0 0, .slice none 0 0] 46).below (low_drew _)).below hbk)); have Bk : Hid (Below U.heap.size U wk) := behind hbk (And.left (by with_reducible assumption)); have zk := Bk.out.size; have G1 : U.heap.size ≤ gP := by first | omega | (simp [go_sem] at *; omega); (first | have C := behind hbk (by with_reducible assumption) | have C := hbk); obtain ⟨hck, hfk, hzk⟩ := bfacts C)
      | (go_at_call 89; refine (HU.out _ (And.left (by with_reducible assumption))).mono ?_; rintro e wk ⟨gU, qU, rfl, hg3, hr3, hbk⟩; (first | (have HR4 : Hid (Row wk gP (ints R.ps)) := HR1.out.below hbk; have HR5 : Hid (Row wk gN (flat R.ns)) := HR2.out.below hbk; have G3 : gN < gU := by have := HR2.out.lt; omega) | (have HR4 : Hid (Row wk gP (ints R.ps)) := (HR1.out.below (low_alloc _ _)).below hbk; have HR5 : Hid (Row wk gN (flat R.ns)) := (HR2.out.below (low_alloc _ _)).below hbk; have G3 : gN < gU := by have := HR2.out.lt; simp [go_sem] at hg3; omega)); have HR6 : Hid (Row wk gU (bools R.up)) := hr3; clear hr3; (try have HX : Hid (Row wk _ [.slice none 0 0, .slice none 0 0, .slice none 0 0, .slice none 0 0, .slice none 0 0]) := HX.out.below hbk); (try (first | have HX : Hid (Row wk _ [.slice none 0 0, .slice none 0 0, .slice none 0 0, .slice none 0 0, .slice none 0 0]) := (row_fresh _ [.slice none 0 0, .slice none 0 0, .slice none 0 0, .slice none 0 0, .slice none 0 0] 46).below hbk | have HX : Hid (Row wk _ [.slice none 0 0, .slice none 0 0, .slice none 0 0, .slice none 0 0, .slice none 0 0]) := ((row_fresh _ [.slice none 0 0, .slice none 0 0, .slice none 0 0, .slice none 0 0, .slice none 0 0] 46).below (low_drew _)).below hbk)); have Bk : Hid (Below U.heap.size U wk) := behind hbk (And.left (by with_reducible assumption)); have zk := Bk.out.size; (first | have C := behind hbk (by with_reducible assumption) | have C := hbk); obtain ⟨hck, hfk, hzk⟩ := bfacts C)
      | (go_at_call 90; refine (HL.out _ (And.left (by with_reducible assumption))).mono ?_; rintro e wk ⟨gL, qL, rfl, hg4, hr4, hbk⟩; (first | (have HR7 : Hid (Row wk gP (ints R.ps)) := HR4.out.below hbk; have HR8 : Hid (Row wk gN (flat R.ns)) := HR5.out.below hbk; have HR9 : Hid (Row wk gU (bools R.up)) := HR6.out.below hbk; have G4 : gU < gL := by have := HR6.out.lt; omega) | (have HR7 : Hid (Row wk gP (ints R.ps)) := (HR4.out.below (low_alloc _ _)).below hbk; have HR8 : Hid (Row wk gN (flat R.ns)) := (HR5.out.below (low_alloc _ _)).below hbk; have HR9 : Hid (Row wk gU (bools R.up)) := (HR6.out.below (low_alloc _ _)).below hbk; have G4 : gU < gL := by have := HR6.out.lt; simp [go_sem] at hg4; omega));
          have Bk : Hid (Below U.heap.size U wk) := behind hbk (And.left (by with_reducible assumption));
          (try have FB : Hid (CpB U (setL wk _ 0 [.slice (some ⟨gP, 0, none⟩) R.ps.length qP, .slice (some ⟨gN, 0, none⟩) R.ns.length qN, .slice (some ⟨gU, 0, none⟩) R.up.length qU, .slice none 0 0, .slice (some ⟨gL, 0, none⟩) R.lic.length qL]) R _ gP gN gU gL qP qN qU qL) := fin_room hp hn hu hl (HX.out.below hbk) HR7.out HR8.out HR9.out hr4 Bk.out (by first | exact Nat.le_refl _ | omega | (simp [go_sem]; omega)) G1 hg2 G3 G4);
          (try have FB : Hid (CpB U (setL wk _ 0 [.slice (some ⟨gP, 0, none⟩) R.ps.length qP, .slice (some ⟨gN, 0, none⟩) R.ns.length qN, .slice (some ⟨gU, 0, none⟩) R.up.length qU, .slice none 0 0, .slice (some ⟨gL, 0, none⟩) R.lic.length qL]) R _ gP gN gU gL qP qN qU qL) := fin_room hp hn hu hl ((row_fresh _ [.slice none 0 0, .slice none 0 0, .slice none 0 0, .slice none 0 0, .slice none 0 0] 46).below hbk) HR7.out HR8.out HR9.out hr4 Bk.out (by first | exact Nat.le_refl _ | omega | (simp [go_sem]; omega)) G1 hg2 G3 G4);
          have FN : Hid (CpB U (wk.alloc (.cells #[.slice (some ⟨gP, 0, none⟩) R.ps.length qP, .slice (some ⟨gN, 0, none⟩) R.ns.length qN, .slice (some ⟨gU, 0, none⟩) R.up.length qU, .slice none 0 0, .slice (some ⟨gL, 0, none⟩) R.lic.length qL] 46)) R wk.heap.size gP gN gU gL qP qN qU qL) := fin_room_new HR7.out HR8.out HR9.out hr4 Bk.out G1 hg2 G3 G4; clear hr4;
          (first | have C := behind hbk (by with_reducible assumption) | have C := hbk); obtain ⟨hck, hfk, hzk⟩ := bfacts C))
    all_goals
      go_split_ands
      go_wp2_with fail
      go_meet
      case rel =>
        first
          | exact ⟨_, _, _, _, _, _, _, _, _, rfl, FB.out⟩
          | exact ⟨U.heap.size, _, _, _, _, _, _, _, _, rfl, FB.out⟩
          | exact ⟨_, _, _, _, _, _, _, _, _, rfl, FN.out⟩
  case rest =>
  obtain ⟨X, gP, gN, gU, gL, qP, qN, qU, qL, rfl, hcp⟩ := hcut
  obtain ⟨hX, ⟨rP, rN, rU, rL⟩, hB, o0, o1, o2, o3, o4, n1, n2, n3, n4⟩ := hcp
  have a3 := (HA.out.below hB).cell 3 _ rfl
  have L0 : Hid (CpL U wc R X gP gN gU gL qP qN qU qL (.slice none 0 0) [] []) := ⟨hX, World.ownsRow_nil _ _ _ _, rP, rN, rU, rL, fun i h ns h1 => by simp at h1, fun i h ns h1 => by simp at h1, Nat.zero_le _, hB, fun b hb => by
    have l0 := hX.lt
    have l1 := rP.lt
    have l2 := rN.lt
    have l3 := rU.lt
    have l4 := rL.lt
    simp only [List.mem_cons, List.not_mem_nil, or_false] at hb
    rcases hb with rfl | rfl | rfl | rfl | rfl <;> omega, by
    simp only [List.nodup_cons, List.mem_cons, List.not_mem_nil, or_false, not_or, List.nodup_nil, and_true, not_false_eq_true]
    omega, fun b _ => by simp [Value.ownBlock]⟩
  clear hX rP rN rU rL hB o0 o1 o2 o3 o4 n1 n2 n3 n4 HT HU HL HK D1 z1 z2
  obtain ⟨i0, hi, hz0, hz1, hz2⟩ := info_parts infoProf
  go_wp2_with fail
  clear a3
  go_loopw [19] (fun i wr => ∃ (vQ : Value) (hs : List Nat) (tq : List Value), i = .int .i64 hs.length ∧ CpL U wr R X gP gN gU gL qP qN qU qL vQ hs tq) (fun i _ => R.pss.length - (intOf i).toNat)
  case atStart => exact ⟨_, [], [], rfl, L0.out⟩
  case round =>
    obtain ⟨vQ, hs, tq, rfl, hL⟩ := hrel
    have HL : Hid (CpL U wr R X gP gN gU gL qP qN qU qL vQ hs tq) := hL
    have hle := hL.le
    have hUw : U.heap.size ≤ wr.heap.size := hL.low.size
    have hXw : X < wr.heap.size := hL.box.lt
    clear hL L0
    by_cases hlt : hs.length < R.pss.length
    · have hj0 : (0 : Int) ≤ (hs.length : Int) := by omega
      have hj1 : (hs.length : Int) < (R.pss.length : Int) := by omega
      have HEj : Hid (R.pss[hs.length]? = some R.pss[hs.length]) := List.getElem?_eq_getElem hlt
      have hnp := HE.out R.pss[hs.length] (List.getElem_mem hlt)
      have hnl := HM.out.e R.pss[hs.length] (List.getElem_mem hlt)
      generalize R.pss[hs.length] = ns at HEj hnp hnl
      obtain ⟨p', q', c', hp', hpl, hc', hsq⟩ := (((SQ.out.below BU.out).below HL.out.low)).here hs.length ns HEj.out
      cases hp'
      obtain ⟨x1, r1, e1⟩ := head_flat hnp
      obtain ⟨q, rfl, _⟩ := hsq.cell 0 _ (by rw [e1]; rfl)
      have HSq : Hid (Sq wr (some q) (flat ns)) := hsq
      clear hsq
      have W5 : Hid (CpL U (wr.alloc (.cells #[.slice (some q) ns.length c'] 44)) R X gP gN gU gL qP qN qU qL vQ hs tq) := HL.out.below (low_alloc _ _)
      have R5 : Hid (Row (wr.alloc (.cells #[.slice (some q) ns.length c'] 44)) wr.heap.size [.slice (some q) ns.length c']) := row_fresh wr [.slice (some q) ns.length c'] 44
      have S5 : Hid (Sq (wr.alloc (.cells #[.slice (some q) ns.length c'] 44)) (some q) (flat ns)) := HSq.out.below (low_alloc _ _)
      go_wp2_with fail
      generalize hW5 : wr.alloc (.cells #[.slice (some q) ns.length c'] 44) = w5 at W5 R5 S5 ⊢
      clear hW5
      have D5 : Hid (CpL U w5.drew R X gP gN gU gL qP qN qU qL vQ hs tq) := W5.out.below (low_drew _)
      have S6 : Hid (Sq w5.drew (some q) (flat ns)) := S5.out.below (low_drew _)
      have b5 := W5.out.box.cell 3 _ rfl
      have r5 := R5.out.cell 0 _ rfl
      have hr5 : wr.heap.size < w5.heap.size := R5.out.lt
      go_region_law (first
        | (refine step_append_lies _ rfl _ _ 41 rfl U.heap.size 44 i0 (.agg #[.slice none 0 0]) 1 24 Tryz.underlying41 hi hz0 hz1 hz2 rfl (by decide) vQ hs.length tq rfl (L6.out.own.alloc _) ⟨w6.heap.size, 0, none⟩ 1 1 [.slice (some ⟨g, 0, none⟩) ns.length cg] rfl rfl (cell1' _ _ _) (by simp [Value.oneCell']) (by decide) (by unfold maxLen; omega) (by omega) (by have := L6.out.low.size; first | (simp; done) | (simp; omega)) (w6.heap.size + 1) (by simp) ?_; intro gq cq w7 hown hgrow hat _; obtain ⟨b7, hL8⟩ := L6.out.add HEj.out RG.out hfar hvg hUg hown hgrow hat; have t1 := b7.cell 3 _ rfl; have tf1 := b7.free 3; have L8 : Hid (CpL U (w7.setCell ⟨X, 3, none⟩ (.slice (some ⟨gq, 0, none⟩) (hs.length + 1) cq)) R X gP gN gU gL qP qN qU qL (.slice (some ⟨gq, 0, none⟩) (hs.length + 1) cq) (hs ++ [g]) (tq ++ [.slice (some ⟨g, 0, none⟩) ns.length cg])) := hL8; clear b7 hL8 hown hgrow hat)
        | (go_simp; refine (copyProf_c q c' ns hnl hnp w5.drew S6.out).mono ?_; rintro e w6 ⟨g, cg, rfl, hg, hr, hb⟩; have L6 : Hid (CpL U w6 R X gP gN gU gL qP qN qU qL vQ hs tq) := D5.out.below hb; have RG : Hid (Row w6 g (flat ns)) := hr; have hg5 : w5.heap.size ≤ g := hg; have hfar : ∀ b, b ∈ X :: gP :: gN :: gU :: gL :: hs → b < g := fun b hm => Nat.lt_of_lt_of_le (W5.out.ge b hm).2 hg5; have hvg : ∀ b, vQ.ownBlock = some b → b < g := fun b e => Nat.lt_of_lt_of_le (W5.out.own.lt b e).2 hg5; have hUg : U.heap.size ≤ g := (by omega); have b6 := L6.out.box.cell 3 _ rfl; have ba := (L6.out.box.below (low_alloc w6 (.cells #[.slice (some ⟨g, 0, none⟩) ns.length cg] 44))).cell 3 _ rfl; have fa := (L6.out.box.below (low_alloc w6 (.cells #[.slice (some ⟨g, 0, none⟩) ns.length cg] 44))).free 3; clear hr hb hg))
      all_goals
        clear t1 tf1 b5 r5 b6 ba fa hfar hvg
        try go_simp
        go_wp2_with fail
        exact ⟨⟨_, hs ++ [g], _, by rw [List.length_append]; go_num, L8.out⟩, by simp [intOf]; omega⟩
    · have hje : hs.length = R.pss.length := by omega
      have hqo := HL.out.own
      obtain ⟨gQ, cq, hvq, hgq1, hgq2, hrq⟩ := own1 hqo (by omega)
      subst hvq
      have RQ : Hid (Row wr gQ tq) := hrq
      have HJ : Hid (hs.length = R.pss.length) := by show _ = _; exact hje
      clear hqo hrq hje
      have hZU : A + 1 < U.heap.size := HZ.out.lt
      have y0 := HL.out.box.cell 0 _ rfl
      have z0 := (HZ.out.below HL.out.low).cell 0 _ rfl
      have f0 := (HZ.out.below HL.out.low).free 0
      have y1 := HL.out.box.cell 1 _ rfl
      have z1 := (HZ.out.below HL.out.low).cell 1 _ rfl
      have f1 := (HZ.out.below HL.out.low).free 1
      have y2 := HL.out.box.cell 2 _ rfl
      have z2 := (HZ.out.below HL.out.low).cell 2 _ rfl
      have f2 := (HZ.out.below HL.out.low).free 2
      have y3 := HL.out.box.cell 3 _ rfl
      have z3 := (HZ.out.below HL.out.low).cell 3 _ rfl
      have f3 := (HZ.out.below HL.out.low).free 3
      have y4 := HL.out.box.cell 4 _ rfl
      have z4 := (HZ.out.below HL.out.low).cell 4 _ rfl
      have f4 := (HZ.out.below HL.out.low).free 4
      go_wp2_with fail
      have B8 := HL.out.low
      have hAw : w.heap.size = A := HwA.out
      have far : ∀ {b : Nat} {ys : List Value}, Row wr b ys → U.heap.size ≤ b → Row (setL wr (A + 1) 0 [.slice (some ⟨gP, 0, none⟩) R.ps.length qP, .slice (some ⟨gN, 0, none⟩) R.ns.length qN, .slice (some ⟨gU, 0, none⟩) R.up.length qU, .slice (some ⟨gQ, 0, none⟩) hs.length cq, .slice (some ⟨gL, 0, none⟩) R.lic.length qL]) b ys := fun hr hb => ((((hr.apart (A + 1) 0 _ (by omega)).apart (A + 1) 1 _ (by omega)).apart (A + 1) 2 _ (by omega)).apart (A + 1) 3 _ (by omega)).apart (A + 1) 4 _ (by omega)
      have hBl : Below w.heap.size w (setL wr (A + 1) 0 [.slice (some ⟨gP, 0, none⟩) R.ps.length qP, .slice (some ⟨gN, 0, none⟩) R.ns.length qN, .slice (some ⟨gU, 0, none⟩) R.up.length qU, .slice (some ⟨gQ, 0, none⟩) hs.length cq, .slice (some ⟨gL, 0, none⟩) R.lic.length qL]) := below_setL (by omega) _ _ (below_then BU.out B8)
      have hge := HL.out.ge
      have hnb := HL.out.nb
      have hnd := (List.nodup_cons.1 HL.out.nd).2
      have hUw2 := BU.out.size
      have hsz : (setL wr (A + 1) 0 [.slice (some ⟨gP, 0, none⟩) R.ps.length qP, .slice (some ⟨gN, 0, none⟩) R.ns.length qN, .slice (some ⟨gU, 0, none⟩) R.up.length qU, .slice (some ⟨gQ, 0, none⟩) hs.length cq, .slice (some ⟨gL, 0, none⟩) R.lic.length qL]).heap.size = wr.heap.size := by simp only [setL, World.size_setCell]
      have hmem : ∀ b, b ∈ gP :: gN :: gU :: gL :: hs → U.heap.size ≤ b ∧ b < wr.heap.size := fun b hb => hge b (List.mem_cons_of_mem _ hb)
      have hqn : gQ ∉ gP :: gN :: gU :: gL :: hs := fun hb => hnb gQ (List.mem_cons_of_mem _ hb) rfl
      have hst : RStat R ⟨gP, gN, gU, gQ, gL, hs, qP, qN, qU, cq, qL, tq⟩ w.heap.size wr.heap.size := by
        refine ⟨HJ.out, HL.out.tqs, fun b hb => ?_, ?_⟩
        · simp only [RK.blocks, List.mem_cons] at hb
          rcases hb with rfl | rfl | rfl | rfl | rfl | hb
          · have := hmem b (by simp); omega
          · have := hmem b (by simp); omega
          · have := hmem b (by simp); omega
          · omega
          · have := hmem b (by simp); omega
          · have := hmem b (by simp [hb]); omega
        · simp only [RK.blocks, List.nodup_cons, List.mem_cons, not_or] at hnd hqn ⊢
          obtain ⟨⟨a1, a2, a3, a4⟩, ⟨b1, b2, b3⟩, ⟨c1, c2⟩, d1, e1⟩ := hnd
          obtain ⟨q1, q2, q3, q4, q5⟩ := hqn
          exact ⟨⟨a1, a2, fun e => q1 e.symm, a3, a4⟩, ⟨b1, fun e => q2 e.symm, b2, b3⟩, ⟨fun e => q3 e.symm, c1, c2⟩, ⟨q4, q5⟩, d1, e1⟩
      refine bodyPost_ret (v := .agg #[.slice (some ⟨gP, 0, none⟩) R.ps.length qP, .slice (some ⟨gN, 0, none⟩) R.ns.length qN, .slice (some ⟨gU, 0, none⟩) R.up.length qU, .slice (some ⟨gQ, 0, none⟩) hs.length cq, .slice (some ⟨gL, 0, none⟩) R.lic.length qL]) (by simp [results, Tryz.results61, go_sem, *]) rfl ⟨⟨gP, gN, gU, gQ, gL, hs, qP, qN, qU, cq, qL, tq⟩, by rw [HJ.out], ?_, ⟨far HL.out.rP (hmem _ (by simp)).1, far HL.out.rN (hmem _ (by simp)).1, far HL.out.rU (hmem _ (by simp)).1, far RQ.out hgq1, fun i h ns h1 h2 => far (HL.out.each i h ns h1 h2) (hmem _ (by simp [List.mem_of_getElem? h1])).1, far HL.out.rL (hmem _ (by simp)).1⟩, hBl⟩
      exact hsz ▸ hst
end Go.Proofs.YtmpjebkjopfejaaGreat
