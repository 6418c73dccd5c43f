/- The specification's copy of a room. -/
import Derived.Test.YtmpjebkjopfejaaGreatMgRo
import Derived.Test.YtmpjebkjopfejaaGreatMzMvG
namespace Go.Proofs.YtmpjebkjopfejaaGreat
open Go.ChangeShapes Go.WideShapes Go.ChangeAt Go.RowKit

/-- Half of the copy: what is up and the licences. -/
def Cp1 (U W : World) (R : Rm) (X gU gL qU qL : Nat) : Prop :=
  Row W X [.slice none 0 0, .slice none 0 0, .slice (some ⟨gU, 0, none⟩) R.up.length qU, .slice none 0 0, .slice (some ⟨gL, 0, none⟩) R.lic.length qL] ∧ Row W gU (bools R.up) ∧ Row W gL (flat R.lic) ∧ Below U.heap.size U W ∧ U.heap.size ≤ X ∧ U.heap.size ≤ gU ∧ gU < gL ∧ X ≠ gU ∧ X ≠ gL
theorem fin_cp1 {U W : World} {R : Rm} {X gU gL qU qL : Nat} (hu : 0 < R.up.length) (hl : 0 < R.lic.length) (hX : Row W X [.slice none 0 0, .slice none 0 0, .slice none 0 0, .slice none 0 0, .slice none 0 0]) (rU : Row W gU (bools R.up)) (rL : Row W gL (flat R.lic)) (hB : Below U.heap.size U W) (hUX : U.heap.size ≤ X) (o1 : U.heap.size ≤ gU) (o2 : gU < gL) : Cp1 U (setL W X 0 [.slice none 0 0, .slice none 0 0, .slice (some ⟨gU, 0, none⟩) R.up.length qU, .slice none 0 0, .slice (some ⟨gL, 0, none⟩) R.lic.length qL]) R X gU gL qU qL := by
  obtain ⟨x3, r3, e3⟩ := head_bools hu
  obtain ⟨x4, r4, e4⟩ := head_flat hl
  have n3 : X ≠ gU := row_ne hX (e3 ▸ rU) (by simp)
  have n4 : X ≠ gL := row_ne hX (e4 ▸ rL) (by simp)
  have far : ∀ {g : Nat} {ys : List Value}, Row W g ys → X ≠ g → Row (setL W X 0 [.slice none 0 0, .slice none 0 0, .slice (some ⟨gU, 0, none⟩) R.up.length qU, .slice none 0 0, .slice (some ⟨gL, 0, none⟩) R.lic.length qL]) g ys := fun hr hne => ((((hr.apart X 0 _ hne.symm).apart X 1 _ hne.symm).apart X 2 _ hne.symm).apart X 3 _ hne.symm).apart X 4 _ hne.symm
  exact ⟨Row.putL [.slice none 0 0, .slice none 0 0, .slice (some ⟨gU, 0, none⟩) R.up.length qU, .slice none 0 0, .slice (some ⟨gL, 0, none⟩) R.lic.length qL] 0 hX (by simp), far rU n3, far rL n4, below_setL hUX _ _ hB, hUX, o1, o2, n3, n4⟩
theorem fin_cp1_new {U W : World} {R : Rm} {gU gL qU qL : Nat} {t : TypeId} (rU : Row W gU (bools R.up)) (rL : Row W gL (flat R.lic)) (hB : Below U.heap.size U W) (o1 : U.heap.size ≤ gU) (o2 : gU < gL) : Cp1 U (W.alloc (.cells #[.slice none 0 0, .slice none 0 0, .slice (some ⟨gU, 0, none⟩) R.up.length qU, .slice none 0 0, .slice (some ⟨gL, 0, none⟩) R.lic.length qL] t)) R W.heap.size gU gL qU qL := by
  have l3 := rU.lt
  have l4 := rL.lt
  exact ⟨row_fresh W [.slice none 0 0, .slice none 0 0, .slice (some ⟨gU, 0, none⟩) R.up.length qU, .slice none 0 0, .slice (some ⟨gL, 0, none⟩) R.lic.length qL] t, rU.below (low_alloc _ _), rL.below (low_alloc _ _), behind_alloc hB _, hB.size, o1, o2, by omega, by omega⟩
theorem fin_cp2 {U Y W : World} {R : Rm} {X gP gN gU gL qP qN qU qL : Nat} (h1 : Cp1 U Y R X gU gL qU qL) (hB : Below Y.heap.size Y W) (rP : Row W gP (ints R.ps)) (rN : Row W gN (flat R.ns)) (o1 : Y.heap.size ≤ gP) (o2 : Y.heap.size ≤ gN) (hne : gP ≠ gN) :
    CpL U ((W.setCell ⟨X, 0, none⟩ (.slice (some ⟨gP, 0, none⟩) R.ps.length qP)).setCell ⟨X, 1, none⟩ (.slice (some ⟨gN, 0, none⟩) R.ns.length qN)) R X gP gN gU gL qP qN qU qL (.slice none 0 0) [] [] := by
  obtain ⟨hX, rU, rL, hU, hUX, hUg, hgg, n1, n2⟩ := h1
  have lX := hX.lt
  have lU := rU.lt
  have lL := rL.lt
  have lP := rP.lt
  have lN := rN.lt
  have hUY := hU.size
  have far : ∀ {b : Nat} {ys : List Value}, Row W b ys → b ≠ X → Row ((W.setCell ⟨X, 0, none⟩ (.slice (some ⟨gP, 0, none⟩) R.ps.length qP)).setCell ⟨X, 1, none⟩ (.slice (some ⟨gN, 0, none⟩) R.ns.length qN)) b ys := fun hr hb => (hr.apart X 0 _ hb).apart X 1 _ hb
  refine ⟨((hX.below hB).set 0 (by simp) _).set 1 (by simp) _, World.ownsRow_nil _ _ _ _, far rP (by omega), far rN (by omega), far (rU.below hB) (by omega), far (rL.below hB) (by omega), fun i h ns h1 => by simp at h1, fun i h ns h1 => by simp at h1, Nat.zero_le _, ?_, ?_, ?_, fun b _ => by simp [Value.ownBlock]⟩
  · exact ((below_then hU hB).setCell (p := ⟨X, 0, none⟩) hUX _).setCell (p := ⟨X, 1, none⟩) hUX _
  · intro b hb
    rw [World.size_setCell, World.size_setCell]
    simp only [List.mem_cons, List.not_mem_nil, or_false] at hb
    have := hB.size
    rcases hb with rfl | rfl | rfl | rfl | rfl <;> omega
  · simp only [List.nodup_cons, List.mem_cons, List.not_mem_nil, or_false, not_or, List.nodup_nil, and_true, not_false_eq_true]
    omega

theorem bools_one {l : List Bool} : ∀ u ∈ bools l, u.oneCell' = true := fun u hu => by
  simp only [bools, List.mem_map] at hu
  obtain ⟨y, _, rfl⟩ := hu
  rfl
theorem ints_one {l : List Int} : ∀ u ∈ ints l, u.oneCell' = true := fun u hu => by
  simp only [ints, List.mem_map] at hu
  obtain ⟨y, _, rfl⟩ := hu
  rfl
theorem flat_one {l : List Nd} : ∀ u ∈ flat l, u.oneCell' = true := fun u hu => by
  obtain ⟨n, hn, hu⟩ := List.mem_flatMap.1 hu
  simp only [Nd.cells, List.mem_cons, List.not_mem_nil, or_false] at hu
  rcases hu with rfl | rfl | rfl | rfl <;> rfl
theorem own_row1 {w : World} {B n g cap : Nat} {e : TypeId} {xs : List Value} (h : w.ownsRow B e 1 (.slice (some ⟨g, 0, none⟩) n cap) n xs) (hn : 0 < n) : Row w g xs := by
  obtain ⟨g', c', hv, _, _, hr⟩ := own1 h hn
  cases hv
  exact hr
theorem own_row4 {w : World} {B n g cap : Nat} {e : TypeId} {xs : List Value} (h : w.ownsRow B e 4 (.slice (some ⟨g, 0, none⟩) n cap) n xs) (hn : 0 < n) : Row w g xs := by
  obtain ⟨g', c', hv, _, _, hr⟩ := own4 h hn
  cases hv
  exact hr

open Go.Deep in
/-- An append to a fresh empty slice, inside a region that draws. -/
theorem step_app_new {P : Program} {w : World} {ops : Array Oper} {o : Oper} {a : Act} {K : Act → World → Prop} {Q : Exit → Act → World → Prop} {E : Prop} (hgd : o.guard = none) (s x : Operand) (t : TypeId)
    (ho : o.op = .call { callee := .builtin .append, args := #[s, x], argTypes := #[t, t] }) (base : Nat) (e : TypeId) (i : TypeInfo) (z : Value) (size bytes : Nat) (ht : P.underlying t = some (.slice e)) (hi : P.info? e = some i) (hz : i.zero = some z)
    (hsize : i.size = size) (hby : i.bytes = bytes) (hzs : z.cells.size = size) (hsz : 0 < size) (blk : Nat) (hs : a.eval s = .slice (some ⟨blk, 0, none⟩) 0 0) (hown : w.ownsRow base e size (.slice (some ⟨blk, 0, none⟩) 0 0) 0 [])
    (ad : Addr) (m c : Nat) (news : List Value) (hx : a.eval x = .slice (some ad) m c) (hl : news.length = m * size) (hnews : ∀ j u, news[j]? = some u → w.cell? (ad.add j) = some u) (h1 : ∀ u ∈ news, u.oneCell' = true)
    (hm : 0 < m) (h63 : m ≤ maxLen) (hbytes : m * bytes ≤ 140737488355328) (hbase : base ≤ w.heap.size)
    (h : ∀ g cap w', w'.ownsRow base e size (.slice (some ⟨g, 0, none⟩) m cap) m news → base ≤ g → g < w'.heap.size → w.heap.size ≤ w'.heap.size → (∀ V : World, V.heap.size ≤ base → Below V.heap.size V w → Below V.heap.size V w') → w.grownBy w' (some blk) → (g = blk ∨ g = w.heap.size) → K (a.put o.dst (.slice (some ⟨g, 0, none⟩) m cap)) w') :
    if Region.wanted o (yielded ops a.tmps) = true then Oper.wp P o a w K Q else E := by
  refine step_append_lies _ hgd s x t ho base e i z size bytes ht hi hz hsize hby hzs hsz _ 0 [] hs hown ad m c news hx hl hnews h1 hm (by omega) (by simpa using hbytes) hbase _ rfl ?_
  intro g cap w' ho' hg hat hlt
  have hb := (hown.lt blk rfl).1
  rw [Nat.zero_add] at ho' ⊢
  refine h g cap w' ho' ?_ hlt hg.size (fun V hV hw => hw.grown hg hw.size (fun q hq => by cases hq; show V.heap.size ≤ blk; omega)) hg ?_
  · rcases hat with e | e
    · cases e; exact hb
    · omega
  · rcases hat with e | e
    · cases e; exact .inl rfl
    · exact .inr e

set_option maxRecDepth 100000 in
set_option maxHeartbeats 8000000 in
theorem l04Copy_a (pP pN pU pQ pL : Addr) (cP cN cU cQ cL : Nat) (R : Rm) (hsm : RSmall R) (hp : 0 < R.ps.length) (hn : 0 < R.ns.length) (hu : 0 < R.up.length) (hq : 0 < R.pss.length) (hl : 0 < R.lic.length) (he : ∀ ns ∈ R.pss, 0 < ns.length) (hq2 : R.pss.length ≤ 24) (w : World)
    (sP : Sq w (some pP) (ints R.ps)) (sN : Sq w (some pN) (flat R.ns)) (sU : Sq w (some pU) (bools R.up)) (sQ : PVs w (some pQ) R.pss) (sL : Sq w (some pL) (flat R.lic)) :
    Calls Tryz.prog 24 #[.agg #[.slice (some pP) R.ps.length cP, .slice (some pN) R.ns.length cN, .slice (some pU) R.up.length cU, .slice (some pQ) R.pss.length cQ, .slice (some pL) R.lic.length cL]] w fun e w' => ∃ K : RK, e = .returned (.agg #[.slice (some ⟨K.gP, 0, none⟩) R.ps.length K.cP, .slice (some ⟨K.gN, 0, none⟩) R.ns.length K.cN, .slice (some ⟨K.gU, 0, none⟩) R.up.length K.cU, .slice (some ⟨K.gQ, 0, none⟩) R.pss.length K.cQ, .slice (some ⟨K.gL, 0, none⟩) R.lic.length K.cL]) ∧ RStat R K w.heap.size w'.heap.size ∧ RX w' R K ∧ Below w.heap.size w w' := by
  have SP : Hid (Sq w (some pP) (ints R.ps)) := sP
  have SN : Hid (Sq w (some pN) (flat R.ns)) := sN
  have SU : Hid (Sq w (some pU) (bools R.up)) := sU
  have SQ : Hid (PVs w (some pQ) R.pss) := sQ
  have SL : Hid (Sq w (some pL) (flat R.lic)) := sL
  have HM : Hid (RSmall R) := hsm
  have HE : Hid (∀ ns ∈ R.pss, 0 < ns.length) := he
  clear sP sN sU sQ sL hsm he
  go_enter Tryz.func24, Tryz.ntmps24
  go_wp2_with fail
  generalize hV : (w.alloc (.cells #[.slice (some pP) R.ps.length cP, .slice (some pN) R.ns.length cN, .slice (some pU) R.up.length cU, .slice (some pQ) R.pss.length cQ, .slice (some pL) R.lic.length cL] 46)).alloc (.cells #[.slice none 0 0, .slice none 0 0, .slice none 0 0, .slice none 0 0, .slice none 0 0] 46) = U
  have BU : Hid (Below w.heap.size w U) := by subst hV; exact behind_alloc (low_alloc _ _) _
  have HA : Hid (Row U w.heap.size [.slice (some pP) R.ps.length cP, .slice (some pN) R.ns.length cN, .slice (some pU) R.up.length cU, .slice (some pQ) R.pss.length cQ, .slice (some pL) R.lic.length cL]) := by subst hV; exact (row_fresh w [.slice (some pP) R.ps.length cP, .slice (some pN) R.ns.length cN, .slice (some pU) R.up.length cU, .slice (some pQ) R.pss.length cQ, .slice (some pL) R.lic.length cL] 46).below (low_alloc _ _)
  have HZ : Hid (Row U (w.heap.size + 1) [.slice none 0 0, .slice none 0 0, .slice none 0 0, .slice none 0 0, .slice none 0 0]) := by
    subst hV
    have h := row_fresh (w.alloc (.cells #[.slice (some pP) R.ps.length cP, .slice (some pN) R.ns.length cN, .slice (some pU) R.up.length cU, .slice (some pQ) R.pss.length cQ, .slice (some pL) R.lic.length cL] 46)) [.slice none 0 0, .slice none 0 0, .slice none 0 0, .slice none 0 0, .slice none 0 0] 46
    rw [show (w.alloc (.cells #[.slice (some pP) R.ps.length cP, .slice (some pN) R.ns.length cN, .slice (some pU) R.up.length cU, .slice (some pQ) R.pss.length cQ, .slice (some pL) R.lic.length cL] 46)).heap.size = w.heap.size + 1 by simp [go_sem]] at h
    exact h
  clear hV
  obtain ⟨A, hA⟩ : ∃ A, w.heap.size = A := ⟨_, rfl⟩
  have HwA : Hid (w.heap.size = A) := hA
  rw [hA] at HA HZ ⊢
  clear hA
  obtain ⟨b0, hbi, hb0, hb1, hb2⟩ := info_parts infoBool
  have HL : Hid (∀ W : World, Below U.heap.size U W → Calls Tryz.prog 54 #[.agg #[.slice (some pL) R.lic.length cL]] W fun e w' => ∃ g cap, e = .returned (.agg #[.slice (some ⟨g, 0, none⟩) R.lic.length cap]) ∧ W.heap.size ≤ g ∧ Row w' g (flat R.lic) ∧ Below W.heap.size W w') := fun W hW => l04Prof_c pL cL R.lic HM.out.l hl W ((SL.out.below BU.out).below hW)
  have HNU : Hid (∀ W : World, Below U.heap.size U W → ∀ j u, (bools R.up)[j]? = some u → W.cell? (pU.add j) = some u) := fun W hW j u hj => by
    obtain ⟨q', hq, _, hc⟩ := ((SU.out.below BU.out).below hW).cell j u hj
    cases hq
    exact hc
  have hul := HM.out.u
  have HK : Hid (∀ W : World, Below U.heap.size U W → Below U.heap.size U W ∧ U.heap.size ≤ W.heap.size ∧ W.cell? ⟨A, 2, none⟩ = some (.slice (some pU) R.up.length cU) ∧ W.cell? ⟨A, 4, none⟩ = some (.slice (some pL) R.lic.length cL)) := fun W h => ⟨h, h.size, (HA.out.below h).cell 2 _ rfl, (HA.out.below h).cell 4 _ rfl⟩
  have D1 : Hid (Below U.heap.size U U.drew) := low_drew U
  have z1 : U.heap.size ≤ U.heap.size := Nat.le_refl _
  have z2 : U.heap.size ≤ U.drew.heap.size := Nat.le_refl _
  go_cut [3] (fun p wc => ∃ (X gU gL qU qL : Nat), p = .pointer (some ⟨X, 0, none⟩) ∧ Cp1 U wc R X gU gL qU qL)
  case first =>
    go_region_held3 (fun W => Below U.heap.size U W ∧ U.heap.size ≤ W.heap.size ∧ W.cell? ⟨A, 2, none⟩ = some (.slice (some pU) R.up.length cU) ∧ W.cell? ⟨A, 4, none⟩ = some (.slice (some pL) R.lic.length cL)) ((go_split_ands; refine HK.out _ ?_; first | (exact Hid.out (by with_reducible assumption)) | (exact behind_alloc (Hid.out (by with_reducible assumption)) _) | (with_reducible assumption) | (exact behind (by with_reducible assumption) (by with_reducible assumption)) | (exact behind_alloc (by with_reducible assumption) _) | (repeat (refine Below.setCell ?_ (by with_reducible assumption) _)); (exact Hid.out (by with_reducible assumption)) | (go_grown; done)))
      (first
      | (refine step_app_new rfl _ _ 26 rfl U.heap.size 4 b0 (.bool false) 1 1 Tryz.underlying26 hbi hb0 hb1 hb2 rfl (by decide) _ (by rfl) (by first | exact World.ownsRow_made _ #[] 0 (by first | exact Nat.le_refl _ | omega | (simp [go_sem]; done) | (simp [go_sem]; omega)) (by decide) rfl | exact (World.ownsRow_made _ #[] 0 (by first | exact Nat.le_refl _ | omega | (simp [go_sem]; done) | (simp [go_sem]; omega)) (by decide) rfl).alloc _ | (have h := World.ownsRow_made (base := U.heap.size) (e := 4) (size := 1) (U.alloc (.cells #[.slice none 0 0, .slice none 0 0, .slice none 0 0, .slice none 0 0, .slice none 0 0] 46)) #[] 0 (by simp [go_sem]) (by decide) rfl; rw [show (U.alloc (.cells #[.slice none 0 0, .slice none 0 0, .slice none 0 0, .slice none 0 0, .slice none 0 0] 46)).heap.size = U.heap.size + 1 from by simp [go_sem]] at h; exact h)) pU R.up.length cU (bools R.up) (by rfl) (by rw [bools_len]; omega) (HNU.out _ (And.left (by with_reducible assumption))) bools_one hu (by unfold maxLen; omega) (by omega) (And.left (And.right (by with_reducible assumption))) ?_; intro gU qU wk hown hg1 hg2 hsz hbw hgrow hat; have Bk : Hid (Below U.heap.size U wk) := hbw U (Nat.le_refl _) (And.left (by with_reducible assumption)); have HR1 : Hid (Row wk gU (bools R.up)) := own_row1 hown hu; (try (first | have HX : Hid (Row wk _ [.slice none 0 0, .slice none 0 0, .slice none 0 0, .slice none 0 0, .slice none 0 0]) := (row_fresh _ [.slice none 0 0, .slice none 0 0, .slice none 0 0, .slice none 0 0, .slice none 0 0] 46).far hgrow (fun e => absurd (Option.some.inj e) (by first | omega | (simp [go_sem]; done) | (simp [go_sem]; omega))) | have HX : Hid (Row wk _ [.slice none 0 0, .slice none 0 0, .slice none 0 0, .slice none 0 0, .slice none 0 0]) := ((row_fresh _ [.slice none 0 0, .slice none 0 0, .slice none 0 0, .slice none 0 0, .slice none 0 0] 46).below (low_alloc _ _)).far hgrow (fun e => absurd (Option.some.inj e) (by first | omega | (simp [go_sem]; done) | (simp [go_sem]; omega))) | have HX : Hid (Row wk _ [.slice none 0 0, .slice none 0 0, .slice none 0 0, .slice none 0 0, .slice none 0 0]) := ((row_fresh _ [.slice none 0 0, .slice none 0 0, .slice none 0 0, .slice none 0 0, .slice none 0 0] 46).below (low_drew _)).far hgrow (fun e => absurd (Option.some.inj e) (by first | omega | (simp [go_sem]; done) | (simp [go_sem]; omega))) | have HX : Hid (Row wk _ [.slice none 0 0, .slice none 0 0, .slice none 0 0, .slice none 0 0, .slice none 0 0]) := (((row_fresh _ [.slice none 0 0, .slice none 0 0, .slice none 0 0, .slice none 0 0, .slice none 0 0] 46).below (low_alloc _ _)).below (low_drew _)).far hgrow (fun e => absurd (Option.some.inj e) (by first | omega | (simp [go_sem]; done) | (simp [go_sem]; omega))))); (try rw [show (U.alloc (.cells #[] 4)).heap.size = U.heap.size + 1 from by simp [go_sem]] at HX); clear hown hbw hgrow hat)
      | (go_at_call 54; refine (HL.out _ (And.left (by with_reducible assumption))).mono ?_; rintro e wk ⟨gL, qL, rfl, hg4, hr4, hbk⟩; (first | (have HR2 : Hid (Row wk gU (bools R.up)) := HR1.out.below hbk; have G4 : gU < gL := (by have := HR1.out.lt; omega)) | (have HR2 : Hid (Row wk gU (bools R.up)) := (HR1.out.below (low_alloc _ _)).below hbk; have G4 : gU < gL := (by have := HR1.out.lt; simp [go_sem] at hg4; omega)));
          have Bk : Hid (Below U.heap.size U wk) := behind hbk (And.left (by with_reducible assumption));
          (try have HX : Hid (Row wk _ [.slice none 0 0, .slice none 0 0, .slice none 0 0, .slice none 0 0, .slice none 0 0]) := HX.out.below hbk);
          (try (first | have HX : Hid (Row wk _ [.slice none 0 0, .slice none 0 0, .slice none 0 0, .slice none 0 0, .slice none 0 0]) := (row_fresh _ [.slice none 0 0, .slice none 0 0, .slice none 0 0, .slice none 0 0, .slice none 0 0] 46).below hbk));
          (try have FB : Hid (Cp1 U (setL wk _ 0 [.slice none 0 0, .slice none 0 0, .slice (some ⟨gU, 0, none⟩) R.up.length qU, .slice none 0 0, .slice (some ⟨gL, 0, none⟩) R.lic.length qL]) R _ gU gL qU qL) := fin_cp1 hu hl HX.out HR2.out hr4 Bk.out (by first | exact Nat.le_refl _ | omega | (simp [go_sem]; done) | (simp [go_sem]; omega)) (by omega) G4);
          (try (have hx0 := HX.out.cell 0 _ rfl; have hx1 := HX.out.cell 1 _ rfl; have hx2 := HX.out.cell 2 _ rfl; have hx3 := HX.out.cell 3 _ rfl; have hx4 := HX.out.cell 4 _ rfl; have hf0 := HX.out.free 0; have hf1 := HX.out.free 1; have hf2 := HX.out.free 2; have hf3 := HX.out.free 3; have hf4 := HX.out.free 4));
          have FN : Hid (Cp1 U (wk.alloc (.cells #[.slice none 0 0, .slice none 0 0, .slice (some ⟨gU, 0, none⟩) R.up.length qU, .slice none 0 0, .slice (some ⟨gL, 0, none⟩) R.lic.length qL] 46)) R wk.heap.size gU gL qU qL) := fin_cp1_new HR2.out hr4 Bk.out (by omega) G4; clear hr4))
    all_goals
      go_split_ands
      go_wp2_with fail
      go_meet
      case rel =>
        first
          | exact ⟨_, _, _, _, _, rfl, FB.out⟩
          | exact ⟨U.heap.size, _, _, _, _, rfl, FB.out⟩
          | exact ⟨_, _, _, _, _, rfl, FN.out⟩
  case rest =>
  obtain ⟨X, gU, gL, qU, qL, rfl, hcp⟩ := hcut
  have HC1 : Hid (Cp1 U wc R X gU gL qU qL) := hcp
  clear hcp HK D1 z1 z2 HL HNU hul
  generalize wc = Y at HC1 ⊢
  obtain ⟨i1, hi1, hi2, hi3, hi4⟩ := info_parts infoInt
  obtain ⟨n1, hn1, hn2', hn3, hn4⟩ := info_parts infoNode
  have HB1 : Hid (Below U.heap.size U Y) := HC1.out.2.2.2.1
  have HNP : Hid (∀ W : World, Below U.heap.size U W → ∀ j u, (ints R.ps)[j]? = some u → W.cell? (pP.add j) = some u) := fun W hW j u hj => by
    obtain ⟨q', hq, _, hc⟩ := ((SP.out.below BU.out).below hW).cell j u hj
    cases hq
    exact hc
  have HNN : Hid (∀ W : World, Below U.heap.size U W → ∀ j u, (flat R.ns)[j]? = some u → W.cell? (pN.add j) = some u) := fun W hW j u hj => by
    obtain ⟨q', hq, _, hc⟩ := ((SN.out.below BU.out).below hW).cell j u hj
    cases hq
    exact hc
  have hpl := HM.out.p
  have hnl := HM.out.n
  have HXY : Hid (Row Y X [.slice none 0 0, .slice none 0 0, .slice (some ⟨gU, 0, none⟩) R.up.length qU, .slice none 0 0, .slice (some ⟨gL, 0, none⟩) R.lic.length qL]) := HC1.out.1
  have HK : Hid (∀ W : World, Below U.heap.size U W → Below U.heap.size U W ∧ U.heap.size ≤ W.heap.size ∧ W.cell? ⟨A, 0, none⟩ = some (.slice (some pP) R.ps.length cP) ∧ W.cell? ⟨A, 1, none⟩ = some (.slice (some pN) R.ns.length cN)) := fun W h => ⟨h, h.size, (HA.out.below h).cell 0 _ rfl, (HA.out.below h).cell 1 _ rfl⟩
  have hUX : U.heap.size ≤ X := HC1.out.2.2.2.2.1
  have D1 : Hid (Below U.heap.size U Y.drew) := below_then HB1.out (low_drew Y)
  have z1 : U.heap.size ≤ Y.heap.size := HB1.out.size
  have z2 : U.heap.size ≤ Y.drew.heap.size := z1
  go_wp2_with fail
  go_cut [3] (fun p wc => p = .pointer (some ⟨X, 0, none⟩) ∧ ∃ (gP gN qP qN : Nat), CpL U wc R X gP gN gU gL qP qN qU qL (.slice none 0 0) [] [])
  case first =>
    go_region_held3 (fun W => Below U.heap.size U W ∧ U.heap.size ≤ W.heap.size ∧ W.cell? ⟨A, 0, none⟩ = some (.slice (some pP) R.ps.length cP) ∧ W.cell? ⟨A, 1, none⟩ = some (.slice (some pN) R.ns.length cN)) ((go_split_ands; refine HK.out _ ?_; first | (exact Hid.out (by with_reducible assumption)) | (exact behind_alloc (Hid.out (by with_reducible assumption)) _) | (with_reducible assumption) | (exact behind (by with_reducible assumption) (by with_reducible assumption)) | (exact behind_alloc (by with_reducible assumption) _) | (repeat (refine Below.setCell ?_ (by with_reducible assumption) _)); (exact Hid.out (by with_reducible assumption)) | (go_grown; done)))
      (first
      | (refine step_app_new rfl _ _ 22 rfl Y.heap.size 3 i1 (.int .i64 0) 1 8 Tryz.underlying22 hi1 hi2 hi3 hi4 rfl (by decide) _ (by rfl) (by first | exact World.ownsRow_made (base := Y.heap.size) (e := 3) (size := 1) Y #[] 0 (by simp [go_sem]) (by decide) rfl | exact (World.ownsRow_made (base := Y.heap.size) (e := 3) (size := 1) Y #[] 0 (by simp [go_sem]) (by decide) rfl).alloc _ | (have h := World.ownsRow_made (base := Y.heap.size) (e := 3) (size := 1) (Y.alloc (.cells #[] 113)) #[] 0 (by simp [go_sem]) (by decide) rfl; rw [show (Y.alloc (.cells #[] 113)).heap.size = Y.heap.size + 1 from by simp [go_sem]] at h; exact h)) pP R.ps.length cP (ints R.ps) (by rfl) (by rw [ints_len]; omega) (HNP.out _ (And.left (by with_reducible assumption))) ints_one hp (by unfold maxLen; omega) (by omega) (Below.size (by first | exact below_then (low_alloc Y _) (low_drew _) | exact below_then (behind_alloc (low_alloc Y _) _) (low_drew _))) ?_; intro gP qP wk hown hg1 hg2 hsz hbw hgrow hat; have BkY : Hid (Below Y.heap.size Y wk) := hbw Y (Nat.le_refl _) (by first | exact below_then (low_alloc Y _) (low_drew _) | exact below_then (behind_alloc (low_alloc Y _) _) (low_drew _)); have Bk : Hid (Below U.heap.size U wk) := below_then HB1.out BkY.out; have HR1 : Hid (Row wk gP (ints R.ps)) := own_row1 hown hp; (try (first | (have HO2 : Hid (wk.ownsRow Y.heap.size 113 4 (.slice (some ⟨Y.heap.size + 1, 0, none⟩) 0 0) 0 []) := (by have h := World.ownsRow_made (base := Y.heap.size) (e := 113) (size := 4) (Y.alloc (.cells #[] 3)) #[] 0 (by simp [go_sem]) (by decide) rfl; rw [show (Y.alloc (.cells #[] 3)).heap.size = Y.heap.size + 1 from by simp [go_sem]] at h; exact World.ownsRow.kept (w := ((Y.alloc (.cells #[] 3)).alloc (.cells #[] 113)).drew) h hgrow (.inr (by simp [Value.ownBlock]))); have hn2 : gP ≠ Y.heap.size + 1 := (by rcases hat with e | e <;> (try simp [go_sem] at e) <;> omega)) | (have HO2 : Hid (wk.ownsRow Y.heap.size 113 4 (.slice (some ⟨Y.heap.size, 0, none⟩) 0 0) 0 []) := (by have h := (World.ownsRow_made (base := Y.heap.size) (e := 113) (size := 4) Y #[] 0 (by simp [go_sem]) (by decide) rfl).alloc (.cells #[] 3); exact World.ownsRow.kept (w := ((Y.alloc (.cells #[] 113)).alloc (.cells #[] 3)).drew) h hgrow (.inr (by simp [Value.ownBlock]))); have hn2 : gP ≠ Y.heap.size := (by rcases hat with e | e <;> (try simp [go_sem] at e) <;> omega)))); clear hown hbw hgrow hat)
      | (refine step_app_new rfl _ _ 38 rfl Y.heap.size 113 n1 (.agg #[.int .i64 0, .int .i64 0, .int .i64 0, .int .i64 0]) 4 32 Tryz.underlying38 hn1 hn2' hn3 hn4 rfl (by decide) _ (by rfl) (by first | exact HO2.out | exact World.ownsRow_made _ #[] 0 (by first | exact Nat.le_refl _ | omega | (simp [go_sem]; done) | (simp [go_sem]; omega)) (by decide) rfl) pN R.ns.length cN (flat R.ns) (by rfl) (by rw [flat_len]; omega) (HNN.out _ (And.left (by with_reducible assumption))) flat_one hn (by unfold maxLen; omega) (by omega) (Below.size (by first | exact BkY.out | exact behind_alloc BkY.out _)) ?_; intro gN qN wk hown hk1 hk2 hsz2 hbw hgrow hat; have BkZ : Hid (Below Y.heap.size Y wk) := hbw Y (Nat.le_refl _) (by first | exact BkY.out | exact behind_alloc BkY.out _); have Bk : Hid (Below U.heap.size U wk) := below_then HB1.out BkZ.out; have HRN : Hid (Row wk gN (flat R.ns)) := own_row4 hown hn; have lP1 := HR1.out.lt; (first | (have HRP : Hid (Row wk gP (ints R.ps)) := HR1.out.far hgrow (fun e => absurd (Option.some.inj e) (by first | assumption | omega | (simp [go_sem]; omega)))) | (have HRP : Hid (Row wk gP (ints R.ps)) := (HR1.out.below (low_alloc _ _)).far hgrow (fun e => absurd (Option.some.inj e) (by first | assumption | omega | (simp [go_sem]; omega))))); have hne : gP ≠ gN := (by rcases hat with e | e <;> (try simp [go_sem] at e) <;> (first | omega | (intro e2; subst e2; first | omega | contradiction))); have FC : Hid (CpL U ((wk.setCell ⟨X, 0, none⟩ (.slice (some ⟨gP, 0, none⟩) R.ps.length qP)).setCell ⟨X, 1, none⟩ (.slice (some ⟨gN, 0, none⟩) R.ns.length qN)) R X gP gN gU gL qP qN qU qL (.slice none 0 0) [] []) := fin_cp2 HC1.out BkZ.out HRP.out HRN.out hg1 hk1 hne; have y0 := (HXY.out.below BkZ.out).cell 0 _ rfl; have y1 := (HXY.out.below BkZ.out).cell 1 _ rfl; have v0 := (HXY.out.below BkZ.out).free 0; have v1 := (HXY.out.below BkZ.out).free 1; clear hown hbw hgrow hat))
    all_goals
      go_split_ands
      go_wp2_with fail
      go_meet
      case rel => exact ⟨rfl, _, _, _, _, FC.out⟩
  case rest =>
  obtain ⟨rfl, gP, gN, qP, qN, hcl⟩ := hcut
  have L0 : Hid (CpL U wc R X gP gN gU gL qP qN qU qL (.slice none 0 0) [] []) := hcl
  clear hcl HK D1 z1 z2 HNP HNN hpl hnl HXY HC1 HB1
  have a3 := (HA.out.below L0.out.low).cell 3 _ rfl
  obtain ⟨i0, hi, hz0, hz1, hz2⟩ := info_parts infoProf
  go_wp2_with fail
  clear a3
  go_loopw [29] (fun i wr => ∃ (vQ : Value) (hs : List Nat) (tq : List Value), i = .int .i64 hs.length ∧ CpL U wr R X gP gN gU gL qP qN qU qL vQ hs tq) (fun i _ => R.pss.length - (intOf i).toNat)
  case atStart => exact ⟨_, [], [], rfl, L0.out⟩
  case round =>
    obtain ⟨vQ, hs, tq, rfl, hL⟩ := hrel
    have HL : Hid (CpL U wr R X gP gN gU gL qP qN qU qL vQ hs tq) := hL
    have hle := hL.le
    have hUw : U.heap.size ≤ wr.heap.size := hL.low.size
    have hXw : X < wr.heap.size := hL.box.lt
    clear hL L0
    by_cases hlt : hs.length < R.pss.length
    · have hj0 : (0 : Int) ≤ (hs.length : Int) := by omega
      have hj1 : (hs.length : Int) < (R.pss.length : Int) := by omega
      have HEj : Hid (R.pss[hs.length]? = some R.pss[hs.length]) := List.getElem?_eq_getElem hlt
      have hnp := HE.out R.pss[hs.length] (List.getElem_mem hlt)
      have hnl := HM.out.e R.pss[hs.length] (List.getElem_mem hlt)
      generalize R.pss[hs.length] = ns at HEj hnp hnl
      obtain ⟨p', q', c', hp', hpl, hc', hsq⟩ := (((SQ.out.below BU.out).below HL.out.low)).here hs.length ns HEj.out
      cases hp'
      obtain ⟨x1, r1, e1⟩ := head_flat hnp
      obtain ⟨q, rfl, _⟩ := hsq.cell 0 _ (by rw [e1]; rfl)
      have HSq : Hid (Sq wr (some q) (flat ns)) := hsq
      clear hsq
      have W5 : Hid (CpL U (wr.alloc (.cells #[.slice (some q) ns.length c'] 44)) R X gP gN gU gL qP qN qU qL vQ hs tq) := HL.out.below (low_alloc _ _)
      have R5 : Hid (Row (wr.alloc (.cells #[.slice (some q) ns.length c'] 44)) wr.heap.size [.slice (some q) ns.length c']) := row_fresh wr [.slice (some q) ns.length c'] 44
      have S5 : Hid (Sq (wr.alloc (.cells #[.slice (some q) ns.length c'] 44)) (some q) (flat ns)) := HSq.out.below (low_alloc _ _)
      go_wp2_with fail
      generalize hW5 : wr.alloc (.cells #[.slice (some q) ns.length c'] 44) = w5 at W5 R5 S5 ⊢
      clear hW5
      have D5 : Hid (CpL U w5.drew R X gP gN gU gL qP qN qU qL vQ hs tq) := W5.out.below (low_drew _)
      have S6 : Hid (Sq w5.drew (some q) (flat ns)) := S5.out.below (low_drew _)
      have b5 := W5.out.box.cell 3 _ rfl
      have r5 := R5.out.cell 0 _ rfl
      have hr5 : wr.heap.size < w5.heap.size := R5.out.lt
      go_region_law (first
        | (refine step_append_lies _ rfl _ _ 41 rfl U.heap.size 44 i0 (.agg #[.slice none 0 0]) 1 24 Tryz.underlying41 hi hz0 hz1 hz2 rfl (by decide) vQ hs.length tq rfl (L6.out.own.alloc _) ⟨w6.heap.size, 0, none⟩ 1 1 [.slice (some ⟨g, 0, none⟩) ns.length cg] rfl rfl (cell1' _ _ _) (by simp [Value.oneCell']) (by decide) (by unfold maxLen; omega) (by omega) (by have := L6.out.low.size; first | (simp; done) | (simp; omega)) (w6.heap.size + 1) (by simp) ?_; intro gq cq w7 hown hgrow hat _; obtain ⟨b7, hL8⟩ := L6.out.add HEj.out RG.out hfar hvg hUg hown hgrow hat; have t1 := b7.cell 3 _ rfl; have tf1 := b7.free 3; have L8 : Hid (CpL U (w7.setCell ⟨X, 3, none⟩ (.slice (some ⟨gq, 0, none⟩) (hs.length + 1) cq)) R X gP gN gU gL qP qN qU qL (.slice (some ⟨gq, 0, none⟩) (hs.length + 1) cq) (hs ++ [g]) (tq ++ [.slice (some ⟨g, 0, none⟩) ns.length cg])) := hL8; clear b7 hL8 hown hgrow hat)
        | (go_simp; refine (l04Prof_c q c' ns hnl hnp w5.drew S6.out).mono ?_; rintro e w6 ⟨g, cg, rfl, hg, hr, hb⟩; have L6 : Hid (CpL U w6 R X gP gN gU gL qP qN qU qL vQ hs tq) := D5.out.below hb; have RG : Hid (Row w6 g (flat ns)) := hr; have hg5 : w5.heap.size ≤ g := hg; have hfar : ∀ b, b ∈ X :: gP :: gN :: gU :: gL :: hs → b < g := fun b hm => Nat.lt_of_lt_of_le (W5.out.ge b hm).2 hg5; have hvg : ∀ b, vQ.ownBlock = some b → b < g := fun b e => Nat.lt_of_lt_of_le (W5.out.own.lt b e).2 hg5; have hUg : U.heap.size ≤ g := (by omega); have b6 := L6.out.box.cell 3 _ rfl; have ba := (L6.out.box.below (low_alloc w6 (.cells #[.slice (some ⟨g, 0, none⟩) ns.length cg] 44))).cell 3 _ rfl; have fa := (L6.out.box.below (low_alloc w6 (.cells #[.slice (some ⟨g, 0, none⟩) ns.length cg] 44))).free 3; clear hr hb hg))
      all_goals
        clear t1 tf1 b5 r5 b6 ba fa hfar hvg
        try go_simp
        go_wp2_with fail
        exact ⟨⟨_, hs ++ [g], _, by rw [List.length_append]; go_num, L8.out⟩, by simp [intOf]; omega⟩
    · have hje : hs.length = R.pss.length := by omega
      have hqo := HL.out.own
      obtain ⟨gQ, cq, hvq, hgq1, hgq2, hrq⟩ := own1 hqo (by omega)
      subst hvq
      have RQ : Hid (Row wr gQ tq) := hrq
      have HJ : Hid (hs.length = R.pss.length) := by show _ = _; exact hje
      clear hqo hrq hje
      have hZU : A + 1 < U.heap.size := HZ.out.lt
      have y0 := HL.out.box.cell 0 _ rfl
      have z0 := (HZ.out.below HL.out.low).cell 0 _ rfl
      have f0 := (HZ.out.below HL.out.low).free 0
      have y1 := HL.out.box.cell 1 _ rfl
      have z1 := (HZ.out.below HL.out.low).cell 1 _ rfl
      have f1 := (HZ.out.below HL.out.low).free 1
      have y2 := HL.out.box.cell 2 _ rfl
      have z2 := (HZ.out.below HL.out.low).cell 2 _ rfl
      have f2 := (HZ.out.below HL.out.low).free 2
      have y3 := HL.out.box.cell 3 _ rfl
      have z3 := (HZ.out.below HL.out.low).cell 3 _ rfl
      have f3 := (HZ.out.below HL.out.low).free 3
      have y4 := HL.out.box.cell 4 _ rfl
      have z4 := (HZ.out.below HL.out.low).cell 4 _ rfl
      have f4 := (HZ.out.below HL.out.low).free 4
      go_wp2_with fail
      have B8 := HL.out.low
      have hAw : w.heap.size = A := HwA.out
      have far : ∀ {b : Nat} {ys : List Value}, Row wr b ys → U.heap.size ≤ b → Row (setL wr (A + 1) 0 [.slice (some ⟨gP, 0, none⟩) R.ps.length qP, .slice (some ⟨gN, 0, none⟩) R.ns.length qN, .slice (some ⟨gU, 0, none⟩) R.up.length qU, .slice (some ⟨gQ, 0, none⟩) hs.length cq, .slice (some ⟨gL, 0, none⟩) R.lic.length qL]) b ys := fun hr hb => ((((hr.apart (A + 1) 0 _ (by omega)).apart (A + 1) 1 _ (by omega)).apart (A + 1) 2 _ (by omega)).apart (A + 1) 3 _ (by omega)).apart (A + 1) 4 _ (by omega)
      have hBl : Below w.heap.size w (setL wr (A + 1) 0 [.slice (some ⟨gP, 0, none⟩) R.ps.length qP, .slice (some ⟨gN, 0, none⟩) R.ns.length qN, .slice (some ⟨gU, 0, none⟩) R.up.length qU, .slice (some ⟨gQ, 0, none⟩) hs.length cq, .slice (some ⟨gL, 0, none⟩) R.lic.length qL]) := below_setL (by omega) _ _ (below_then BU.out B8)
      have hge := HL.out.ge
      have hnb := HL.out.nb
      have hnd := (List.nodup_cons.1 HL.out.nd).2
      have hUw2 := BU.out.size
      have hsz : (setL wr (A + 1) 0 [.slice (some ⟨gP, 0, none⟩) R.ps.length qP, .slice (some ⟨gN, 0, none⟩) R.ns.length qN, .slice (some ⟨gU, 0, none⟩) R.up.length qU, .slice (some ⟨gQ, 0, none⟩) hs.length cq, .slice (some ⟨gL, 0, none⟩) R.lic.length qL]).heap.size = wr.heap.size := by simp only [setL, World.size_setCell]
      have hmem : ∀ b, b ∈ gP :: gN :: gU :: gL :: hs → U.heap.size ≤ b ∧ b < wr.heap.size := fun b hb => hge b (List.mem_cons_of_mem _ hb)
      have hqn : gQ ∉ gP :: gN :: gU :: gL :: hs := fun hb => hnb gQ (List.mem_cons_of_mem _ hb) rfl
      have hst : RStat R ⟨gP, gN, gU, gQ, gL, hs, qP, qN, qU, cq, qL, tq⟩ w.heap.size wr.heap.size := by
        refine ⟨HJ.out, HL.out.tqs, fun b hb => ?_, ?_⟩
        · simp only [RK.blocks, List.mem_cons] at hb
          rcases hb with rfl | rfl | rfl | rfl | rfl | hb
          · have := hmem b (by simp); omega
          · have := hmem b (by simp); omega
          · have := hmem b (by simp); omega
          · omega
          · have := hmem b (by simp); omega
          · have := hmem b (by simp [hb]); omega
        · simp only [RK.blocks, List.nodup_cons, List.mem_cons, not_or] at hnd hqn ⊢
          obtain ⟨⟨a1, a2, a3, a4⟩, ⟨b1, b2, b3⟩, ⟨c1, c2⟩, d1, e1⟩ := hnd
          obtain ⟨q1, q2, q3, q4, q5⟩ := hqn
          exact ⟨⟨a1, a2, fun e => q1 e.symm, a3, a4⟩, ⟨b1, fun e => q2 e.symm, b2, b3⟩, ⟨fun e => q3 e.symm, c1, c2⟩, ⟨q4, q5⟩, d1, e1⟩
      refine bodyPost_ret (v := .agg #[.slice (some ⟨gP, 0, none⟩) R.ps.length qP, .slice (some ⟨gN, 0, none⟩) R.ns.length qN, .slice (some ⟨gU, 0, none⟩) R.up.length qU, .slice (some ⟨gQ, 0, none⟩) hs.length cq, .slice (some ⟨gL, 0, none⟩) R.lic.length qL]) (by simp [results, Tryz.results24, go_sem, *]) rfl ⟨⟨gP, gN, gU, gQ, gL, hs, qP, qN, qU, cq, qL, tq⟩, by rw [HJ.out], ?_, ⟨far HL.out.rP (hmem _ (by simp)).1, far HL.out.rN (hmem _ (by simp)).1, far HL.out.rU (hmem _ (by simp)).1, far RQ.out hgq1, fun i h ns h1 h2 => far (HL.out.each i h ns h1 h2) (hmem _ (by simp [List.mem_of_getElem? h1])).1, far HL.out.rL (hmem _ (by simp)).1⟩, hBl⟩
      exact hsz ▸ hst
theorem l04Copy_c : CopyC := fun A R hsm hok hn w h => by
  obtain ⟨aP, aN, aU, aQ, aL, cP, cN, cU, cQ, cL⟩ := A
  obtain ⟨sP, sN, sU, sQ, sL⟩ := h
  dsimp only at sP sN sU sQ sL ⊢
  have hp : 0 < R.ps.length := hok.topo.one
  have hu : 0 < R.up.length := by rw [hok.ups]; exact hn
  have hq : 0 < R.pss.length := by rw [hok.profs]; exact hn
  have hl : 0 < R.lic.length := hok.lics.one
  obtain ⟨x1, r1, e1⟩ := head_ints hp
  obtain ⟨x2, r2, e2⟩ := head_flat hn
  obtain ⟨x3, r3, e3⟩ := head_bools hu
  obtain ⟨x4, r4, e4⟩ := head_flat hl
  obtain ⟨pP, rfl, _⟩ := sP.cell 0 _ (by rw [e1]; rfl)
  obtain ⟨pN, rfl, _⟩ := sN.cell 0 _ (by rw [e2]; rfl)
  obtain ⟨pU, rfl, _⟩ := sU.cell 0 _ (by rw [e3]; rfl)
  obtain ⟨pL, rfl, _⟩ := sL.cell 0 _ (by rw [e4]; rfl)
  obtain ⟨pQ, _, _, rfl, _⟩ := sQ.here 0 _ (List.getElem?_eq_getElem hq)
  exact l04Copy_a pP pN pU pQ pL cP cN cU cQ cL R hsm hp hn hu hq hl (fun ns hm => (hok.each ns hm).one) (by rw [hok.profs]; exact hok.topo.nodes) w sP sN sU sQ sL
end Go.Proofs.YtmpjebkjopfejaaGreat
