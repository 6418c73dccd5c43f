/- 'Below' by the program: a node is gathered where the switch lies on its way up. -/
import Derived.Test.YtcjamjfdkpgjkaaAboveA
import Derived.Test.YtcjamjfdkpgjkaaTopJ
import Derived.Deep.RegionHeld3
namespace Go.Proofs.Ytcjamjfdkpgjkaa
open Go.ChangeShapes Go.WideShapes Go.ChangeAt Go.RowKit Go.Shelf
attribute [local go_sem] Oper.semAt_some

/-- A box stays where a mark is shut. -/
theorem boxed_mark {W : World} {B D : Nat} {t : TypeId} {v : Value} {o : Obj} (h : Boxed W B t v) (hD : W.heap[D]? = some (.deferred (some []))) : Boxed (W.putObj D o) B t v :=
  h.kept (grownBy_putObj' W D o) (fun e => by cases e; rw [show W.heap[B]? = _ from h] at hD; cases hD)

/-- Only on. -/
def After (P : Act → World → Prop) : Exit → Act → World → Prop
  | .normal, a, w => P a w
  | _, _, _ => False

/-- A walk up is made: two boxes more. -/
theorem wayUp_b (a : Option Addr) (n c : Nat) (s : Int) (w : World) :
    Calls Try.prog 15 #[.slice a n c, .int .i64 s] w fun e w' => ∃ Bp : Nat, e = .returned (.func (.func 31) #[] #[.pointer (some ⟨Bp + 1, 0, none⟩), .pointer (some ⟨Bp, 0, none⟩)]) ∧ Bp = w.heap.size ∧ w'.cell? ⟨Bp, 0, none⟩ = some (.slice a n c) ∧ w'.cell? ⟨Bp + 1, 0, none⟩ = some (.int .i64 s) ∧ Below w.heap.size w w' ∧ KeepsOthers w w' :=
  (wayUp_c a n c s w).mono fun e w' ⟨he, hw⟩ => by
    subst hw
    refine ⟨w.heap.size, he, rfl, ((row_fresh w [.slice a n c] 23).below (low_alloc _ _)).cell 0 _ rfl, ?_, behind_alloc (low_alloc _ _) _, (KeepsOthers.alloc _ _).trans (KeepsOthers.alloc _ _)⟩
    have h := (row_fresh (w.alloc (.cells #[.slice a n c] 23)) [.int .i64 s] 3).cell 0 _ rfl
    rwa [show (w.alloc (.cells #[.slice a n c] 23)).heap.size = w.heap.size + 1 by simp [go_sem]] at h

/-- What lies there while nodes are gathered: the topology, the switch. -/
structure GatherMem (a b : Option Addr) (c d : Nat) (ps : List Int) (ns : List Nd) (s : Int) (Bt Bs : Nat) (w : World) : Prop where
  t0 : w.cell? ⟨Bt, 0, none⟩ = some (.slice a ps.length c)
  t1 : w.cell? ⟨Bt, 1, none⟩ = some (.slice b ns.length d)
  sw : w.cell? ⟨Bs, 0, none⟩ = some (.int .i64 s)
  par : Sq w a (ints ps)
  nod : Sq w b (flat ns)

theorem GatherMem.below {a b : Option Addr} {c d : Nat} {ps : List Int} {ns : List Nd} {s : Int} {Bt Bs : Nat} {w w' : World} (h : GatherMem a b c d ps ns s Bt Bs w) (hb : Below w.heap.size w w') : GatherMem a b c d ps ns s Bt Bs w' :=
  ⟨(hb.cell (p := ⟨Bt, 0, none⟩) (World.block_lt_of_cell? _ _ h.t0)).trans h.t0, (hb.cell (p := ⟨Bt, 1, none⟩) (World.block_lt_of_cell? _ _ h.t1)).trans h.t1, (hb.cell (p := ⟨Bs, 0, none⟩) (World.block_lt_of_cell? _ _ h.sw)).trans h.sw, h.par.below hb, h.nod.below hb⟩

set_option maxRecDepth 100000 in
set_option maxHeartbeats 4000000 in
theorem gather_c (a b : Option Addr) (c d : Nat) (ps : List Int) (ns : List Nd) (s : Int) (Bt Bs Bb : Nat) (hok : SwOk ps ns s) (w W : World) (hM : GatherMem a b c d ps ns s Bt Bs w) (hW : Below w.heap.size w W)
    (hBb : w.heap.size ≤ Bb) (v : Value) (hv : Boxed W Bb 23 v) (j : Nat) (hj : j < ns.length) (hrow : W.ownsRow w.heap.size 3 1 v (belowTo ps ns s j).length (ints (belowTo ps ns s j))) :
    Calls Try.prog 21 #[.int .i64 (j : Int), .pointer (some ⟨Bt, 0, none⟩), .pointer (some ⟨Bs, 0, none⟩), .pointer (some ⟨Bb, 0, none⟩)] W fun e W' =>
      (∃ r, e = .returned r) ∧ ∃ v', Boxed W' Bb 23 v' ∧ W'.ownsRow w.heap.size 3 1 v' (belowTo ps ns s (j + 1)).length (ints (belowTo ps ns s (j + 1))) ∧ Below w.heap.size w W' := by
  have hN := hok.1.nodes
  have hj0 : (0 : Int) ≤ (j : Int) := by omega
  have hj1 : (j : Int) < (ns.length : Int) := by omega
  obtain ⟨i0, hi, hz0, hz1, hz2⟩ := info_parts infoInt
  refine (callsIn_wide (n := 3)).1 ?_
  refine callsIn_of_wp_marks Try.func21 rfl trivial ?_ rfl
  simp only [Try.ntmps21, List.size_toArray, List.length_cons, List.length_nil, Nat.reduceAdd, Nat.reduceSub, Array.replicate_succ, Array.replicate_zero, List.push_toArray, List.append_toArray, List.nil_append, List.cons_append]
  gi_wp2
  refine wpIn_wide.2 ?_
  generalize hWa : W.alloc (.cells #[.int .i64 (j : Int)] 3) = Wa
  have HN : Hid (Boxed Wa W.heap.size 3 (.int .i64 (j : Int))) := by subst hWa; exact Boxed.new _ _ _
  have HWa : Hid (Below W.heap.size W Wa) := by subst hWa; exact low_alloc _ _
  have HV : Hid (Boxed Wa Bb 23 v) := by subst hWa; exact hv.alloc _
  have HR : Hid (Wa.ownsRow w.heap.size 3 1 v (belowTo ps ns s j).length (ints (belowTo ps ns s j))) := by subst hWa; exact hrow.alloc _
  have HM : Hid (GatherMem a b c d ps ns s Bt Bs Wa) := (hM.below hW).below HWa.out
  have HB : Hid (Below w.heap.size w Wa) := below_then hW HWa.out
  clear hWa hv hrow
  obtain ⟨p2, hbp, c0, _, _, _⟩ := HM.out.nod.node j hj
  subst hbp
  have HX : Hid (ns[j]? = some ns[j]) := List.getElem?_eq_getElem hj
  generalize ns[j] = nd at c0 HX
  have hnode := hok.1.node nd (List.mem_of_getElem? HX.out)
  obtain ⟨m, hm⟩ : ∃ m : Nat, nd.l = m := ⟨nd.l.toNat, by omega⟩
  have hml : m < ps.length := by omega
  rw [hm] at c0
  have e0 := HM.out.t0
  have e1 := HM.out.t1
  have e2 := HN.out.cell
  refine wp_mono (Q := After fun x w2 => x = { tmps := #[.int .i64 (j : Int), .pointer (some ⟨Bt, 0, none⟩), .pointer (some ⟨Bs, 0, none⟩), .pointer (some ⟨Bb, 0, none⟩), .pointer (some ⟨W.heap.size, 0, none⟩), undef, .pointer (some ⟨Bt, 0, none⟩), .slice a ps.length c, .pointer (some ⟨Bt, 1, none⟩), .slice (some p2) ns.length d, .int .i64 (j : Int), .pointer (some (p2.add (j * 4))), .pointer (some (p2.add (j * 4))), .int .i64 (m : Int), .func (.func 31) #[] #[.pointer (some ⟨Wa.heap.size + 1, 0, none⟩), .pointer (some ⟨Wa.heap.size, 0, none⟩)], undef, undef, undef, undef, undef, undef, undef, undef], defers := [] } ∧
    w2.cell? ⟨Wa.heap.size, 0, none⟩ = some (.slice a ps.length c) ∧ w2.cell? ⟨Wa.heap.size + 1, 0, none⟩ = some (.int .i64 (m : Int)) ∧ Below Wa.heap.size Wa w2 ∧ KeepsOthers Wa w2) ?_ ?_
  · go_region_with (go_at_call 15; refine (wayUp_b a ps.length c m Wa.drew).mono ?_; rintro e w2 ⟨Bp, rfl, hBp, hp0, hp1, hb, hko⟩; subst hBp)
    all_goals exact ⟨rfl, hp0, hp1, below_then (show Below Wa.heap.size Wa Wa.drew from ⟨rfl, rfl, rfl, Nat.le_refl _, fun _ _ => rfl⟩) hb, KeepsOthers.trans (KeepsOthers.drew _) hko⟩
  rintro (_ | _ | _ | _ | _ | _) x w2 hA
  all_goals first | exact hA.elim | skip
  obtain ⟨rfl, hp0, hp1, hb2, hko⟩ := hA
  have HN2 : Hid (Boxed w2 W.heap.size 3 (.int .i64 (j : Int))) := (hb2.block _ HN.out.lt).trans HN.out
  have HV2 : Hid (Boxed w2 Bb 23 v) := (hb2.block _ HV.out.lt).trans HV.out
  have HR2 : Hid (w2.ownsRow w.heap.size 3 1 v (belowTo ps ns s j).length (ints (belowTo ps ns s j))) := owns_below HR.out hb2
  have HM2 : Hid (GatherMem a (some p2) c d ps ns s Bt Bs w2) := HM.out.below hb2
  have HB2 : Hid (Below w.heap.size w w2) := below_then HB.out hb2
  clear HN HV HR HM HB e0 e1 e2 c0 hko
  gi_wp2
  obtain ⟨u, hu⟩ := way_fin hok.1.tree hok.1.few m hml
  have hM2 : WayMem a c ps Wa.heap.size w2 := ⟨hp0, HM2.out.par⟩
  have hsz : W.heap.size < w2.heap.size := HN2.out.lt
  have hwsz : w.heap.size ≤ w2.heap.size := HB2.out.size
  refine wpIn_rangeFunc_ownG (F := Fence.wide) (n := 3) rfl (by omega) (gf := 31) (lb := #[.pointer (some ⟨Wa.heap.size + 1, 0, none⟩), .pointer (some ⟨Wa.heap.size, 0, none⟩)]) rfl trivial (enters_of Try.func31 (by kernel_rfl) rfl)
    (wayUp_stops Fence.wide 2 trivial rfl (by omega) (Wa.heap.size + 1) Wa.heap.size a c ps m u hok.1.tree hml hu w2 hp1 hM2) wayMem_t (fun W l o o' _ h ho _ => wayMem_b W l o o' h ho) (Below.refl _ _) (fun _ => rfl)
    (fun pre W' => ((∃ v', Boxed W' Bb 23 v' ∧ W'.ownsRow w.heap.size 3 1 v' (belowTo ps ns s j).length (ints (belowTo ps ns s j)) ∧ ∀ y ∈ pre, (y.val : Int) ≠ s) ∧ Boxed W' W.heap.size 3 (.int .i64 (j : Int))) ∧ Below w.heap.size w W')
    (fun k pre W' => ((∃ v', Boxed W' Bb 23 v' ∧ W'.ownsRow w.heap.size 3 1 v' (belowTo ps ns s j ++ [(j : Int)]).length (ints (belowTo ps ns s j ++ [(j : Int)])) ∧ ∃ y ∈ pre, (y.val : Int) = s) ∧ k = .ret) ∧ Below w.heap.size w W')
    (OwnFrom.and (OwnFrom.and (Own.from (holdsRow_own w.heap.size Bb 23 3 1 (fun _ => (belowTo ps ns s j).length) (fun _ => ints (belowTo ps ns s j)) (fun pre _ => ∀ y ∈ pre, ((y : Fin 24).val : Int) ≠ s)) _) (Own.from (boxed_own W.heap.size 3 (fun _ => .int .i64 (j : Int))) _)) (ownFrom_below (Nat.le_refl _) hwsz))
    (fun k => OwnFrom.and (OwnFrom.and (Own.from (holdsRow_own w.heap.size Bb 23 3 1 (fun _ => (belowTo ps ns s j ++ [(j : Int)]).length) (fun _ => ints (belowTo ps ns s j ++ [(j : Int)])) (fun pre _ => ∃ y ∈ pre, ((y : Fin 24).val : Int) = s)) _) (ownFrom_pure _ (fun _ => k = .ret))) (ownFrom_below (Nat.le_refl _) hwsz))
    ⟨⟨⟨v, HV2.out, HR2.out, fun y hy => by simp at hy⟩, HN2.out⟩, HB2.out⟩
    (fun x => { tmps := #[.int .i64 (j : Int), .pointer (some ⟨Bt, 0, none⟩), .pointer (some ⟨Bs, 0, none⟩), .pointer (some ⟨Bb, 0, none⟩), .pointer (some ⟨W.heap.size, 0, none⟩), .int .i64 (x.val : Int), .pointer (some ⟨Bt, 0, none⟩), .slice a ps.length c, .pointer (some ⟨Bt, 1, none⟩), .slice (some p2) ns.length d, .int .i64 (j : Int), .pointer (some (p2.add (j * 4))), .pointer (some (p2.add (j * 4))), .int .i64 (m : Int), .func (.func 31) #[] #[.pointer (some ⟨Wa.heap.size + 1, 0, none⟩), .pointer (some ⟨Wa.heap.size, 0, none⟩)], .int .i64 (x.val : Int), undef, undef, undef, undef, undef, undef, undef], defers := [] }) ?assign ?body ?done ?stop
  case assign =>
    intro l x W K hK
    gi_wp2
    exact hK
  case body =>
    rintro l pre x W' ⟨⟨⟨v', hv', hrow', hne⟩, hnode'⟩, hB'⟩ hlt
    have hc := hv'.cell
    have hcn := hnode'.cell
    have hcs := ((hM.below hB').sw)
    have hbl := below_len ps ns s j
    by_cases hxs : (x.val : Int) = s
    · have hxb : ((x.val : Int) == s) = true := by simpa using hxs
      gi_wp2_with (gi_at_builtin; refine wpListIn_append_own _ rfl _ _ 23 rfl w.heap.size 3 i0 (.int .i64 0) 1 8 Try.underlying23 hi hz0 hz1 hz2 rfl (by decide) _ _ _ rfl (hrow'.alloc _) ⟨W'.heap.size, 0, none⟩ 1 1 [.int .i64 (j : Int)] rfl rfl (cell_one_new _ _ _) (by simp [Value.oneCell']) (by unfold maxLen; omega) (by omega) (by have := hB'.size; simp; omega) ?_; intro v2 w1 hown' hgrow _; obtain ⟨g', cap', rfl⟩ := ownsRow_succ hown'; obtain ⟨hv1, hv2, hr2, hk2, hb2⟩ := hv'.appended (by decide) hrow' hB'.size hBb hown' hgrow; have hc1 := hv1.cell; have hf1 := hv1.frozen)
      exact ⟨hk2.from _, ⟨⟨_, hv2, by rw [List.length_append, ints, List.map_append]; simpa [ints] using hr2, x, by simp, hxs⟩, rfl⟩, hB'.trans hb2⟩
    · have hxb : ((x.val : Int) == s) = false := by simpa using hxs
      gi_wp2
      exact ⟨KeepsFrom.refl _ _, fun m => m, ⟨⟨v', hv', hrow', fun y hy => by
        rcases List.mem_append.1 hy with hy | hy
        · exact hne y hy
        · have e := List.mem_singleton.1 hy
          subst e
          exact hxs⟩, hnode'⟩, hB'⟩
  case done =>
    rintro D ys W' hD rfl ⟨⟨⟨v', hv', hrow', hne⟩, hnode'⟩, hB'⟩ hK
    have hstep : belowTo ps ns s (j + 1) = belowTo ps ns s j := by
      rw [belowTo, if_neg]
      rintro ⟨y, hy, hmem⟩
      rw [HX.out] at hy
      cases hy
      rw [show nd.l.toNat = m by omega, ← hu] at hmem
      obtain ⟨z, hz, e⟩ := List.mem_map.1 hmem
      exact hne z hz e
    gi_wp2
    refine ⟨by simp, .inl ⟨_, _, rfl, run_takeDeferred hK, ?_⟩⟩
    exact ⟨_, results_none rfl _ _ _, ⟨_, rfl⟩, v', boxed_mark hv' hK, by rw [hstep]; exact ownsRow_putObj hrow' _ hK rfl, hB'.trans (belowK_b (w := w) (Nat.le_refl _) W' D _ _ (by omega) hK rfl rfl)⟩
  case stop =>
    rintro D k pre W' hD hpre ⟨⟨⟨v', hv', hrow', y, hy, hys⟩, rfl⟩, hB'⟩ hK
    have hstep : belowTo ps ns s (j + 1) = belowTo ps ns s j ++ [(j : Int)] := by
      rw [belowTo, if_pos]
      refine ⟨nd, HX.out, ?_⟩
      rw [show nd.l.toNat = m by omega, ← hu]
      exact List.mem_map.2 ⟨y, hpre.subset hy, hys⟩
    gi_wp2
    refine ⟨by simp, .inl ⟨_, _, rfl, run_takeDeferred hK, ?_⟩⟩
    exact ⟨_, results_none rfl _ _ _, ⟨_, rfl⟩, v', boxed_mark hv' hK, by rw [hstep]; exact ownsRow_putObj hrow' _ hK rfl, hB'.trans (belowK_b (w := w) (Nat.le_refl _) W' D _ _ (by omega) hK rfl rfl)⟩
end Go.Proofs.Ytcjamjfdkpgjkaa
