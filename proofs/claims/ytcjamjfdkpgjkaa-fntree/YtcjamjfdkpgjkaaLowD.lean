/- The lowest switch, by the program: the walk. -/
import Derived.Test.YtcjamjfdkpgjkaaLowC
namespace Go.Proofs.Ytcjamjfdkpgjkaa
open Go.ChangeShapes Go.WideShapes Go.ChangeAt Go.RowKit Go.Shelf
attribute [local go_sem] Oper.semAt_some

/-- What is left of the nodes. -/
def lowMu (n : Nat) (a : Act) : Nat := n - (intOf (a.tmps.getD 21 undef)).toNat

set_option maxRecDepth 100000 in
set_option maxHeartbeats 8000000 in
theorem implLowest_c (a b f : Option Addr) (c d m : Nat) (ps : List Int) (ns : List Nd) (xs : List Int) (hn : ns.length ≤ 1048576) (hx : xs.length ≤ 1048576) (w : World) (h : Sq w a (ints ps)) (h' : Sq w b (flat ns)) (h2 : Sq w f (ints xs)) :
    Calls Try.prog 5 #[.agg #[.slice a ps.length c, .slice b ns.length d], .slice f xs.length m] w fun e w' => e = .returned (.int .i64 (lowR ps ns xs)) ∧ Below w.heap.size w w' := by
  have H : Hid (Sq w a (ints ps)) := h
  have H' : Hid (Sq w b (flat ns)) := h'
  have H2 : Hid (Sq w f (ints xs)) := h2
  clear h h' h2
  refine (callsIn_wide (n := 3)).1 ?_
  refine callsIn_of_wp_marks Try.func5 rfl trivial ?_ rfl
  simp only [Try.ntmps5, List.size_toArray, List.length_cons, List.length_nil, Nat.reduceAdd, Nat.reduceSub, Array.replicate_succ, Array.replicate_zero, List.push_toArray, List.append_toArray, List.nil_append, List.cons_append]
  refine wpIn_wide.2 ?_
  by_cases hx0 : xs.length = 0
  · have HN : Hid (lowR ps ns xs = -1) := by
      show _ = _
      rw [lowR, if_neg (fun t => t.2 (List.length_eq_zero_iff.1 hx0))]
    have hxi : ((xs.length : Int) == 0) = true := by simp [hx0]
    clear hx0
    go_wp2_with fail
    refine ⟨.int .i64 (-1), by simp [results, Try.results5, go_sem], by rw [HN.out], behind_alloc (behind_alloc (low_alloc _ _) _) _⟩
  · have hne : xs ≠ [] := fun e => hx0 (by rw [e]; rfl)
    have hxi : ((xs.length : Int) == 0) = false := by simp; omega
    have hxp : 0 < xs.length := by omega
    clear hx0
    go_wp2_with fail
    generalize hV : (((w.alloc (.cells #[.slice a ps.length c, .slice b ns.length d] 26)).alloc (.cells #[.slice f xs.length m] 23)).alloc (.cells #[.int .i64 0] 3)) = V
    have HA : Hid (Row V w.heap.size [.slice a ps.length c, .slice b ns.length d]) := by
      subst hV
      exact ((row_fresh w [.slice a ps.length c, .slice b ns.length d] 26).below (low_alloc _ _)).below (low_alloc _ _)
    have HF : Hid (Row V (w.heap.size + 1) [.slice f xs.length m]) := by
      subst hV
      have h := row_fresh (w.alloc (.cells #[.slice a ps.length c, .slice b ns.length d] 26)) [.slice f xs.length m] 23
      rw [show (w.alloc (.cells #[.slice a ps.length c, .slice b ns.length d] 26)).heap.size = w.heap.size + 1 by simp [go_sem]] at h
      exact h.below (low_alloc _ _)
    have HO : Hid (Boxed V (w.heap.size + 1 + 1) 3 (.int .i64 0)) := by
      subst hV
      have h := Boxed.new ((w.alloc (.cells #[.slice a ps.length c, .slice b ns.length d] 26)).alloc (.cells #[.slice f xs.length m] 23)) 3 (.int .i64 0)
      rwa [show ((w.alloc (.cells #[.slice a ps.length c, .slice b ns.length d] 26)).alloc (.cells #[.slice f xs.length m] 23)).heap.size = w.heap.size + 1 + 1 by simp [go_sem]] at h
    have HV : Hid (Below w.heap.size w V) := by subst hV; exact behind_alloc (behind_alloc (low_alloc _ _) _) _
    clear hV
    refine (nodesThere_c a b f c d m ps ns xs hn hx _ (H.out.below HV.out) (H'.out.below HV.out) (H2.out.below HV.out)).mono ?_
    rintro e w1 ⟨k, rfl, hk, hb⟩
    have HB1 : Hid (Below V.heap.size V w1) := hb
    have HO1 : Hid (Boxed w1 (w.heap.size + 1 + 1) 3 (.int .i64 0)) := (hb.block _ HO.out.lt).trans HO.out
    have HA1 : Hid (Row w1 w.heap.size [.slice a ps.length c, .slice b ns.length d]) := HA.out.below hb
    have HF1 : Hid (Row w1 (w.heap.size + 1) [.slice f xs.length m]) := HF.out.below hb
    have hoc := HO1.out.cell
    have hof := HO1.out.frozen
    have f0 := HF1.out.cell 0 _ rfl
    have hlt1 : w.heap.size + 1 < w1.heap.size := HF1.out.lt
    have hne1 : w.heap.size + 1 ≠ w1.heap.size := by omega
    clear hb HA HF HO
    cases k
    · have HN : Hid (lowR ps ns xs = -1) := by
        show _ = _
        rw [lowR, if_neg (fun t => by have := hk.2 t.1; cases this)]
      clear hk
      go_wp2_with fail
      refine ⟨.int .i64 (-1), by simp [results, Try.results5, go_sem, hoc], by rw [HN.out], (below_then HV.out HB1.out).setCell (by show w.heap.size ≤ w.heap.size + 1 + 1; omega) _⟩
    · have HY : Hid (NdOk ps ns xs) := hk.1 rfl
      have HN : Hid (lowR ps ns xs = bestTo ps ns xs ps.length) := by
        show _ = _
        rw [lowR, if_pos ⟨HY.out, hne⟩]
      have hfew := HY.out.1.few
      have HS1 : Hid (Sq w1 a (ints ps)) := (H.out.below HV.out).below HB1.out
      have HN1 : Hid (Sq w1 b (flat ns)) := (H'.out.below HV.out).below HB1.out
      have HX1 : Hid (Sq w1 f (ints xs)) := (H2.out.below HV.out).below HB1.out
      clear hk
      go_wp2_with fail
      refine wp_loop (fun a' w' => ∃ (k : Nat) (Ds : List Nat) (u7 u8 u22 u23 u24 u25 u26 u27 u28 u29 u30 u31 u32 u33 u34 u35 u36 u37 u38 u39 u40 : Value), a' = { tmps := #[.agg #[.slice a ps.length c, .slice b ns.length d], .slice f xs.length m, .pointer (some ⟨w.heap.size, 0, none⟩), .pointer (some ⟨w.heap.size + 1, 0, none⟩), .pointer (some ⟨w.heap.size + 1 + 1, 0, none⟩), .pointer (some ⟨w1.heap.size, 0, none⟩), undef, u7, u8, undef, .slice f xs.length m, .int .i64 (xs.length : Int), .bool false, .bool false, .agg #[.slice a ps.length c, .slice b ns.length d], .slice f xs.length m, .bool true, .bool false, .bool false, .slice f xs.length m, .int .i64 (xs.length : Int), .int .i64 (k : Int), u22, u23, u24, u25, u26, u27, u28, u29, u30, u31, u32, u33, u34, u35, u36, u37, u38, u39, u40, undef, undef, undef, undef, undef, undef, undef, undef, undef, undef, undef, undef, undef, undef, undef, undef, undef, undef, undef], defers := Ds.map markOf } ∧ k ≤ xs.length ∧ Row w' w1.heap.size (numRow (cntAt ps ns xs k [])) ∧ MarksOk w1.heap.size Ds w' ∧ Below w1.heap.size w1 w') (fun a' _ => lowMu xs.length a') ?start ?round
      case start =>
        refine ⟨0, [], undef, undef, undef, undef, undef, undef, undef, undef, undef, undef, undef, undef, undef, undef, undef, undef, undef, undef, undef, undef, undef, rfl, Nat.zero_le _, ?_, ⟨List.nodup_nil, fun D h => by simp at h⟩, low_alloc _ _⟩
        rw [show numRow (cntAt ps ns xs 0 []) = numRow (fun _ => 0) from numRow_congr (fun j _ => by simp [cntAt, cntTo, vals])]
        exact row_fresh w1 (numRow fun _ => 0) _
      case round =>
        rintro _ wr ⟨k, Ds, u7, u8, u22, u23, u24, u25, u26, u27, u28, u29, u30, u31, u32, u33, u34, u35, u36, u37, u38, u39, u40, rfl, hk, hrow, hmk, hb⟩
        have HR : Hid (Row wr w1.heap.size (numRow (cntAt ps ns xs k []))) := hrow
        have HM : Hid (MarksOk w1.heap.size Ds wr) := hmk
        have HB : Hid (Below w1.heap.size w1 wr) := hb
        clear hrow hmk hb
        by_cases hlt : k < xs.length
        · have hk0 : (0 : Int) ≤ (k : Int) := by omega
          have hk1 : (k : Int) < (xs.length : Int) := by omega
          obtain ⟨p, rfl, _, hc⟩ := (HX1.out.below HB.out).cell k _ (ints_at xs k hlt)
          have HX : Hid (xs[k]? = some xs[k]) := List.getElem?_eq_getElem hlt
          generalize xs[k] = x at hc HX
          obtain ⟨q, n, l, rfl, hq, hql, hnl, hll, hlf⟩ := leaf_of HY.out.1 (HY.out.2 x (List.mem_of_getElem? HX.out))
          have HF : Hid (upLeaf ps ns (q : Int) = upF ps l l) := by show _ = _; rw [upLeaf, hlf, Int.toNat_natCast]
          have hq0 : (0 : Int) ≤ (q : Int) := by omega
          have hq1 : (q : Int) < (ns.length : Int) := by omega
          obtain ⟨p2, rfl, c0, _, _, _⟩ := (HN1.out.below HB.out).node q hql
          rw [show ns[q] = n by rw [List.getElem?_eq_getElem hql] at hq; exact Option.some.inj hq, hnl] at c0
          clear hlf hnl hq hoc hof f0
          have e0 := (HA1.out.below HB.out).cell 0 _ rfl
          have e1 := (HA1.out.below HB.out).cell 1 _ rfl
          obtain ⟨u, hu⟩ := way_fin HY.out.1.tree hfew l hll
          have hul : u.length ≤ 24 := by
            have h1 := up_len ps l l
            rw [← hu] at h1
            simp [vals] at h1
            omega
          have HU : Hid (vals u = upF ps l l) := hu
          clear hu
          go_wp2_with fail
          refine wp_mono (Q := After fun x w2 => x = { tmps := #[.agg #[.slice a ps.length c, .slice (some p2) ns.length d], .slice (some p) xs.length m, .pointer (some ⟨w.heap.size, 0, none⟩), .pointer (some ⟨w.heap.size + 1, 0, none⟩), .pointer (some ⟨w.heap.size + 1 + 1, 0, none⟩), .pointer (some ⟨w1.heap.size, 0, none⟩), undef, .int .i64 (q : Int), u8, undef, .slice (some p) xs.length m, .int .i64 (xs.length : Int), .bool false, .bool false, .agg #[.slice a ps.length c, .slice (some p2) ns.length d], .slice (some p) xs.length m, .bool true, .bool false, .bool false, .slice (some p) xs.length m, .int .i64 (xs.length : Int), .int .i64 (k : Int), .bool true, .pointer (some (p.add k)), .int .i64 (q : Int), .pointer (some ⟨w.heap.size, 0, none⟩), .slice a ps.length c, .pointer (some ⟨w.heap.size, 1, none⟩), .slice (some p2) ns.length d, .int .i64 (q : Int), .pointer (some (p2.add (q * 4))), .pointer (some (p2.add (q * 4))), .int .i64 (l : Int), .func (.func 31) #[] #[.pointer (some ⟨wr.heap.size + 1, 0, none⟩), .pointer (some ⟨wr.heap.size, 0, none⟩)], u34, u35, u36, u37, u38, u39, u40, undef, undef, undef, undef, undef, undef, undef, undef, undef, undef, undef, undef, undef, undef, undef, undef, undef, undef, undef], defers := Ds.map markOf } ∧
            w2.cell? ⟨wr.heap.size, 0, none⟩ = some (.slice a ps.length c) ∧ w2.cell? ⟨wr.heap.size + 1, 0, none⟩ = some (.int .i64 (l : Int)) ∧ Below wr.heap.size wr w2) ?_ ?_
          · go_region_with (go_at_call 15; refine (wayUp_b a ps.length c l wr.drew).mono ?_; rintro e w2 ⟨Bp, rfl, hBp, hp0, hp1, hb, hko⟩; subst hBp)
            all_goals exact ⟨rfl, hp0, hp1, below_then (show Below wr.heap.size wr wr.drew from ⟨rfl, rfl, rfl, Nat.le_refl _, fun _ _ => rfl⟩) hb⟩
          rintro (_ | _ | _ | _ | _ | _) x w2 hAf
          all_goals first | exact hAf.elim | skip
          obtain ⟨rfl, hp0, hp1, hb2⟩ := hAf
          have HR2 : Hid (Row w2 w1.heap.size (numRow (cntAt ps ns xs k []))) := HR.out.below hb2
          have HM2 : Hid (MarksOk w1.heap.size Ds w2) := HM.out.below hb2
          have HB2 : Hid (Below w1.heap.size w1 w2) := below_then HB.out hb2
          have hM2 : WayMem a c ps wr.heap.size w2 := ⟨hp0, HS1.out.below HB2.out⟩
          have hw1r : w1.heap.size < wr.heap.size := HR.out.lt
          have hwr2 : wr.heap.size ≤ w2.heap.size := hb2.size
          clear hb2 HR HM HB e0 e1 hc c0
          go_wp2_with fail
          refine (wpIn_wide (n := 3)).1 ?_
          refine wpIn_rangeFunc_ownG (F := Fence.wide) (n := 3) rfl (by omega) (gf := 31) (lb := #[.pointer (some ⟨wr.heap.size + 1, 0, none⟩), .pointer (some ⟨wr.heap.size, 0, none⟩)]) rfl trivial (enters_of Try.func31 (by kernel_rfl) rfl)
            (wayUp_stops Fence.wide 2 trivial rfl (by omega) (wr.heap.size + 1) wr.heap.size a c ps l u HY.out.1.tree hll HU.out w2 hp1 hM2) wayMem_t (fun W l o o' _ h ho _ => wayMem_b W l o o' h ho) (Below.refl _ _) (fun _ => rfl)
            (fun pre W' => (Row W' w1.heap.size (numRow (cntAt ps ns xs k pre)) ∧ MarksOk w1.heap.size Ds W') ∧ Below w1.heap.size w1 W')
            (fun _ _ _ => False)
            (OwnFrom.and (OwnFrom.and (row_own _ _ (fun pre => numRow (cntAt ps ns xs k pre)) (fun _ => numRow_ne _)) (marks_own _ _ _ HM2.out.lt)) (ownFrom_below (Nat.le_refl _) (by omega)))
            (fun _ _ _ _ _ hs _ _ => hs)
            ⟨⟨HR2.out, HM2.out⟩, HB2.out⟩
            (fun x => { tmps := #[.agg #[.slice a ps.length c, .slice (some p2) ns.length d], .slice (some p) xs.length m, .pointer (some ⟨w.heap.size, 0, none⟩), .pointer (some ⟨w.heap.size + 1, 0, none⟩), .pointer (some ⟨w.heap.size + 1 + 1, 0, none⟩), .pointer (some ⟨w1.heap.size, 0, none⟩), undef, .int .i64 (q : Int), .int .i64 (x.val : Int), undef, .slice (some p) xs.length m, .int .i64 (xs.length : Int), .bool false, .bool false, .agg #[.slice a ps.length c, .slice (some p2) ns.length d], .slice (some p) xs.length m, .bool true, .bool false, .bool false, .slice (some p) xs.length m, .int .i64 (xs.length : Int), .int .i64 (k : Int), .bool true, .pointer (some (p.add k)), .int .i64 (q : Int), .pointer (some ⟨w.heap.size, 0, none⟩), .slice a ps.length c, .pointer (some ⟨w.heap.size, 1, none⟩), .slice (some p2) ns.length d, .int .i64 (q : Int), .pointer (some (p2.add (q * 4))), .pointer (some (p2.add (q * 4))), .int .i64 (l : Int), .func (.func 31) #[] #[.pointer (some ⟨wr.heap.size + 1, 0, none⟩), .pointer (some ⟨wr.heap.size, 0, none⟩)], .int .i64 (x.val : Int), u35, u36, u37, u38, u39, u40, undef, undef, undef, undef, undef, undef, undef, undef, undef, undef, undef, undef, undef, undef, undef, undef, undef, undef, undef], defers := [] }) ?assign ?body ?done ?stop
          case assign =>
            intro l x W K hK
            gi_wp2
            exact hK
          case body =>
            rintro l2 pre x W' ⟨⟨hr, hm⟩, hB'⟩ hpl
            have hxc := hr.cell x.val _ (numRow_at _ _ x.isLt)
            have hxf := hr.free x.val
            have hx0 : (0 : Int) ≤ ((x.val : Nat) : Int) := by omega
            have hx1 : ((x.val : Nat) : Int) < 24 := by have := x.isLt; omega
            have hcl := cntAt_le ps ns xs k pre x.val
            have hset := hr.set x.val (by rw [numRow_len]; exact x.isLt) (.int .i64 ((cntAt ps ns xs k pre x.val : Int) + 1))
            rw [cntAt_snoc] at hset
            generalize cntAt ps ns xs k pre x.val = g at hxc hcl hset
            gi_wp2
            exact ⟨(KeepsOthers.setCell _ _ _).from _, wayMem_set HS1.out (Nat.le_refl _) (by omega), ⟨hset, hm.keeps (KeepsOthers.setCell _ _ _)⟩, hB'.setCell (Nat.le_refl _) _⟩
          case done =>
            rintro D ys W' hD rfl ⟨⟨hr, hm⟩, hB'⟩ hK
            have HR3 : Hid (Row W' w1.heap.size (numRow (cntAt ps ns xs (k + 1) []))) := by
              show Row _ _ _
              rw [← cntAt_done HY.out.1.tree hll HX.out HU.out HF.out]
              exact hr
            have HM3 : Hid (MarksOk w1.heap.size (D :: Ds) W') := hm.more (by omega) (fun hD2 => by have := HM2.out.lt D hD2; omega) hK
            have HB3 : Hid (Below w1.heap.size w1 W') := hB'
            clear hr hm hB' hK
            go_wp2_with fail
            exact ⟨⟨k + 1, D :: Ds, _, _, _, _, _, _, _, _, _, _, _, _, _, _, _, _, _, _, _, _, _, rfl, by omega, HR3.out, HM3.out, HB3.out⟩, by simp [lowMu, intOf]; omega⟩
          case stop =>
            rintro D k pre W _ _ h _
            exact h.elim
        · obtain rfl : k = xs.length := by omega
          clear hk hlt
          cases hxs : xs with
          | nil => exact absurd hxs hne
          | cons x0 rest =>
          have HXS : Hid (xs = x0 :: rest) := hxs
          rw [← hxs]
          clear hxs
          obtain ⟨p, rfl, _, hc⟩ := (HX1.out.below HB.out).cell 0 _ (ints_at xs 0 hxp)
          have hx00 : xs[0] = x0 := by simp [HXS.out]
          rw [hx00, show p.add 0 = p from rfl] at hc
          have hxi0 : (0 : Int) < (xs.length : Int) := by omega
          obtain ⟨q, n, l, rfl, hq, hql, hnl, hll, hlf⟩ := leaf_of HY.out.1 (HY.out.2 x0 (by rw [HXS.out]; simp))
          have HF : Hid (upLeaf ps ns (q : Int) = upF ps l l) := by show _ = _; rw [upLeaf, hlf, Int.toNat_natCast]
          have hq0 : (0 : Int) ≤ (q : Int) := by omega
          have hq1 : (q : Int) < (ns.length : Int) := by omega
          obtain ⟨p2, rfl, c0, _, _, _⟩ := (HN1.out.below HB.out).node q hql
          rw [show ns[q] = n by rw [List.getElem?_eq_getElem hql] at hq; exact Option.some.inj hq, hnl] at c0
          clear hlf hnl hq hoc hof f0 hx00
          have e0 := (HA1.out.below HB.out).cell 0 _ rfl
          have e1 := (HA1.out.below HB.out).cell 1 _ rfl
          have e2 := (HF1.out.below HB.out).cell 0 _ rfl
          obtain ⟨u, hu⟩ := way_fin HY.out.1.tree hfew l hll
          have HU : Hid (vals u = upF ps l l) := hu
          clear hu
          go_wp2_with fail
          refine wp_mono (Q := After fun x w2 => x = { tmps := #[.agg #[.slice a ps.length c, .slice (some p2) ns.length d], .slice (some p) xs.length m, .pointer (some ⟨w.heap.size, 0, none⟩), .pointer (some ⟨w.heap.size + 1, 0, none⟩), .pointer (some ⟨w.heap.size + 1 + 1, 0, none⟩), .pointer (some ⟨w1.heap.size, 0, none⟩), undef, u7, u8, undef, .slice (some p) xs.length m, .int .i64 (xs.length : Int), .bool false, .bool false, .agg #[.slice a ps.length c, .slice (some p2) ns.length d], .slice (some p) xs.length m, .bool true, .bool false, .bool false, .slice (some p) xs.length m, .int .i64 (xs.length : Int), .int .i64 (xs.length : Int), .bool false, u23, u24, u25, u26, u27, u28, u29, u30, u31, u32, u33, u34, u35, u36, u37, u38, u39, u40, .pointer (some ⟨w.heap.size, 0, none⟩), .slice a ps.length c, .pointer (some ⟨w.heap.size, 1, none⟩), .slice (some p2) ns.length d, .slice (some p) xs.length m, .pointer (some p), .int .i64 (q : Int), .pointer (some (p2.add (q * 4))), .pointer (some (p2.add (q * 4))), .int .i64 (l : Int), .func (.func 31) #[] #[.pointer (some ⟨wr.heap.size + 1, 0, none⟩), .pointer (some ⟨wr.heap.size, 0, none⟩)], undef, undef, undef, undef, undef, undef, undef, undef], defers := Ds.map markOf } ∧
            w2.cell? ⟨wr.heap.size, 0, none⟩ = some (.slice a ps.length c) ∧ w2.cell? ⟨wr.heap.size + 1, 0, none⟩ = some (.int .i64 (l : Int)) ∧ Below wr.heap.size wr w2) ?_ ?_
          · go_region_with (go_at_call 15; refine (wayUp_b a ps.length c l wr.drew).mono ?_; rintro e w2 ⟨Bp, rfl, hBp, hp0, hp1, hb, hko⟩; subst hBp)
            all_goals exact ⟨rfl, hp0, hp1, below_then (show Below wr.heap.size wr wr.drew from ⟨rfl, rfl, rfl, Nat.le_refl _, fun _ _ => rfl⟩) hb⟩
          rintro (_ | _ | _ | _ | _ | _) x w2 hAf
          all_goals first | exact hAf.elim | skip
          obtain ⟨rfl, hp0, hp1, hb2⟩ := hAf
          have HR2 : Hid (Row w2 w1.heap.size (numRow (cntAt ps ns xs xs.length []))) := HR.out.below hb2
          have HM2 : Hid (MarksOk w1.heap.size Ds w2) := HM.out.below hb2
          have HB2 : Hid (Below w1.heap.size w1 w2) := below_then HB.out hb2
          have hM2 : WayMem a c ps wr.heap.size w2 := ⟨hp0, HS1.out.below HB2.out⟩
          have hw1r : w1.heap.size < wr.heap.size := HR.out.lt
          have hwr2 : wr.heap.size ≤ w2.heap.size := hb2.size
          clear hb2 HR HM HB e0 e1 e2 hc c0
          have hcov : ∀ y : Fin 24, cntAt ps ns xs xs.length [] y.val = xs.length ↔ cov ps ns xs (y.val : Int) := fun y => by
            unfold cntAt
            rw [show (vals ([] : List (Fin 24))).count ((y.val : Nat) : Int) = 0 by simp [vals], Nat.add_zero, cnt_all ps ns xs _ xs.length (Nat.le_refl _), List.take_of_length_le (Nat.le_refl _)]
            exact Iff.rfl
          have HC : Hid (∀ y : Fin 24, cntAt ps ns xs xs.length [] y.val = xs.length ↔ cov ps ns xs (y.val : Int)) := hcov
          clear hcov
          go_wp2_with fail
          refine (wpIn_wide (n := 3)).1 ?_
          refine wpIn_rangeFunc_ownG (F := Fence.wide) (n := 3) rfl (by omega) (gf := 31) (lb := #[.pointer (some ⟨wr.heap.size + 1, 0, none⟩), .pointer (some ⟨wr.heap.size, 0, none⟩)]) rfl trivial (enters_of Try.func31 (by kernel_rfl) rfl)
            (wayUp_stops Fence.wide 2 trivial rfl (by omega) (wr.heap.size + 1) wr.heap.size a c ps l u HY.out.1.tree hll HU.out w2 hp1 hM2) wayMem_t (fun W l o o' _ h ho _ => wayMem_b W l o o' h ho) (Below.refl _ _) (fun _ => rfl)
            (fun pre W' => ((Row W' w1.heap.size (numRow (cntAt ps ns xs xs.length [])) ∧ MarksOk w1.heap.size Ds W') ∧ ∀ y ∈ pre, ¬ cov ps ns xs ((y : Fin 24).val : Int)) ∧ Below w1.heap.size w1 W')
            (fun k pre W' => ((MarksOk w1.heap.size Ds W' ∧ ∃ v, Boxed W' (w.heap.size + 1 + 1) 3 v ∧ (k = .ret ∧ ∃ pre0 r, v = .int .i64 ((r : Fin 24).val : Int) ∧ pre = pre0 ++ [r] ∧ cov ps ns xs (r.val : Int) ∧ ∀ y ∈ pre0, ¬ cov ps ns xs ((y : Fin 24).val : Int)))) ∧ Below w.heap.size w W')
            (OwnFrom.and (OwnFrom.and (OwnFrom.and (row_own _ _ (fun _ => numRow (cntAt ps ns xs xs.length [])) (fun _ => numRow_ne _)) (marks_own _ _ _ HM2.out.lt)) (ownFrom_pure _ (fun pre => ∀ y ∈ pre, ¬ cov ps ns xs ((y : Fin 24).val : Int)))) (ownFrom_below (Nat.le_refl _) (by omega)))
            (fun k => OwnFrom.and (OwnFrom.and (marks_own _ _ _ HM2.out.lt) (Own.from (boxedEx_own _ _ _) _)) (ownFrom_below (Nat.le_refl _) (by omega)))
            ⟨⟨⟨HR2.out, HM2.out⟩, fun y hy => by simp at hy⟩, HB2.out⟩
            (fun x => { tmps := #[.agg #[.slice a ps.length c, .slice (some p2) ns.length d], .slice (some p) xs.length m, .pointer (some ⟨w.heap.size, 0, none⟩), .pointer (some ⟨w.heap.size + 1, 0, none⟩), .pointer (some ⟨w.heap.size + 1 + 1, 0, none⟩), .pointer (some ⟨w1.heap.size, 0, none⟩), undef, u7, u8, .int .i64 (x.val : Int), .slice (some p) xs.length m, .int .i64 (xs.length : Int), .bool false, .bool false, .agg #[.slice a ps.length c, .slice (some p2) ns.length d], .slice (some p) xs.length m, .bool true, .bool false, .bool false, .slice (some p) xs.length m, .int .i64 (xs.length : Int), .int .i64 (xs.length : Int), .bool false, u23, u24, u25, u26, u27, u28, u29, u30, u31, u32, u33, u34, u35, u36, u37, u38, u39, u40, .pointer (some ⟨w.heap.size, 0, none⟩), .slice a ps.length c, .pointer (some ⟨w.heap.size, 1, none⟩), .slice (some p2) ns.length d, .slice (some p) xs.length m, .pointer (some p), .int .i64 (q : Int), .pointer (some (p2.add (q * 4))), .pointer (some (p2.add (q * 4))), .int .i64 (l : Int), .func (.func 31) #[] #[.pointer (some ⟨wr.heap.size + 1, 0, none⟩), .pointer (some ⟨wr.heap.size, 0, none⟩)], .int .i64 (x.val : Int), undef, undef, undef, undef, undef, undef, undef], defers := [] }) ?assign ?body ?done ?stop
          case assign =>
            intro l x W K hK
            gi_wp2
            exact hK
          case body =>
            rintro l2 pre x W' ⟨⟨⟨hr, hm⟩, hpre⟩, hB'⟩ hpl
            have hxc := hr.cell x.val _ (numRow_at _ _ x.isLt)
            have hx0 : (0 : Int) ≤ ((x.val : Nat) : Int) := by omega
            have hx1 : ((x.val : Nat) : Int) < 24 := by have := x.isLt; omega
            have e2 := (HF1.out.below hB').cell 0 _ rfl
            have hob : Boxed W' (w.heap.size + 1 + 1) 3 (.int .i64 0) := (hB'.block _ HO1.out.lt).trans HO1.out
            have hoc := hob.cell
            have hof := hob.frozen
            have hcv := HC.out x
            generalize cntAt ps ns xs xs.length [] x.val = g at hxc hcv
            by_cases hg : g = xs.length
            · have hgb : ((g : Int) == (xs.length : Int)) = true := by simp; omega
              have hcv' := hcv.1 hg
              clear hg hcv
              gi_wp2
              gi_region
              all_goals
                gi_wp2
                exact ⟨((KeepsOthers.drew W').trans (KeepsOthers.setCell W'.drew ⟨w.heap.size + 1 + 1, 0, none⟩ (.int .i64 (x.val : Int)))).from _, ⟨hm.keeps ((KeepsOthers.drew W').trans (KeepsOthers.setCell W'.drew ⟨w.heap.size + 1 + 1, 0, none⟩ (.int .i64 (x.val : Int)))), _, (show Boxed W'.drew (w.heap.size + 1 + 1) 3 (.int .i64 0) from hob).set _, rfl, pre, x, rfl, rfl, hcv', hpre⟩, ((below_then (below_then (below_then HV.out HB1.out) hB') (show Below W'.heap.size W' W'.drew from ⟨rfl, rfl, rfl, Nat.le_refl _, fun _ _ => rfl⟩))).setCell (by show w.heap.size ≤ w.heap.size + 1 + 1; omega) _⟩
            · have hgb : ((g : Int) == (xs.length : Int)) = false := by simp; omega
              have hpre' : ∀ y ∈ pre ++ [x], ¬ cov ps ns xs ((y : Fin 24).val : Int) := fun y hy => by
                rcases List.mem_append.1 hy with hy | hy
                · exact hpre y hy
                · rw [List.mem_singleton.1 hy]
                  exact fun hc => hg (hcv.2 hc)
              clear hg hcv
              gi_wp2
              gi_region
              all_goals
                gi_wp2
                exact ⟨(KeepsOthers.drew W').from _, fun m => ⟨m.box, m.all.below ⟨rfl, rfl, rfl, Nat.le_refl _, fun _ _ => rfl⟩⟩, ⟨⟨hr.below ⟨rfl, rfl, rfl, Nat.le_refl _, fun _ _ => rfl⟩, hm.keeps (KeepsOthers.drew W')⟩, hpre'⟩, below_then hB' (show Below W'.heap.size W' W'.drew from ⟨rfl, rfl, rfl, Nat.le_refl _, fun _ _ => rfl⟩)⟩
          case done =>
            rintro D ys W' hD rfl ⟨⟨_, hall⟩, _⟩ hK
            exfalso
            have h0 := up_top HY.out.1.tree l l (Nat.le_refl _) hll
            rw [← HU.out] at h0
            obtain ⟨y, hy, e⟩ := List.mem_map.1 h0
            refine hall y hy ?_
            rw [e]
            exact cov_top HY.out
          case stop =>
            rintro D k pre W' hD hpre ⟨⟨hm, v, hbx, rfl, pre0, r, rfl, rfl, hr, hpre0⟩, hB'⟩ hK
            have hbest : bestTo ps ns xs ps.length = (r.val : Int) := by
              obtain ⟨post, hpost⟩ := hpre
              have h1 : upLeaf ps ns (q : Int) = vals pre0 ++ (r.val : Int) :: vals post := by
                rw [HF.out, ← HU.out, ← hpost]
                simp [vals]
              rw [HXS.out] at hr hpre0 ⊢
              refine best_first (by rw [← HXS.out]; exact HY.out) (vals pre0) (vals post) r.val h1 hr (fun y hy => ?_)
              obtain ⟨z, hz, e⟩ := List.mem_map.1 hy
              rw [← e]
              exact hpre0 z hz
            gi_wp2
            refine leaves_marks w1.heap.size (fun W => W.cell? ⟨w.heap.size + 1 + 1, 0, none⟩ = some (.int .i64 (r.val : Int)) ∧ Below w.heap.size w W) ?_ ?_ (D :: Ds) W' (hm.more (by omega) (fun hD2 => by have := HM2.out.lt D hD2; omega) hK) ⟨hbx.cell, hB'⟩
            · rintro W E hE hEd ⟨hc, hB⟩
              exact ⟨cell_kept hc (grownBy_putObj' W E _) (fun r e => by cases e; exact ⟨_, hEd, rfl⟩), hB.trans (belowK_b (w := w) (Nat.le_refl _) W E _ _ (by omega) hEd rfl rfl)⟩
            · rintro W ⟨hc, hB⟩
              exact ⟨.int .i64 (r.val : Int), by simp [results, Try.results5, go_sem, hc], by rw [HN.out, hbest], hB⟩
end Go.Proofs.Ytcjamjfdkpgjkaa
