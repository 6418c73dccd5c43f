/- The program's change of a profile. -/
import Derived.Test.YtmpjebkjopfejaaGreatMgRk
import Derived.Test.YtmpjebkjopfejaaGreatMzTkE
import Derived.Deep.DeepCutAuto
namespace Go.Proofs.YtmpjebkjopfejaaGreat
open Go.ChangeShapes Go.WideShapes Go.ChangeAt Go.RowKit

theorem row_of_owns_cap {w : World} {B n : Nat} {e : TypeId} {v : Value} {xs : List Value} (h : w.ownsRow B e 1 v n xs) (hn : 0 < n) : ∃ g cap, v = .slice (some ⟨g, 0, none⟩) n cap ∧ B ≤ g ∧ n ≤ cap ∧ Row w g xs := by
  obtain ⟨g, cap, hv, hB, hr⟩ := row_of_owns h hn
  obtain ⟨_, h⟩ := h
  rcases h with ⟨rfl, rfl⟩ | ⟨g', cap', cur, hv', _, _, hnc, _⟩
  · cases hn
  · subst hv
    cases hv'
    exact ⟨_, _, rfl, hB, hnc, hr⟩

theorem infoPt4 : (Tryz.prog.info? 109).map (fun i => (i.zero, i.size, i.bytes)) = some (some (.agg #[.int .i64 0, .int .i64 0, .int .i64 0, .int .i64 0]), 4, 32) := by kernel_rfl
/-- 'make([]impl.Pt, 0, n)'. -/
theorem make_pts0 (n : Nat) (hn : n ≤ 1048576) : ∃ Z : List Value, Z.length = n * 4 ∧ ∀ w : World, (Instr.makeSlice 42 (.int .i64 0) (.int .i64 (n : Int))).run Tryz.prog w = .ok (.slice (some ⟨w.heap.size, 0, none⟩) 0 n) (w.alloc (.cells Z.toArray 109)) := by
  obtain ⟨i0, hi, hz0, hz1, hz2⟩ := info_parts infoPt4
  refine ⟨(madeCells (Value.agg #[.int .i64 0, .int .i64 0, .int .i64 0, .int .i64 0]).cells (n * i0.size)).toList, ?_, fun w => ?_⟩
  · rw [hz1]
    simp [madeCells, Value.cells]
  · have h := run_make (P := Tryz.prog) (w := w) 42 109 i0 (.agg #[.int .i64 0, .int .i64 0, .int .i64 0, .int .i64 0]) Tryz.underlying42 hi hz0 .i64 .i64 0 (n : Int) (by omega) (by omega) (by rw [hz2]; omega) (by omega)
    simpa using h
theorem bx_made {w W : World} (hB : Below w.heap.size w W) (Z : List Value) {n : Nat} (hZ : Z.length = n * 4) (hn : n ≤ 1048576) :
    Bx w ((W.alloc (.cells Z.toArray 109)).alloc (.cells #[.slice (some ⟨W.heap.size, 0, none⟩) 0 n] 44)) W.heap.size (W.heap.size + 1) (.slice (some ⟨W.heap.size, 0, none⟩) 0 n) [] := by
  have hs := hB.size
  have hO : (W.alloc (.cells Z.toArray 109)).ownsRow W.heap.size 109 4 (.slice (some ⟨W.heap.size, 0, none⟩) 0 n) 0 [] := World.ownsRow_made W Z.toArray n (Nat.le_refl _) (by unfold maxLen; omega) (by simp [hZ])
  have h1 : (W.alloc (.cells Z.toArray 109)).heap.size = W.heap.size + 1 := by simp [go_sem]
  have hr := row_fresh (W.alloc (.cells Z.toArray 109)) [.slice (some ⟨W.heap.size, 0, none⟩) 0 n] 44
  rw [h1] at hr
  refine ⟨hr, hO.alloc _, ?_, hs, by omega, ?_, behind_alloc (behind_alloc hB _) _⟩
  · intro e
    have := Option.some.inj e
    simp at this
  · simp [go_sem]; omega
theorem tk_no {add : Bool} {v : Nd} {ns : List Nd} {f u : Int} (h : minK ns f u = false) : tkR add v ns f u = none := by rw [tkR, h]; rfl
theorem tk_yes {add : Bool} {v : Nd} {ns : List Nd} {f u : Int} (h : minK ns f u = true) : tkR add v ns f u = chgR add v ns f u := by rw [tkR, h]; rfl

set_option maxHeartbeats 8000000 in
set_option maxRecDepth 20000 in
theorem changed_true (b : Option Addr) (d : Nat) (ns : List Nd) (f u : Int) (v : Nd) (w : World) (h : Sq w b (flat ns)) :
    Calls Tryz.prog 63 #[.agg #[.slice b ns.length d], .int .i64 f, .int .i64 u, .agg #[.int .i64 v.a, .int .i64 v.b, .int .i64 v.c], .func (.func 72) #[] #[]] w (RetP w ((tkR true v ns f u).getD []) (tkR true v ns f u).isSome) := by
  have H : Hid (Sq w b (flat ns)) := h
  clear h
  go_enter Tryz.func63, Tryz.ntmps63
  go_wp2_with fail
  generalize hV : ((w.alloc (.cells #[.slice b ns.length d] 44)).alloc (.cells #[.int .i64 v.a, .int .i64 v.b, .int .i64 v.c] 50)).alloc (.cells #[.slice none 0 0] 44) = V
  have HV : Hid (Below w.heap.size w V) := by subst hV; exact behind_alloc (behind_alloc (low_alloc _ _) _) _
  have HA : Hid (Row V w.heap.size [.slice b ns.length d]) := by subst hV; exact ((row_fresh w [.slice b ns.length d] 44).below (low_alloc _ _)).below (low_alloc _ _)
  have HVc : Hid (Row V (w.heap.size + 1) [.int .i64 v.a, .int .i64 v.b, .int .i64 v.c]) := by
    subst hV
    have h := row_fresh (w.alloc (.cells #[.slice b ns.length d] 44)) [.int .i64 v.a, .int .i64 v.b, .int .i64 v.c] 50
    rw [show (w.alloc (.cells #[.slice b ns.length d] 44)).heap.size = w.heap.size + 1 by simp [go_sem]] at h
    exact h.below (low_alloc _ _)
  have HR : Hid (Row V (w.heap.size + 1 + 1) [.slice none 0 0]) := by
    subst hV
    have h := row_fresh ((w.alloc (.cells #[.slice b ns.length d] 44)).alloc (.cells #[.int .i64 v.a, .int .i64 v.b, .int .i64 v.c] 50)) [.slice none 0 0] 44
    rw [show ((w.alloc (.cells #[.slice b ns.length d] 44)).alloc (.cells #[.int .i64 v.a, .int .i64 v.b, .int .i64 v.c] 50)).heap.size = w.heap.size + 1 + 1 by simp [go_sem]] at h
    exact h
  clear hV
  refine (implProfOk_c b d ns _ (H.out.below HV.out)).mono ?_
  rintro e w1 ⟨k, rfl, hk, hb⟩
  have HB1 : Hid (Below w.heap.size w w1) := below_then HV.out hb
  have HA1 : Hid (Row w1 w.heap.size [.slice b ns.length d]) := HA.out.below hb
  have HV1 : Hid (Row w1 (w.heap.size + 1) [.int .i64 v.a, .int .i64 v.b, .int .i64 v.c]) := HVc.out.below hb
  have HR1 : Hid (Row w1 (w.heap.size + 1 + 1) [.slice none 0 0]) := HR.out.below hb
  have HK : Hid (k = true ↔ POk ns) := hk
  clear hb hk HA HVc HR HV
  have r0 := HR1.out.cell 0 _ rfl
  have rf := HR1.out.free 0
  cases k
  · have HN : Hid (tkR true v ns f u = none) := tk_no (minK_no (fun t => by have := HK.out.2 t; cases this)).1
    clear HK
    have B8 := HB1.out
    go_wp2_with fail
    refine bodyPost_ret (v := .tuple #[.agg #[.slice none 0 0], .bool false]) (by simp [results, Tryz.results63, go_sem, *]) rfl ⟨_, by rw [HN.out]; rfl, ?_, by go_grown⟩
    rw [HN.out]
    exact AnsP.none _ _ _ _ _
  · have HY : Hid (POk ns) := HK.out.1 rfl
    have hfw := HY.out.few
    clear HK
    go_wp2_with fail
    refine (spanOk_c f u _).mono ?_
    rintro e w2 ⟨rfl, rfl⟩
    cases hsp : spanB f u
    · have HN : Hid (tkR true v ns f u = none) := tk_no (minK_span hsp).1
      clear hsp
      have B8 := HB1.out
      go_wp2_with fail
      refine bodyPost_ret (v := .tuple #[.agg #[.slice none 0 0], .bool false]) (by simp [results, Tryz.results63, go_sem, *]) rfl ⟨_, by rw [HN.out]; rfl, ?_, by go_grown⟩
      rw [HN.out]
      exact AnsP.none _ _ _ _ _
    · have HS : Hid (spanB f u = true) := hsp
      have HN0 : Hid (tkR true v ns f u = chgR true v ns f u) := tk_yes (minK_yes HY.out hsp).1
      have p0 := HA1.out.cell 0 _ rfl
      clear hsp r0 rf
      go_wp2_with fail
      clear p0
      refine (times_c b d ns (by omega) _ (H.out.below HB1.out)).mono ?_
      rintro e w3 ⟨vt, rfl, hown, hb⟩
      obtain ⟨gt, ct, hvt, hgt, hct, hrt⟩ := row_of_owns_cap hown (by rw [ats_len]; exact HY.out.one)
      subst hvt
      have HB3 : Hid (Below w.heap.size w w3) := below_then HB1.out hb
      have HA3 : Hid (Row w3 w.heap.size [.slice b ns.length d]) := HA1.out.below hb
      have HV3 : Hid (Row w3 (w.heap.size + 1) [.int .i64 v.a, .int .i64 v.b, .int .i64 v.c]) := HV1.out.below hb
      have HR3 : Hid (Row w3 (w.heap.size + 1 + 1) [.slice none 0 0]) := HR1.out.below hb
      have HT3 : Hid (Row w3 gt (ints (atsL ns))) := hrt
      have HC3 : Hid ((atsL ns).length ≤ ct) := hct
      clear hown hb hgt hct hrt HB1 HA1 HV1 HR1
      go_wp2_with fail
      have HB4 : Hid (Below w.heap.size w (w3.alloc (.cells #[.int .i64 f, .int .i64 u] 3))) := behind_alloc HB3.out _
      have HA4 : Hid (Row (w3.alloc (.cells #[.int .i64 f, .int .i64 u] 3)) w.heap.size [.slice b ns.length d]) := HA3.out.below (low_alloc _ _)
      have HV4 : Hid (Row (w3.alloc (.cells #[.int .i64 f, .int .i64 u] 3)) (w.heap.size + 1) [.int .i64 v.a, .int .i64 v.b, .int .i64 v.c]) := HV3.out.below (low_alloc _ _)
      have HR4 : Hid (Row (w3.alloc (.cells #[.int .i64 f, .int .i64 u] 3)) (w.heap.size + 1 + 1) [.slice none 0 0]) := HR3.out.below (low_alloc _ _)
      have HT4 : Hid (Row (w3.alloc (.cells #[.int .i64 f, .int .i64 u] 3)) gt (ints (atsL ns))) := HT3.out.below (low_alloc _ _)
      have HF4 : Hid (Row (w3.alloc (.cells #[.int .i64 f, .int .i64 u] 3)) w3.heap.size (ints [f, u])) := row_fresh w3 [.int .i64 f, .int .i64 u] 3
      generalize w3.alloc (.cells #[.int .i64 f, .int .i64 u] 3) = U4 at HB4 HA4 HV4 HR4 HT4 HF4
      generalize w3.heap.size = gf at *
      clear HB3 HA3 HV3 HR3 HT3
      have hal := ats_len ns
      have HM : Hid (Calls Tryz.prog 92 #[.slice (some ⟨gt, 0, none⟩) (atsL ns).length ct, .slice (some ⟨gf, 0, none⟩) [f, u].length 2] U4 fun e w' => ∃ v, e = .returned v ∧ w'.ownsRow U4.heap.size 3 1 v (tmsL ns f u).length (ints (tmsL ns f u)) ∧ Below U4.heap.size U4 w') := merged_c ⟨gt, 0, none⟩ ⟨gf, 0, none⟩ ct 2 (atsL ns) [f, u] (by omega) (by simp) HC3.out (by simp) (ats_up HY.out.rising) (by have := (span_iff.1 HS.out).2.2; simp [Up, this]) U4 (Sq.of_row HT4.out) (Sq.of_row HF4.out)
      clear hal
      refine HM.out.mono ?_
      rintro e w5 ⟨vm, rfl, hown, hb⟩
      have htl := tms_len ns f u
      obtain ⟨gm, cm, hvm, hgm, hrm⟩ := row_of_owns hown (List.length_pos_iff.2 (tms_ne ns f u))
      subst hvm
      have HEq0 : Hid (chTo (chG true v) ns f u ((tmsL ns f u).drop 0) [] = chTo (chG true v) ns f u (tmsL ns f u) []) := rfl
      have HTm : Hid (∀ t ∈ tmsL ns f u, timeB t = true) := tms_time HY.out HS.out
      generalize hts : tmsL ns f u = ts at *
      have HTs : Hid (tmsL ns f u = ts) := hts
      have HRt : Hid (Row w5 gm (ints ts)) := hrm
      have HA5 : Hid (Row w5 w.heap.size [.slice b ns.length d]) := HA4.out.below hb
      have HV5 : Hid (Row w5 (w.heap.size + 1) [.int .i64 v.a, .int .i64 v.b, .int .i64 v.c]) := HV4.out.below hb
      have HR5 : Hid (Row w5 (w.heap.size + 1 + 1) [.slice none 0 0]) := HR4.out.below hb
      have hR5 := HR5.out.lt
      have hgm := HRt.out.lt
      have hlow : w.heap.size ≤ w5.heap.size := by omega
      have HB5 : Hid (Below w.heap.size w w5) := below_then HB4.out hb
      obtain ⟨Z, hZ, hmk⟩ := make_pts0 ts.length (by omega)
      clear hown hb hrm hts HM HA4 HV4 HR4 HT4 HF4 HB4
      go_wp2_with fail
      clear hmk
      have HBx0 : Hid (Bx w ((w5.alloc (.cells Z.toArray 109)).alloc (.cells #[.slice (some ⟨w5.heap.size, 0, none⟩) 0 ts.length] 44)) w5.heap.size (w5.heap.size + 1) (.slice (some ⟨w5.heap.size, 0, none⟩) 0 ts.length) []) := bx_made HB5.out Z hZ (by omega)
      have HK0 : Hid (KeepR w5 (w5.heap.size + 1) ((w5.alloc (.cells Z.toArray 109)).alloc (.cells #[.slice (some ⟨w5.heap.size, 0, none⟩) 0 ts.length] 44))) := fun b xs hr _ => (hr.below (low_alloc _ _)).below (low_alloc _ _)
      generalize (w5.alloc (.cells Z.toArray 109)).alloc (.cells #[.slice (some ⟨w5.heap.size, 0, none⟩) 0 ts.length] 44) = w6 at HBx0 HK0 ⊢
      generalize hO : w5.heap.size + 1 = O at *
      generalize hB : w5.heap.size = B at *
      have HB : Hid (w5.heap.size = B) := hB
      clear hB HB5 hZ
      go_loopw [41] (fun i wr => ∃ (j : Nat) (vv : Value) (out : List Nd), j ≤ ts.length ∧ i = .int .i64 j ∧ Bx w wr B O vv out ∧ KeepR w5 O wr ∧ out.length ≤ j ∧ chTo (chG true v) ns f u (ts.drop j) out = chTo (chG true v) ns f u ts []) (fun i _ => ts.length - (intOf i).toNat)
      case atStart => exact ⟨0, _, [], Nat.zero_le _, rfl, HBx0.out, HK0.out, Nat.le_refl _, HEq0.out⟩
      case round =>
        obtain ⟨j, vv, out, hj, rfl, hbx, hkr, hol, heq⟩ := hrel
        have HX5 : Hid (Bx w wr B O vv out) := hbx
        have HK5 : Hid (KeepR w5 O wr) := hkr
        have HE5 : Hid (chTo (chG true v) ns f u (ts.drop j) out = chTo (chG true v) ns f u ts []) := heq
        clear hbx hkr heq HBx0 HK0 HEq0
        have HP5 := HK5.out _ _ HA5.out (by omega)
        by_cases hlt : j < ts.length
        · have hj0 : (0 : Int) ≤ (j : Int) := by omega
          have hj1 : (j : Int) < (ts.length : Int) := by omega
          have hgO : gm ≠ O := by omega
          have hTs5 := HK5.out _ _ HRt.out hgO
          have HX : Hid (ts[j]? = some ts[j]) := List.getElem?_eq_getElem hlt
          have ht0 := (time_iff.1 (HTm.out ts[j] (List.getElem_mem hlt))).1
          have tc := hTs5.cell j _ (ints_at ts j hlt)
          generalize ts[j] = t at tc HX ht0
          have p0 := HP5.cell 0 _ rfl
          go_wp2_with fail
          refine (at_c b d ns t HY.out ht0 _ (H.out.below HX5.out.grown)).mono ?_
          rintro e w3 ⟨rfl, hb⟩
          have HL3 : Hid (Below wr.heap.size wr w3) := hb
          clear hb tc p0 hTs5 HP5 ht0
          have HE6 : Hid (chTo (chG true v) ns f u (ts.drop j) out = if f ≤ t ∧ t < u then (match chG true v (atL ns t) with | none => none | some m => chTo (chG true v) ns f u (ts.drop (j + 1)) (putN out ⟨t, m.a, m.b, m.c⟩)) else chTo (chG true v) ns f u (ts.drop (j + 1)) (putN out ⟨t, (atL ns t).a, (atL ns t).b, (atL ns t).c⟩)) := ch_here HX.out
          generalize atL ns t = m0 at HE6
          have HX6 : Hid (Bx w w3 B O vv out) := HX5.out.below HL3.out
          have HK6 : Hid (KeepR w5 O w3) := HK5.out.below HL3.out
          have hB3 := HX6.out.le
          have hO3 := HX6.out.box.lt
          have hwB := HX6.out.low
          have hw5B := HB.out
          have HX7 : Hid (Bx w (w3.alloc (.cells #[.int .i64 m0.a, .int .i64 m0.b, .int .i64 m0.c] 50)) B O vv out) := HX6.out.below (low_alloc _ _)
          have HK7 : Hid (KeepR w5 O (w3.alloc (.cells #[.int .i64 m0.a, .int .i64 m0.b, .int .i64 m0.c] 50))) := HK6.out.below (low_alloc _ _)
          have HF7 : Hid (Row (w3.alloc (.cells #[.int .i64 m0.a, .int .i64 m0.b, .int .i64 m0.c] 50)) w3.heap.size [.int .i64 m0.a, .int .i64 m0.b, .int .i64 m0.c]) := row_fresh w3 [.int .i64 m0.a, .int .i64 m0.b, .int .i64 m0.c] 50
          have hF : vv.ownBlock ≠ some w3.heap.size := fun e => by have := (HX6.out.own.lt _ e).2; omega
          clear HX5 HK5 HL3
          by_cases hspan : f ≤ t ∧ t < u
          · obtain ⟨hs1, hs2⟩ := hspan
            rw [if_pos ⟨hs1, hs2⟩] at HE6
            have y0 := (HK6.out _ _ HV5.out (by omega)).cell 0 _ rfl
            have y1 := (HK6.out _ _ HV5.out (by omega)).cell 1 _ rfl
            have y2 := (HK6.out _ _ HV5.out (by omega)).cell 2 _ rfl
            have hne1 : w.heap.size + 1 ≠ w3.heap.size := by omega
            have hlt1 : w.heap.size + 1 < w3.heap.size := by omega
            go_wp2_with fail
            generalize w3.alloc (.cells #[.int .i64 m0.a, .int .i64 m0.b, .int .i64 m0.c] 50) = w4 at HX7 HK7 HF7
            clear y0 y1 y2 hne1 hlt1 HX6 HK6
            generalize w3.heap.size = F at *
            refine (implVecAdd_g v m0 _).mono ?_
            rintro e w6 ⟨rfl, hb⟩
            have HX8 : Hid (Bx w w6 B O vv out) := HX7.out.below hb
            have HK8 : Hid (KeepR w5 O w6) := HK7.out.below hb
            have HF8 : Hid (Row w6 F [.int .i64 m0.a, .int .i64 m0.b, .int .i64 m0.c]) := HF7.out.below hb
            clear hb HX7 HK7 HF7
            cases hg : chG true v m0 with
            | none =>
              rw [hg] at HE6
              have hcv : chV true v m0 = .tuple #[.agg #[.int .i64 0, .int .i64 0, .int .i64 0], .bool false] := by rw [chV, hg]; rfl
              rw [hcv]
              have HN : Hid (tkR true v ns f u = none) := by show _ = _; rw [HN0.out, chgR, HTs.out, ← HE5.out, HE6.out]; rfl
              have HRR := HK8.out _ _ HR5.out (by omega)
              have r0 := HRR.cell 0 _ rfl
              have rf := HRR.free 0
              have hlr := HRR.lt
              have hnr : w.heap.size + 1 + 1 ≠ w6.heap.size := by omega
              have B8 := HX8.out.grown
              clear hcv hg
              go_wp2_with fail
              refine bodyPost_ret (v := .tuple #[.agg #[.slice none 0 0], .bool false]) (by simp [results, Tryz.results63, go_sem, *]) rfl ⟨_, by rw [HN.out]; rfl, ?_, by go_grown⟩
              rw [HN.out]
              exact AnsP.none _ _ _ _ _
            | some m =>
              rw [hg] at HE6
              have hcv : chV true v m0 = .tuple #[.agg #[.int .i64 m.a, .int .i64 m.b, .int .i64 m.c], .bool true] := by rw [chV, hg]; rfl
              rw [hcv]
              have HEq : Hid (chTo (chG true v) ns f u (ts.drop (j + 1)) (putN out ⟨t, m.a, m.b, m.c⟩) = chTo (chG true v) ns f u ts []) := by show _ = _; rw [← HE5.out]; exact HE6.out.symm
              clear hcv hg
              have g0 := HF8.out.cell 0 _ rfl
              have g1 := HF8.out.cell 1 _ rfl
              have g2 := HF8.out.cell 2 _ rfl
              have h0 := HF8.out.free 0
              have h1 := HF8.out.free 1
              have h2 := HF8.out.free 2
              have hF6 := HF8.out.lt
              have hnF : F ≠ w6.heap.size := by omega
              have HXw : Hid (Bx w ((((w6.setCell ⟨F, 0, none⟩ (.int .i64 m.a)).setCell ⟨F, 1, none⟩ (.int .i64 m.b)).setCell ⟨F, 2, none⟩ (.int .i64 m.c)).alloc (.cells #[.int .i64 m.a, .int .i64 m.b, .int .i64 m.c] 50)) B O vv out) := (((HX8.out.apart (by omega) hF (by omega)).apart (by omega) hF (by omega)).apart (by omega) hF (by omega)).below (low_alloc _ _)
              have HKw : Hid (KeepR w5 O ((((w6.setCell ⟨F, 0, none⟩ (.int .i64 m.a)).setCell ⟨F, 1, none⟩ (.int .i64 m.b)).setCell ⟨F, 2, none⟩ (.int .i64 m.c)).alloc (.cells #[.int .i64 m.a, .int .i64 m.b, .int .i64 m.c] 50))) := (((HK8.out.apart (by omega)).apart (by omega)).apart (by omega)).below (low_alloc _ _)
              clear HX8 HK8
              go_wp2_with fail
              generalize ((((w6.setCell ⟨F, 0, none⟩ (.int .i64 m.a)).setCell ⟨F, 1, none⟩ (.int .i64 m.b)).setCell ⟨F, 2, none⟩ (.int .i64 m.c)).alloc (.cells #[.int .i64 m.a, .int .i64 m.b, .int .i64 m.c] 50)) = W at HXw HKw
              clear g0 g1 g2 h0 h1 h2
              refine (put_c w W B O vv out ⟨t, m.a, m.b, m.c⟩ (by omega) HXw.out).mono ?_
              rintro e W2 ⟨rfl, v2, hx2, hr2⟩
              have HX5 : Hid (Bx w W2 B O v2 (putN out ⟨t, m.a, m.b, m.c⟩)) := hx2
              have HK5 : Hid (KeepR w5 O W2) := fun b xs hr hne => hr2 b xs (HKw.out b xs hr hne) (by have := hr.lt; omega) hne
              have hpl := put_len out ⟨t, m.a, m.b, m.c⟩
              clear hx2 hr2
              go_wp2_with fail
              exact ⟨⟨j + 1, _, putN out ⟨t, m.a, m.b, m.c⟩, by omega, by go_num, HX5.out, HK5.out, by omega, HEq.out⟩, by simp [intOf]; omega⟩
          · have hspan2 : ¬ (f ≤ t ∧ t < u) := hspan
            rw [if_neg hspan] at HE6
            have HEq : Hid (chTo (chG true v) ns f u (ts.drop (j + 1)) (putN out ⟨t, m0.a, m0.b, m0.c⟩) = chTo (chG true v) ns f u ts []) := by show _ = _; rw [← HE5.out]; exact HE6.out.symm
            by_cases hs1 : f ≤ t
            case' pos => have hs2 : ¬ t < u := fun h => hspan2 ⟨hs1, h⟩
            all_goals
              clear hspan hspan2
              go_wp2_with fail
              generalize w3.alloc (.cells #[.int .i64 m0.a, .int .i64 m0.b, .int .i64 m0.c] 50) = W at HX7 HK7 HF7
              clear HX6 HK6
              refine (put_c w W B O vv out ⟨t, m0.a, m0.b, m0.c⟩ (by omega) HX7.out).mono ?_
              rintro e W2 ⟨rfl, v2, hx2, hr2⟩
              have HX5 : Hid (Bx w W2 B O v2 (putN out ⟨t, m0.a, m0.b, m0.c⟩)) := hx2
              have HK5 : Hid (KeepR w5 O W2) := fun b xs hr hne => hr2 b xs (HK7.out b xs hr hne) (by have := hr.lt; omega) hne
              have hpl := put_len out ⟨t, m0.a, m0.b, m0.c⟩
              clear hx2 hr2
              go_wp2_with fail
              exact ⟨⟨j + 1, _, putN out ⟨t, m0.a, m0.b, m0.c⟩, by omega, by go_num, HX5.out, HK5.out, by omega, HEq.out⟩, by simp [intOf]; omega⟩
        · have HE7 : Hid (chTo (chG true v) ns f u ts [] = some out) := by
            show _ = _
            rw [← HE5.out, List.drop_eq_nil_of_le (by omega)]
            rfl
          obtain ⟨a1, c1, hv1, _⟩ := HX5.out.form
          subst hv1
          have b0 := HX5.out.box.cell 0 _ rfl
          have HRR := HK5.out _ _ HR5.out (by omega)
          have r0 := HRR.cell 0 _ rfl
          have rf := HRR.free 0
          have B8 := HX5.out.grown
          have hwB := HX5.out.low
          have hw5B := HB.out
          have hO1 := HX5.out.box.lt
          clear HP5 HRR
          by_cases h200 : out.length ≤ 200
          · have HN : Hid (tkR true v ns f u = some out) := by
              show _ = _
              rw [HN0.out, chgR, HTs.out, HE7.out]
              simp [Option.filter, h200]
            have hd : ¬ (200 : Int) < (out.length : Int) := by omega
            have HAns : Hid (AnsP B wr.heap.size (wr.setCell ⟨w.heap.size + 1 + 1, 0, none⟩ (.slice a1 out.length c1)) out.length (flat out) (.slice a1 out.length c1)) := (AnsP.of_owns HX5.out.own).keep (fun g h1 _ hr => hr.apart (w.heap.size + 1 + 1) 0 _ (by omega))
            have HBf : Hid (Below w.heap.size w (wr.setCell ⟨w.heap.size + 1 + 1, 0, none⟩ (.slice a1 out.length c1))) := B8.setCell (p := ⟨w.heap.size + 1 + 1, 0, none⟩) (by show w.heap.size ≤ w.heap.size + 1 + 1; omega) _
            go_wp2_with fail
            refine bodyPost_ret (v := .tuple #[.agg #[.slice a1 out.length c1], .bool true]) (by simp [results, Tryz.results63, go_sem, *]) rfl ⟨_, by rw [HN.out]; rfl, ?_, HBf.out⟩
            rw [HN.out]
            exact HAns.out.wide (by omega) (by rw [World.size_setCell]; exact Nat.le_refl _)
          · have HN : Hid (tkR true v ns f u = none) := by
              show _ = _
              rw [HN0.out, chgR, HTs.out, HE7.out]
              simp [Option.filter, h200]
            have hd : (200 : Int) < (out.length : Int) := by omega
            go_wp2_with fail
            refine bodyPost_ret (v := .tuple #[.agg #[.slice none 0 0], .bool false]) (by simp [results, Tryz.results63, go_sem, *]) rfl ⟨_, by rw [HN.out]; rfl, ?_, by go_grown⟩
            rw [HN.out]
            exact AnsP.none _ _ _ _ _
set_option maxHeartbeats 8000000 in
set_option maxRecDepth 20000 in
theorem changed_false (b : Option Addr) (d : Nat) (ns : List Nd) (f u : Int) (v : Nd) (w : World) (h : Sq w b (flat ns)) :
    Calls Tryz.prog 63 #[.agg #[.slice b ns.length d], .int .i64 f, .int .i64 u, .agg #[.int .i64 v.a, .int .i64 v.b, .int .i64 v.c], .func (.func 64) #[] #[]] w (RetP w ((tkR false v ns f u).getD []) (tkR false v ns f u).isSome) := by
  have H : Hid (Sq w b (flat ns)) := h
  clear h
  go_enter Tryz.func63, Tryz.ntmps63
  go_wp2_with fail
  generalize hV : ((w.alloc (.cells #[.slice b ns.length d] 44)).alloc (.cells #[.int .i64 v.a, .int .i64 v.b, .int .i64 v.c] 50)).alloc (.cells #[.slice none 0 0] 44) = V
  have HV : Hid (Below w.heap.size w V) := by subst hV; exact behind_alloc (behind_alloc (low_alloc _ _) _) _
  have HA : Hid (Row V w.heap.size [.slice b ns.length d]) := by subst hV; exact ((row_fresh w [.slice b ns.length d] 44).below (low_alloc _ _)).below (low_alloc _ _)
  have HVc : Hid (Row V (w.heap.size + 1) [.int .i64 v.a, .int .i64 v.b, .int .i64 v.c]) := by
    subst hV
    have h := row_fresh (w.alloc (.cells #[.slice b ns.length d] 44)) [.int .i64 v.a, .int .i64 v.b, .int .i64 v.c] 50
    rw [show (w.alloc (.cells #[.slice b ns.length d] 44)).heap.size = w.heap.size + 1 by simp [go_sem]] at h
    exact h.below (low_alloc _ _)
  have HR : Hid (Row V (w.heap.size + 1 + 1) [.slice none 0 0]) := by
    subst hV
    have h := row_fresh ((w.alloc (.cells #[.slice b ns.length d] 44)).alloc (.cells #[.int .i64 v.a, .int .i64 v.b, .int .i64 v.c] 50)) [.slice none 0 0] 44
    rw [show ((w.alloc (.cells #[.slice b ns.length d] 44)).alloc (.cells #[.int .i64 v.a, .int .i64 v.b, .int .i64 v.c] 50)).heap.size = w.heap.size + 1 + 1 by simp [go_sem]] at h
    exact h
  clear hV
  refine (implProfOk_c b d ns _ (H.out.below HV.out)).mono ?_
  rintro e w1 ⟨k, rfl, hk, hb⟩
  have HB1 : Hid (Below w.heap.size w w1) := below_then HV.out hb
  have HA1 : Hid (Row w1 w.heap.size [.slice b ns.length d]) := HA.out.below hb
  have HV1 : Hid (Row w1 (w.heap.size + 1) [.int .i64 v.a, .int .i64 v.b, .int .i64 v.c]) := HVc.out.below hb
  have HR1 : Hid (Row w1 (w.heap.size + 1 + 1) [.slice none 0 0]) := HR.out.below hb
  have HK : Hid (k = true ↔ POk ns) := hk
  clear hb hk HA HVc HR HV
  have r0 := HR1.out.cell 0 _ rfl
  have rf := HR1.out.free 0
  cases k
  · have HN : Hid (tkR false v ns f u = none) := tk_no (minK_no (fun t => by have := HK.out.2 t; cases this)).1
    clear HK
    have B8 := HB1.out
    go_wp2_with fail
    refine bodyPost_ret (v := .tuple #[.agg #[.slice none 0 0], .bool false]) (by simp [results, Tryz.results63, go_sem, *]) rfl ⟨_, by rw [HN.out]; rfl, ?_, by go_grown⟩
    rw [HN.out]
    exact AnsP.none _ _ _ _ _
  · have HY : Hid (POk ns) := HK.out.1 rfl
    have hfw := HY.out.few
    clear HK
    go_wp2_with fail
    refine (spanOk_c f u _).mono ?_
    rintro e w2 ⟨rfl, rfl⟩
    cases hsp : spanB f u
    · have HN : Hid (tkR false v ns f u = none) := tk_no (minK_span hsp).1
      clear hsp
      have B8 := HB1.out
      go_wp2_with fail
      refine bodyPost_ret (v := .tuple #[.agg #[.slice none 0 0], .bool false]) (by simp [results, Tryz.results63, go_sem, *]) rfl ⟨_, by rw [HN.out]; rfl, ?_, by go_grown⟩
      rw [HN.out]
      exact AnsP.none _ _ _ _ _
    · have HS : Hid (spanB f u = true) := hsp
      have HN0 : Hid (tkR false v ns f u = chgR false v ns f u) := tk_yes (minK_yes HY.out hsp).1
      have p0 := HA1.out.cell 0 _ rfl
      clear hsp r0 rf
      go_wp2_with fail
      clear p0
      refine (times_c b d ns (by omega) _ (H.out.below HB1.out)).mono ?_
      rintro e w3 ⟨vt, rfl, hown, hb⟩
      obtain ⟨gt, ct, hvt, hgt, hct, hrt⟩ := row_of_owns_cap hown (by rw [ats_len]; exact HY.out.one)
      subst hvt
      have HB3 : Hid (Below w.heap.size w w3) := below_then HB1.out hb
      have HA3 : Hid (Row w3 w.heap.size [.slice b ns.length d]) := HA1.out.below hb
      have HV3 : Hid (Row w3 (w.heap.size + 1) [.int .i64 v.a, .int .i64 v.b, .int .i64 v.c]) := HV1.out.below hb
      have HR3 : Hid (Row w3 (w.heap.size + 1 + 1) [.slice none 0 0]) := HR1.out.below hb
      have HT3 : Hid (Row w3 gt (ints (atsL ns))) := hrt
      have HC3 : Hid ((atsL ns).length ≤ ct) := hct
      clear hown hb hgt hct hrt HB1 HA1 HV1 HR1
      go_wp2_with fail
      have HB4 : Hid (Below w.heap.size w (w3.alloc (.cells #[.int .i64 f, .int .i64 u] 3))) := behind_alloc HB3.out _
      have HA4 : Hid (Row (w3.alloc (.cells #[.int .i64 f, .int .i64 u] 3)) w.heap.size [.slice b ns.length d]) := HA3.out.below (low_alloc _ _)
      have HV4 : Hid (Row (w3.alloc (.cells #[.int .i64 f, .int .i64 u] 3)) (w.heap.size + 1) [.int .i64 v.a, .int .i64 v.b, .int .i64 v.c]) := HV3.out.below (low_alloc _ _)
      have HR4 : Hid (Row (w3.alloc (.cells #[.int .i64 f, .int .i64 u] 3)) (w.heap.size + 1 + 1) [.slice none 0 0]) := HR3.out.below (low_alloc _ _)
      have HT4 : Hid (Row (w3.alloc (.cells #[.int .i64 f, .int .i64 u] 3)) gt (ints (atsL ns))) := HT3.out.below (low_alloc _ _)
      have HF4 : Hid (Row (w3.alloc (.cells #[.int .i64 f, .int .i64 u] 3)) w3.heap.size (ints [f, u])) := row_fresh w3 [.int .i64 f, .int .i64 u] 3
      generalize w3.alloc (.cells #[.int .i64 f, .int .i64 u] 3) = U4 at HB4 HA4 HV4 HR4 HT4 HF4
      generalize w3.heap.size = gf at *
      clear HB3 HA3 HV3 HR3 HT3
      have hal := ats_len ns
      have HM : Hid (Calls Tryz.prog 92 #[.slice (some ⟨gt, 0, none⟩) (atsL ns).length ct, .slice (some ⟨gf, 0, none⟩) [f, u].length 2] U4 fun e w' => ∃ v, e = .returned v ∧ w'.ownsRow U4.heap.size 3 1 v (tmsL ns f u).length (ints (tmsL ns f u)) ∧ Below U4.heap.size U4 w') := merged_c ⟨gt, 0, none⟩ ⟨gf, 0, none⟩ ct 2 (atsL ns) [f, u] (by omega) (by simp) HC3.out (by simp) (ats_up HY.out.rising) (by have := (span_iff.1 HS.out).2.2; simp [Up, this]) U4 (Sq.of_row HT4.out) (Sq.of_row HF4.out)
      clear hal
      refine HM.out.mono ?_
      rintro e w5 ⟨vm, rfl, hown, hb⟩
      have htl := tms_len ns f u
      obtain ⟨gm, cm, hvm, hgm, hrm⟩ := row_of_owns hown (List.length_pos_iff.2 (tms_ne ns f u))
      subst hvm
      have HEq0 : Hid (chTo (chG false v) ns f u ((tmsL ns f u).drop 0) [] = chTo (chG false v) ns f u (tmsL ns f u) []) := rfl
      have HTm : Hid (∀ t ∈ tmsL ns f u, timeB t = true) := tms_time HY.out HS.out
      generalize hts : tmsL ns f u = ts at *
      have HTs : Hid (tmsL ns f u = ts) := hts
      have HRt : Hid (Row w5 gm (ints ts)) := hrm
      have HA5 : Hid (Row w5 w.heap.size [.slice b ns.length d]) := HA4.out.below hb
      have HV5 : Hid (Row w5 (w.heap.size + 1) [.int .i64 v.a, .int .i64 v.b, .int .i64 v.c]) := HV4.out.below hb
      have HR5 : Hid (Row w5 (w.heap.size + 1 + 1) [.slice none 0 0]) := HR4.out.below hb
      have hR5 := HR5.out.lt
      have hgm := HRt.out.lt
      have hlow : w.heap.size ≤ w5.heap.size := by omega
      have HB5 : Hid (Below w.heap.size w w5) := below_then HB4.out hb
      obtain ⟨Z, hZ, hmk⟩ := make_pts0 ts.length (by omega)
      clear hown hb hrm hts HM HA4 HV4 HR4 HT4 HF4 HB4
      go_wp2_with fail
      clear hmk
      have HBx0 : Hid (Bx w ((w5.alloc (.cells Z.toArray 109)).alloc (.cells #[.slice (some ⟨w5.heap.size, 0, none⟩) 0 ts.length] 44)) w5.heap.size (w5.heap.size + 1) (.slice (some ⟨w5.heap.size, 0, none⟩) 0 ts.length) []) := bx_made HB5.out Z hZ (by omega)
      have HK0 : Hid (KeepR w5 (w5.heap.size + 1) ((w5.alloc (.cells Z.toArray 109)).alloc (.cells #[.slice (some ⟨w5.heap.size, 0, none⟩) 0 ts.length] 44))) := fun b xs hr _ => (hr.below (low_alloc _ _)).below (low_alloc _ _)
      generalize (w5.alloc (.cells Z.toArray 109)).alloc (.cells #[.slice (some ⟨w5.heap.size, 0, none⟩) 0 ts.length] 44) = w6 at HBx0 HK0 ⊢
      generalize hO : w5.heap.size + 1 = O at *
      generalize hB : w5.heap.size = B at *
      have HB : Hid (w5.heap.size = B) := hB
      clear hB HB5 hZ
      go_loopw [41] (fun i wr => ∃ (j : Nat) (vv : Value) (out : List Nd), j ≤ ts.length ∧ i = .int .i64 j ∧ Bx w wr B O vv out ∧ KeepR w5 O wr ∧ out.length ≤ j ∧ chTo (chG false v) ns f u (ts.drop j) out = chTo (chG false v) ns f u ts []) (fun i _ => ts.length - (intOf i).toNat)
      case atStart => exact ⟨0, _, [], Nat.zero_le _, rfl, HBx0.out, HK0.out, Nat.le_refl _, HEq0.out⟩
      case round =>
        obtain ⟨j, vv, out, hj, rfl, hbx, hkr, hol, heq⟩ := hrel
        have HX5 : Hid (Bx w wr B O vv out) := hbx
        have HK5 : Hid (KeepR w5 O wr) := hkr
        have HE5 : Hid (chTo (chG false v) ns f u (ts.drop j) out = chTo (chG false v) ns f u ts []) := heq
        clear hbx hkr heq HBx0 HK0 HEq0
        have HP5 := HK5.out _ _ HA5.out (by omega)
        by_cases hlt : j < ts.length
        · have hj0 : (0 : Int) ≤ (j : Int) := by omega
          have hj1 : (j : Int) < (ts.length : Int) := by omega
          have hgO : gm ≠ O := by omega
          have hTs5 := HK5.out _ _ HRt.out hgO
          have HX : Hid (ts[j]? = some ts[j]) := List.getElem?_eq_getElem hlt
          have ht0 := (time_iff.1 (HTm.out ts[j] (List.getElem_mem hlt))).1
          have tc := hTs5.cell j _ (ints_at ts j hlt)
          generalize ts[j] = t at tc HX ht0
          have p0 := HP5.cell 0 _ rfl
          go_wp2_with fail
          refine (at_c b d ns t HY.out ht0 _ (H.out.below HX5.out.grown)).mono ?_
          rintro e w3 ⟨rfl, hb⟩
          have HL3 : Hid (Below wr.heap.size wr w3) := hb
          clear hb tc p0 hTs5 HP5 ht0
          have HE6 : Hid (chTo (chG false v) ns f u (ts.drop j) out = if f ≤ t ∧ t < u then (match chG false v (atL ns t) with | none => none | some m => chTo (chG false v) ns f u (ts.drop (j + 1)) (putN out ⟨t, m.a, m.b, m.c⟩)) else chTo (chG false v) ns f u (ts.drop (j + 1)) (putN out ⟨t, (atL ns t).a, (atL ns t).b, (atL ns t).c⟩)) := ch_here HX.out
          generalize atL ns t = m0 at HE6
          have HX6 : Hid (Bx w w3 B O vv out) := HX5.out.below HL3.out
          have HK6 : Hid (KeepR w5 O w3) := HK5.out.below HL3.out
          have hB3 := HX6.out.le
          have hO3 := HX6.out.box.lt
          have hwB := HX6.out.low
          have hw5B := HB.out
          have HX7 : Hid (Bx w (w3.alloc (.cells #[.int .i64 m0.a, .int .i64 m0.b, .int .i64 m0.c] 50)) B O vv out) := HX6.out.below (low_alloc _ _)
          have HK7 : Hid (KeepR w5 O (w3.alloc (.cells #[.int .i64 m0.a, .int .i64 m0.b, .int .i64 m0.c] 50))) := HK6.out.below (low_alloc _ _)
          have HF7 : Hid (Row (w3.alloc (.cells #[.int .i64 m0.a, .int .i64 m0.b, .int .i64 m0.c] 50)) w3.heap.size [.int .i64 m0.a, .int .i64 m0.b, .int .i64 m0.c]) := row_fresh w3 [.int .i64 m0.a, .int .i64 m0.b, .int .i64 m0.c] 50
          have hF : vv.ownBlock ≠ some w3.heap.size := fun e => by have := (HX6.out.own.lt _ e).2; omega
          clear HX5 HK5 HL3
          by_cases hspan : f ≤ t ∧ t < u
          · obtain ⟨hs1, hs2⟩ := hspan
            rw [if_pos ⟨hs1, hs2⟩] at HE6
            have y0 := (HK6.out _ _ HV5.out (by omega)).cell 0 _ rfl
            have y1 := (HK6.out _ _ HV5.out (by omega)).cell 1 _ rfl
            have y2 := (HK6.out _ _ HV5.out (by omega)).cell 2 _ rfl
            have hne1 : w.heap.size + 1 ≠ w3.heap.size := by omega
            have hlt1 : w.heap.size + 1 < w3.heap.size := by omega
            go_wp2_with fail
            generalize w3.alloc (.cells #[.int .i64 m0.a, .int .i64 m0.b, .int .i64 m0.c] 50) = w4 at HX7 HK7 HF7
            clear y0 y1 y2 hne1 hlt1 HX6 HK6
            generalize w3.heap.size = F at *
            refine (implVecSub_g v m0 _).mono ?_
            rintro e w6 ⟨rfl, hb⟩
            have HX8 : Hid (Bx w w6 B O vv out) := HX7.out.below hb
            have HK8 : Hid (KeepR w5 O w6) := HK7.out.below hb
            have HF8 : Hid (Row w6 F [.int .i64 m0.a, .int .i64 m0.b, .int .i64 m0.c]) := HF7.out.below hb
            clear hb HX7 HK7 HF7
            cases hg : chG false v m0 with
            | none =>
              rw [hg] at HE6
              have hcv : chV false v m0 = .tuple #[.agg #[.int .i64 0, .int .i64 0, .int .i64 0], .bool false] := by rw [chV, hg]; rfl
              rw [hcv]
              have HN : Hid (tkR false v ns f u = none) := by show _ = _; rw [HN0.out, chgR, HTs.out, ← HE5.out, HE6.out]; rfl
              have HRR := HK8.out _ _ HR5.out (by omega)
              have r0 := HRR.cell 0 _ rfl
              have rf := HRR.free 0
              have hlr := HRR.lt
              have hnr : w.heap.size + 1 + 1 ≠ w6.heap.size := by omega
              have B8 := HX8.out.grown
              clear hcv hg
              go_wp2_with fail
              refine bodyPost_ret (v := .tuple #[.agg #[.slice none 0 0], .bool false]) (by simp [results, Tryz.results63, go_sem, *]) rfl ⟨_, by rw [HN.out]; rfl, ?_, by go_grown⟩
              rw [HN.out]
              exact AnsP.none _ _ _ _ _
            | some m =>
              rw [hg] at HE6
              have hcv : chV false v m0 = .tuple #[.agg #[.int .i64 m.a, .int .i64 m.b, .int .i64 m.c], .bool true] := by rw [chV, hg]; rfl
              rw [hcv]
              have HEq : Hid (chTo (chG false v) ns f u (ts.drop (j + 1)) (putN out ⟨t, m.a, m.b, m.c⟩) = chTo (chG false v) ns f u ts []) := by show _ = _; rw [← HE5.out]; exact HE6.out.symm
              clear hcv hg
              have g0 := HF8.out.cell 0 _ rfl
              have g1 := HF8.out.cell 1 _ rfl
              have g2 := HF8.out.cell 2 _ rfl
              have h0 := HF8.out.free 0
              have h1 := HF8.out.free 1
              have h2 := HF8.out.free 2
              have hF6 := HF8.out.lt
              have hnF : F ≠ w6.heap.size := by omega
              have HXw : Hid (Bx w ((((w6.setCell ⟨F, 0, none⟩ (.int .i64 m.a)).setCell ⟨F, 1, none⟩ (.int .i64 m.b)).setCell ⟨F, 2, none⟩ (.int .i64 m.c)).alloc (.cells #[.int .i64 m.a, .int .i64 m.b, .int .i64 m.c] 50)) B O vv out) := (((HX8.out.apart (by omega) hF (by omega)).apart (by omega) hF (by omega)).apart (by omega) hF (by omega)).below (low_alloc _ _)
              have HKw : Hid (KeepR w5 O ((((w6.setCell ⟨F, 0, none⟩ (.int .i64 m.a)).setCell ⟨F, 1, none⟩ (.int .i64 m.b)).setCell ⟨F, 2, none⟩ (.int .i64 m.c)).alloc (.cells #[.int .i64 m.a, .int .i64 m.b, .int .i64 m.c] 50))) := (((HK8.out.apart (by omega)).apart (by omega)).apart (by omega)).below (low_alloc _ _)
              clear HX8 HK8
              go_wp2_with fail
              generalize ((((w6.setCell ⟨F, 0, none⟩ (.int .i64 m.a)).setCell ⟨F, 1, none⟩ (.int .i64 m.b)).setCell ⟨F, 2, none⟩ (.int .i64 m.c)).alloc (.cells #[.int .i64 m.a, .int .i64 m.b, .int .i64 m.c] 50)) = W at HXw HKw
              clear g0 g1 g2 h0 h1 h2
              refine (put_c w W B O vv out ⟨t, m.a, m.b, m.c⟩ (by omega) HXw.out).mono ?_
              rintro e W2 ⟨rfl, v2, hx2, hr2⟩
              have HX5 : Hid (Bx w W2 B O v2 (putN out ⟨t, m.a, m.b, m.c⟩)) := hx2
              have HK5 : Hid (KeepR w5 O W2) := fun b xs hr hne => hr2 b xs (HKw.out b xs hr hne) (by have := hr.lt; omega) hne
              have hpl := put_len out ⟨t, m.a, m.b, m.c⟩
              clear hx2 hr2
              go_wp2_with fail
              exact ⟨⟨j + 1, _, putN out ⟨t, m.a, m.b, m.c⟩, by omega, by go_num, HX5.out, HK5.out, by omega, HEq.out⟩, by simp [intOf]; omega⟩
          · have hspan2 : ¬ (f ≤ t ∧ t < u) := hspan
            rw [if_neg hspan] at HE6
            have HEq : Hid (chTo (chG false v) ns f u (ts.drop (j + 1)) (putN out ⟨t, m0.a, m0.b, m0.c⟩) = chTo (chG false v) ns f u ts []) := by show _ = _; rw [← HE5.out]; exact HE6.out.symm
            by_cases hs1 : f ≤ t
            case' pos => have hs2 : ¬ t < u := fun h => hspan2 ⟨hs1, h⟩
            all_goals
              clear hspan hspan2
              go_wp2_with fail
              generalize w3.alloc (.cells #[.int .i64 m0.a, .int .i64 m0.b, .int .i64 m0.c] 50) = W at HX7 HK7 HF7
              clear HX6 HK6
              refine (put_c w W B O vv out ⟨t, m0.a, m0.b, m0.c⟩ (by omega) HX7.out).mono ?_
              rintro e W2 ⟨rfl, v2, hx2, hr2⟩
              have HX5 : Hid (Bx w W2 B O v2 (putN out ⟨t, m0.a, m0.b, m0.c⟩)) := hx2
              have HK5 : Hid (KeepR w5 O W2) := fun b xs hr hne => hr2 b xs (HK7.out b xs hr hne) (by have := hr.lt; omega) hne
              have hpl := put_len out ⟨t, m0.a, m0.b, m0.c⟩
              clear hx2 hr2
              go_wp2_with fail
              exact ⟨⟨j + 1, _, putN out ⟨t, m0.a, m0.b, m0.c⟩, by omega, by go_num, HX5.out, HK5.out, by omega, HEq.out⟩, by simp [intOf]; omega⟩
        · have HE7 : Hid (chTo (chG false v) ns f u ts [] = some out) := by
            show _ = _
            rw [← HE5.out, List.drop_eq_nil_of_le (by omega)]
            rfl
          obtain ⟨a1, c1, hv1, _⟩ := HX5.out.form
          subst hv1
          have b0 := HX5.out.box.cell 0 _ rfl
          have HRR := HK5.out _ _ HR5.out (by omega)
          have r0 := HRR.cell 0 _ rfl
          have rf := HRR.free 0
          have B8 := HX5.out.grown
          have hwB := HX5.out.low
          have hw5B := HB.out
          have hO1 := HX5.out.box.lt
          clear HP5 HRR
          by_cases h200 : out.length ≤ 200
          · have HN : Hid (tkR false v ns f u = some out) := by
              show _ = _
              rw [HN0.out, chgR, HTs.out, HE7.out]
              simp [Option.filter, h200]
            have hd : ¬ (200 : Int) < (out.length : Int) := by omega
            have HAns : Hid (AnsP B wr.heap.size (wr.setCell ⟨w.heap.size + 1 + 1, 0, none⟩ (.slice a1 out.length c1)) out.length (flat out) (.slice a1 out.length c1)) := (AnsP.of_owns HX5.out.own).keep (fun g h1 _ hr => hr.apart (w.heap.size + 1 + 1) 0 _ (by omega))
            have HBf : Hid (Below w.heap.size w (wr.setCell ⟨w.heap.size + 1 + 1, 0, none⟩ (.slice a1 out.length c1))) := B8.setCell (p := ⟨w.heap.size + 1 + 1, 0, none⟩) (by show w.heap.size ≤ w.heap.size + 1 + 1; omega) _
            go_wp2_with fail
            refine bodyPost_ret (v := .tuple #[.agg #[.slice a1 out.length c1], .bool true]) (by simp [results, Tryz.results63, go_sem, *]) rfl ⟨_, by rw [HN.out]; rfl, ?_, HBf.out⟩
            rw [HN.out]
            exact HAns.out.wide (by omega) (by rw [World.size_setCell]; exact Nat.le_refl _)
          · have HN : Hid (tkR false v ns f u = none) := by
              show _ = _
              rw [HN0.out, chgR, HTs.out, HE7.out]
              simp [Option.filter, h200]
            have hd : (200 : Int) < (out.length : Int) := by omega
            go_wp2_with fail
            refine bodyPost_ret (v := .tuple #[.agg #[.slice none 0 0], .bool false]) (by simp [results, Tryz.results63, go_sem, *]) rfl ⟨_, by rw [HN.out]; rfl, ?_, by go_grown⟩
            rw [HN.out]
            exact AnsP.none _ _ _ _ _

set_option maxHeartbeats 2000000 in
theorem implProfTake_c (b : Option Addr) (d : Nat) (ns : List Nd) (f u : Int) (v : Nd) (w : World) (h : Sq w b (flat ns)) :
    Calls Tryz.prog 32 #[.agg #[.slice b ns.length d], .int .i64 f, .int .i64 u, .agg #[.int .i64 v.a, .int .i64 v.b, .int .i64 v.c]] w (RetP w ((tkR false v ns f u).getD []) (tkR false v ns f u).isSome) := by
  have H : Hid (Sq w b (flat ns)) := h
  clear h
  go_enter Tryz.func32, Tryz.ntmps32
  go_wp2_with fail
  generalize hV : ((w.alloc (.cells #[.slice b ns.length d] 44)).alloc (.cells #[.int .i64 v.a, .int .i64 v.b, .int .i64 v.c] 50)).alloc (.cells #[.slice none 0 0] 44) = V
  have HV : Hid (Below w.heap.size w V) := by subst hV; exact behind_alloc (behind_alloc (low_alloc _ _) _) _
  have HR : Hid (Row V (w.heap.size + 1 + 1) [.slice none 0 0]) := by
    subst hV
    have h := row_fresh ((w.alloc (.cells #[.slice b ns.length d] 44)).alloc (.cells #[.int .i64 v.a, .int .i64 v.b, .int .i64 v.c] 50)) [.slice none 0 0] 44
    rw [show ((w.alloc (.cells #[.slice b ns.length d] 44)).alloc (.cells #[.int .i64 v.a, .int .i64 v.b, .int .i64 v.c] 50)).heap.size = w.heap.size + 1 + 1 by simp [go_sem]] at h
    exact h
  clear hV
  refine (changed_false b d ns f u v _ (H.out.below HV.out)).mono ?_
  rintro e w3 ⟨v3, rfl, hans, hb⟩
  obtain ⟨a3, c3, hv3, _⟩ := hans.form
  subst hv3
  generalize tkR false v ns f u = R at *
  generalize hrr : R.getD [] = r at *
  generalize hkk : R.isSome = k at *
  have HAn : Hid (AnsP V.heap.size w3.heap.size w3 r.length (flat r) (.slice a3 r.length c3)) := hans
  have HR3 := HR.out.below hb
  have q0 := HR3.cell 0 _ rfl
  have qf := HR3.free 0
  have HB3 : Hid (Below w.heap.size w w3) := below_then HV.out hb
  have h2w : w.heap.size ≤ V.heap.size := HV.out.size
  have hR2 := HR.out.lt
  clear hans hb hrr hkk HR3 HR HV
  have HA4 : Hid (AnsP V.heap.size w3.heap.size (w3.setCell ⟨w.heap.size + 1 + 1, 0, none⟩ (.slice a3 r.length c3)) r.length (flat r) (.slice a3 r.length c3)) := HAn.out.keep (fun g h1 _ hr => hr.apart (w.heap.size + 1 + 1) 0 _ (by omega))
  have HB4 : Hid (Below w.heap.size w (w3.setCell ⟨w.heap.size + 1 + 1, 0, none⟩ (.slice a3 r.length c3))) := HB3.out.setCell (p := ⟨w.heap.size + 1 + 1, 0, none⟩) (by show w.heap.size ≤ w.heap.size + 1 + 1; omega) _
  go_wp2_with fail
  refine bodyPost_ret (v := .tuple #[.agg #[.slice a3 r.length c3], .bool k]) (by simp [results, Tryz.results32, go_sem, *]) rfl ⟨_, rfl, ?_, HB4.out⟩
  exact HA4.out.wide (by omega) (by rw [World.size_setCell]; exact Nat.le_refl _)
set_option maxHeartbeats 2000000 in
theorem implProfGive_c (b : Option Addr) (d : Nat) (ns : List Nd) (f u : Int) (v : Nd) (w : World) (h : Sq w b (flat ns)) :
    Calls Tryz.prog 46 #[.agg #[.slice b ns.length d], .int .i64 f, .int .i64 u, .agg #[.int .i64 v.a, .int .i64 v.b, .int .i64 v.c]] w (RetP w ((tkR true v ns f u).getD []) (tkR true v ns f u).isSome) := by
  have H : Hid (Sq w b (flat ns)) := h
  clear h
  go_enter Tryz.func46, Tryz.ntmps46
  go_wp2_with fail
  generalize hV : ((w.alloc (.cells #[.slice b ns.length d] 44)).alloc (.cells #[.int .i64 v.a, .int .i64 v.b, .int .i64 v.c] 50)).alloc (.cells #[.slice none 0 0] 44) = V
  have HV : Hid (Below w.heap.size w V) := by subst hV; exact behind_alloc (behind_alloc (low_alloc _ _) _) _
  have HR : Hid (Row V (w.heap.size + 1 + 1) [.slice none 0 0]) := by
    subst hV
    have h := row_fresh ((w.alloc (.cells #[.slice b ns.length d] 44)).alloc (.cells #[.int .i64 v.a, .int .i64 v.b, .int .i64 v.c] 50)) [.slice none 0 0] 44
    rw [show ((w.alloc (.cells #[.slice b ns.length d] 44)).alloc (.cells #[.int .i64 v.a, .int .i64 v.b, .int .i64 v.c] 50)).heap.size = w.heap.size + 1 + 1 by simp [go_sem]] at h
    exact h
  clear hV
  refine (changed_true b d ns f u v _ (H.out.below HV.out)).mono ?_
  rintro e w3 ⟨v3, rfl, hans, hb⟩
  obtain ⟨a3, c3, hv3, _⟩ := hans.form
  subst hv3
  generalize tkR true v ns f u = R at *
  generalize hrr : R.getD [] = r at *
  generalize hkk : R.isSome = k at *
  have HAn : Hid (AnsP V.heap.size w3.heap.size w3 r.length (flat r) (.slice a3 r.length c3)) := hans
  have HR3 := HR.out.below hb
  have q0 := HR3.cell 0 _ rfl
  have qf := HR3.free 0
  have HB3 : Hid (Below w.heap.size w w3) := below_then HV.out hb
  have h2w : w.heap.size ≤ V.heap.size := HV.out.size
  have hR2 := HR.out.lt
  clear hans hb hrr hkk HR3 HR HV
  have HA4 : Hid (AnsP V.heap.size w3.heap.size (w3.setCell ⟨w.heap.size + 1 + 1, 0, none⟩ (.slice a3 r.length c3)) r.length (flat r) (.slice a3 r.length c3)) := HAn.out.keep (fun g h1 _ hr => hr.apart (w.heap.size + 1 + 1) 0 _ (by omega))
  have HB4 : Hid (Below w.heap.size w (w3.setCell ⟨w.heap.size + 1 + 1, 0, none⟩ (.slice a3 r.length c3))) := HB3.out.setCell (p := ⟨w.heap.size + 1 + 1, 0, none⟩) (by show w.heap.size ≤ w.heap.size + 1 + 1; omega) _
  go_wp2_with fail
  refine bodyPost_ret (v := .tuple #[.agg #[.slice a3 r.length c3], .bool k]) (by simp [results, Tryz.results46, go_sem, *]) rfl ⟨_, rfl, ?_, HB4.out⟩
  exact HA4.out.wide (by omega) (by rw [World.size_setCell]; exact Nat.le_refl _)
end Go.Proofs.YtmpjebkjopfejaaGreat
