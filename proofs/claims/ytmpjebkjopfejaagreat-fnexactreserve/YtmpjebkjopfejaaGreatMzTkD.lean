/- The specification's change of a profile: the walk. -/
import Derived.Test.YtmpjebkjopfejaaGreatMzTkC
import Derived.Deep.DeepCutAuto
namespace Go.Proofs.YtmpjebkjopfejaaGreat
open Go.ChangeShapes Go.WideShapes Go.ChangeAt Go.RowKit

theorem ch_here {g : Nd → Option Nd} {ns : List Nd} {f u : Int} {ts : List Int} {j : Nat} {t : Int} {out : List Nd} (ht : ts[j]? = some t) : chTo g ns f u (ts.drop j) out =
    if f ≤ t ∧ t < u then (match g (atL ns t) with | none => none | some m => chTo g ns f u (ts.drop (j + 1)) (putN out ⟨t, m.a, m.b, m.c⟩)) else chTo g ns f u (ts.drop (j + 1)) (putN out ⟨t, (atL ns t).a, (atL ns t).b, (atL ns t).c⟩) := by
  obtain ⟨hj, e⟩ := List.getElem?_eq_some_iff.1 ht
  rw [List.drop_eq_getElem_cons hj, e]
  rfl

set_option maxHeartbeats 8000000 in
set_option maxRecDepth 20000 in
theorem l03Change_true (b : Option Addr) (d : Nat) (ns : List Nd) (f u : Int) (v : Nd) (hok : POk ns) (hs : spanB f u = true) (w : World) (h : Sq w b (flat ns)) :
    Calls Tryz.prog 56 #[.agg #[.slice b ns.length d], .int .i64 f, .int .i64 u, .agg #[.int .i64 v.a, .int .i64 v.b, .int .i64 v.c], .bool true] w (RetO w ((chgR true v ns f u).getD []) (chgR true v ns f u).isSome) := by
  have H : Hid (Sq w b (flat ns)) := h
  have HY : Hid (POk ns) := hok
  have HS : Hid (spanB f u = true) := hs
  have hfw := hok.few
  clear h hok hs
  obtain ⟨i0, hi, hz0, hz1, hz2⟩ := info_parts infoPt
  go_enter Tryz.func56, Tryz.ntmps56
  go_wp2_with fail
  generalize hV : (((w.alloc (.cells #[.slice b ns.length d] 44)).alloc (.cells #[.int .i64 v.a, .int .i64 v.b, .int .i64 v.c] 50)).alloc (.cells #[.slice none 0 0] 44)).alloc (.cells #[.slice none 0 0] 44) = V
  have HV : Hid (Below w.heap.size w V) := by subst hV; exact behind_alloc (behind_alloc (behind_alloc (low_alloc _ _) _) _) _
  have HA : Hid (Row V w.heap.size [.slice b ns.length d]) := by subst hV; exact (((row_fresh w [.slice b ns.length d] 44).below (low_alloc _ _)).below (low_alloc _ _)).below (low_alloc _ _)
  have HVc : Hid (Row V (w.heap.size + 1) [.int .i64 v.a, .int .i64 v.b, .int .i64 v.c]) := by
    subst hV
    have h := row_fresh (w.alloc (.cells #[.slice b ns.length d] 44)) [.int .i64 v.a, .int .i64 v.b, .int .i64 v.c] 50
    rw [show (w.alloc (.cells #[.slice b ns.length d] 44)).heap.size = w.heap.size + 1 by simp [go_sem]] at h
    exact (h.below (low_alloc _ _)).below (low_alloc _ _)
  have HR : Hid (Row V (w.heap.size + 1 + 1) [.slice none 0 0]) := by
    subst hV
    have h := row_fresh ((w.alloc (.cells #[.slice b ns.length d] 44)).alloc (.cells #[.int .i64 v.a, .int .i64 v.b, .int .i64 v.c] 50)) [.slice none 0 0] 44
    rw [show ((w.alloc (.cells #[.slice b ns.length d] 44)).alloc (.cells #[.int .i64 v.a, .int .i64 v.b, .int .i64 v.c] 50)).heap.size = w.heap.size + 1 + 1 by simp [go_sem]] at h
    exact h.below (low_alloc _ _)
  have HO : Hid (Row V (w.heap.size + 1 + 1 + 1) [.slice none 0 0]) := by
    subst hV
    have h := row_fresh (((w.alloc (.cells #[.slice b ns.length d] 44)).alloc (.cells #[.int .i64 v.a, .int .i64 v.b, .int .i64 v.c] 50)).alloc (.cells #[.slice none 0 0] 44)) [.slice none 0 0] 44
    rw [show (((w.alloc (.cells #[.slice b ns.length d] 44)).alloc (.cells #[.int .i64 v.a, .int .i64 v.b, .int .i64 v.c] 50)).alloc (.cells #[.slice none 0 0] 44)).heap.size = w.heap.size + 1 + 1 + 1 by simp [go_sem]] at h
    exact h
  clear hV
  refine (l03Times_c b d ns f u hfw _ (H.out.below HV.out)).mono ?_
  rintro e w1 ⟨vt, rfl, hown, hb⟩
  have htl := tms_len ns f u
  obtain ⟨gt, ct, hvt, hgt, hrt⟩ := row_of_owns hown (List.length_pos_iff.2 (tms_ne ns f u))
  subst hvt
  have HEq0 : Hid (chTo (chG true v) ns f u ((tmsL ns f u).drop 0) [] = chTo (chG true v) ns f u (tmsL ns f u) []) := rfl
  generalize hts : tmsL ns f u = ts at *
  have HTs : Hid (tmsL ns f u = ts) := hts
  have HRt : Hid (Row w1 gt (ints ts)) := hrt
  have HA1 : Hid (Row w1 w.heap.size [.slice b ns.length d]) := HA.out.below hb
  have HV1 : Hid (Row w1 (w.heap.size + 1) [.int .i64 v.a, .int .i64 v.b, .int .i64 v.c]) := HVc.out.below hb
  have HR1 : Hid (Row w1 (w.heap.size + 1 + 1) [.slice none 0 0]) := HR.out.below hb
  have hO1 := (HO.out.below hb).lt
  have hOV := HO.out.lt
  have HBx0 : Hid (Bx w w1 w1.heap.size (w.heap.size + 1 + 1 + 1) (.slice none 0 0) []) := Bx.nil (HO.out.below hb) (by omega) (by omega) (Nat.le_refl _) (below_then HV.out hb)
  have HK0 : Hid (KeepR w1 (w.heap.size + 1 + 1 + 1) w1) := fun b xs hr _ => hr
  clear hown hb hrt hts HA HVc HR HO HV
  generalize hB : w1.heap.size = B at *
  have HB : Hid (w1.heap.size = B) := hB
  clear hB
  go_wp2_with fail
  go_loopw [24] (fun i wr => ∃ (j : Nat) (vv : Value) (out : List Nd), j ≤ ts.length ∧ i = .int .i64 j ∧ Bx w wr B (w.heap.size + 1 + 1 + 1) vv out ∧ KeepR w1 (w.heap.size + 1 + 1 + 1) wr ∧ out.length ≤ j ∧ chTo (chG true v) ns f u (ts.drop j) out = chTo (chG true v) ns f u ts []) (fun i _ => ts.length - (intOf i).toNat)
  case atStart => exact ⟨0, _, [], Nat.zero_le _, rfl, HBx0.out, HK0.out, Nat.le_refl _, HEq0.out⟩
  case round =>
    obtain ⟨j, vv, out, hj, rfl, hbx, hkr, hol, heq⟩ := hrel
    have HX5 : Hid (Bx w wr B (w.heap.size + 1 + 1 + 1) vv out) := hbx
    have HK5 : Hid (KeepR w1 (w.heap.size + 1 + 1 + 1) wr) := hkr
    have HE5 : Hid (chTo (chG true v) ns f u (ts.drop j) out = chTo (chG true v) ns f u ts []) := heq
    clear hbx hkr heq HBx0 HK0 HEq0
    have HP5 := HK5.out _ _ HA1.out (by omega)
    by_cases hlt : j < ts.length
    · have hj0 : (0 : Int) ≤ (j : Int) := by omega
      have hj1 : (j : Int) < (ts.length : Int) := by omega
      have hTs5 := HK5.out _ _ HRt.out (by omega)
      have HX : Hid (ts[j]? = some ts[j]) := List.getElem?_eq_getElem hlt
      have tc := hTs5.cell j _ (ints_at ts j hlt)
      generalize ts[j] = t at tc HX
      have p0 := HP5.cell 0 _ rfl
      go_wp2_with fail
      refine (l03At_c b d ns t (by omega) _ (H.out.below HX5.out.grown)).mono ?_
      rintro e w3 ⟨rfl, hb⟩
      have HL3 : Hid (Below wr.heap.size wr w3) := hb
      clear hb tc p0 hTs5 HP5
      have HE6 : Hid (chTo (chG true v) ns f u (ts.drop j) out = if f ≤ t ∧ t < u then (match chG true v (atL ns t) with | none => none | some m => chTo (chG true v) ns f u (ts.drop (j + 1)) (putN out ⟨t, m.a, m.b, m.c⟩)) else chTo (chG true v) ns f u (ts.drop (j + 1)) (putN out ⟨t, (atL ns t).a, (atL ns t).b, (atL ns t).c⟩)) := ch_here HX.out
      generalize atL ns t = m0 at HE6
      have HX6 : Hid (Bx w w3 B (w.heap.size + 1 + 1 + 1) vv out) := HX5.out.below HL3.out
      have HK6 : Hid (KeepR w1 (w.heap.size + 1 + 1 + 1) w3) := HK5.out.below HL3.out
      have hB3 := HX6.out.le
      have hwB := HX6.out.low
      have HX7 : Hid (Bx w (w3.alloc (.cells #[.int .i64 m0.a, .int .i64 m0.b, .int .i64 m0.c] 50)) B (w.heap.size + 1 + 1 + 1) vv out) := HX6.out.below (low_alloc _ _)
      have HK7 : Hid (KeepR w1 (w.heap.size + 1 + 1 + 1) (w3.alloc (.cells #[.int .i64 m0.a, .int .i64 m0.b, .int .i64 m0.c] 50))) := HK6.out.below (low_alloc _ _)
      have HF7 : Hid (Row (w3.alloc (.cells #[.int .i64 m0.a, .int .i64 m0.b, .int .i64 m0.c] 50)) w3.heap.size [.int .i64 m0.a, .int .i64 m0.b, .int .i64 m0.c]) := row_fresh w3 [.int .i64 m0.a, .int .i64 m0.b, .int .i64 m0.c] 50
      have hw1B := HB.out
      have hF : vv.ownBlock ≠ some w3.heap.size := fun e => by have := (HX6.out.own.lt _ e).2; omega
      clear HX5 HK5 HL3
      by_cases hspan : f ≤ t ∧ t < u
      · obtain ⟨hs1, hs2⟩ := hspan
        rw [if_pos ⟨hs1, hs2⟩] at HE6
        have y0 := (HK6.out _ _ HV1.out (by omega)).cell 0 _ rfl
        have y1 := (HK6.out _ _ HV1.out (by omega)).cell 1 _ rfl
        have y2 := (HK6.out _ _ HV1.out (by omega)).cell 2 _ rfl
        have hne1 : w.heap.size + 1 ≠ w3.heap.size := by omega
        have hlt1 : w.heap.size + 1 < w3.heap.size := by omega
        go_wp2_with fail
        generalize w3.alloc (.cells #[.int .i64 m0.a, .int .i64 m0.b, .int .i64 m0.c] 50) = w4 at HX7 HK7 HF7
        clear y0 y1 y2 hne1 hlt1 HX6 HK6
        generalize w3.heap.size = F at *
        refine (specVecAdd_g v m0 _).mono ?_
        rintro e w5 ⟨rfl, hb⟩
        have HX8 : Hid (Bx w w5 B (w.heap.size + 1 + 1 + 1) vv out) := HX7.out.below hb
        have HK8 : Hid (KeepR w1 (w.heap.size + 1 + 1 + 1) w5) := HK7.out.below hb
        have HF8 : Hid (Row w5 F [.int .i64 m0.a, .int .i64 m0.b, .int .i64 m0.c]) := HF7.out.below hb
        clear hb HX7 HK7 HF7
        have g0 := HF8.out.cell 0 _ rfl
        have g1 := HF8.out.cell 1 _ rfl
        have g2 := HF8.out.cell 2 _ rfl
        have h0 := HF8.out.free 0
        have h1 := HF8.out.free 1
        have h2 := HF8.out.free 2
        cases hg : chG true v m0 with
        | none =>
          rw [hg] at HE6
          have hcv : chV true v m0 = .tuple #[.agg #[.int .i64 0, .int .i64 0, .int .i64 0], .bool false] := by rw [chV, hg]; rfl
          rw [hcv]
          have HN : Hid (chgR true v ns f u = none) := by show _ = _; rw [chgR, HTs.out, ← HE5.out, HE6.out]; rfl
          have HRR := HK8.out _ _ HR1.out (by omega)
          have r0 := HRR.cell 0 _ rfl
          have rf := HRR.free 0
          have hneR : w.heap.size + 1 + 1 ≠ F := by omega
          have B8 := HX8.out.grown
          clear hcv hg
          go_wp2_with fail
          refine bodyPost_ret (v := .tuple #[.agg #[.slice none 0 0], .bool false]) (by simp [results, Tryz.results56, go_sem, *]) rfl ⟨_, by rw [HN.out]; rfl, ?_, by go_grown⟩
          rw [HN.out]
          exact owns_nil _ _ _
        | some m =>
          rw [hg] at HE6
          have hcv : chV true v m0 = .tuple #[.agg #[.int .i64 m.a, .int .i64 m.b, .int .i64 m.c], .bool true] := by rw [chV, hg]; rfl
          rw [hcv]
          have HEq : Hid (chTo (chG true v) ns f u (ts.drop (j + 1)) (putN out ⟨t, m.a, m.b, m.c⟩) = chTo (chG true v) ns f u ts []) := by show _ = _; rw [← HE5.out]; exact HE6.out.symm
          clear hcv hg
          have HXw : Hid (Bx w (((w5.setCell ⟨F, 0, none⟩ (.int .i64 m.a)).setCell ⟨F, 1, none⟩ (.int .i64 m.b)).setCell ⟨F, 2, none⟩ (.int .i64 m.c)) B (w.heap.size + 1 + 1 + 1) vv out) := ((HX8.out.apart (by omega) hF (by omega)).apart (by omega) hF (by omega)).apart (by omega) hF (by omega)
          have HKw : Hid (KeepR w1 (w.heap.size + 1 + 1 + 1) (((w5.setCell ⟨F, 0, none⟩ (.int .i64 m.a)).setCell ⟨F, 1, none⟩ (.int .i64 m.b)).setCell ⟨F, 2, none⟩ (.int .i64 m.c))) := ((HK8.out.apart (by omega)).apart (by omega)).apart (by omega)
          have HFw : Hid (Row (((w5.setCell ⟨F, 0, none⟩ (.int .i64 m.a)).setCell ⟨F, 1, none⟩ (.int .i64 m.b)).setCell ⟨F, 2, none⟩ (.int .i64 m.c)) F [.int .i64 m.a, .int .i64 m.b, .int .i64 m.c]) := ((HF8.out.set 0 (by simp) (.int .i64 m.a)).set 1 (by simp) (.int .i64 m.b)).set 2 (by simp) (.int .i64 m.c)
          obtain ⟨a1, c1, hv1, _⟩ := HX8.out.form
          subst hv1
          have b0 := HX8.out.box.cell 0 _ rfl
          have hneO : w.heap.size + 1 + 1 + 1 ≠ F := by omega
          go_wp2_with fail
          generalize ((w5.setCell ⟨F, 0, none⟩ (.int .i64 m.a)).setCell ⟨F, 1, none⟩ (.int .i64 m.b)).setCell ⟨F, 2, none⟩ (.int .i64 m.c) = W at HXw HKw HFw
          clear g0 g1 g2 h0 h1 h2 b0 HX8 HK8 HF8
          have HSq : Hid (Sq W a1 (flat out)) := by
            obtain ⟨a', c', hv', hsq'⟩ := HXw.out.form
            cases hv'
            exact hsq'
          have b0 := HXw.out.box.cell 0 _ rfl
          have hsome := beh_some W
          have q0 := Beh.row HXw.out.box 0 _ rfl
          have q1 := Beh.row HFw.out 0 _ rfl
          have q2 := Beh.row HFw.out 1 _ rfl
          have q3 := Beh.row HFw.out 2 _ rfl
          by_cases hz : out.length = 0
          · have HPut : Hid (putN out ⟨t, m.a, m.b, m.c⟩ = out ++ [⟨t, m.a, m.b, m.c⟩]) := by
              show _ = _
              rw [List.length_eq_zero_iff.1 hz]
              rfl
            have hd0 : ((out.length : Int) == 0) = true := by simpa using hz
            clear hz
            refine wp_region_beh (by kernel_rfl) (by kernel_rfl) ?_
            repeat (go_big_quiet_step (fail))
            refine wpQuiet_nil ?_
            rintro ⟨W3, hb3⟩
            have HL3 : Hid (Below W.heap.size W W3) := hb3
            clear q0 q1 q2 q3 b0 hsome
            have HX3 : Hid (Bx w W3 B (w.heap.size + 1 + 1 + 1) (.slice a1 out.length c1) out) := HXw.out.below HL3.out
            have HK3 : Hid (KeepR w1 (w.heap.size + 1 + 1 + 1) W3) := HKw.out.below HL3.out
            have HF3 : Hid (Row W3 F [.int .i64 m.a, .int .i64 m.b, .int .i64 m.c]) := HFw.out.below HL3.out
            have b0 := HX3.out.box.cell 0 _ rfl
            have e0 := HF3.out.cell 0 _ rfl
            have e1 := HF3.out.cell 1 _ rfl
            have e2 := HF3.out.cell 2 _ rfl
            have HX4 : Hid (Bx w (W3.alloc (.cells #[.int .i64 t, .int .i64 m.a, .int .i64 m.b, .int .i64 m.c] 109)) B (w.heap.size + 1 + 1 + 1) (.slice a1 out.length c1) out) := HX3.out.below (low_alloc _ _)
            have HK4 : Hid (KeepR w1 (w.heap.size + 1 + 1 + 1) (W3.alloc (.cells #[.int .i64 t, .int .i64 m.a, .int .i64 m.b, .int .i64 m.c] 109))) := HK3.out.below (low_alloc _ _)
            have hle3 := HX3.out.le
            go_wp2_with (at_builtin; refine wpList_append_own_at _ rfl _ _ 42 rfl B 109 i0 (.agg #[.int .i64 0, .int .i64 0, .int .i64 0, .int .i64 0]) 4 32 Tryz.underlying42 hi hz0 hz1 hz2 rfl (by decide) _ _ _ rfl HX4.out.own ⟨W3.heap.size, 0, none⟩ 1 1 [.int .i64 t, .int .i64 m.a, .int .i64 m.b, .int .i64 m.c] rfl rfl ?c1 ?c2 ?c3 ?c4 ?c5 ?_)
            case c1 =>
              intro k u hk
              match k, hk with
              | 0, hk => simp at hk; subst hk; simp [Addr.add]
              | 1, hk => simp at hk; subst hk; simp [Addr.add]
              | 2, hk => simp at hk; subst hk; simp [Addr.add]
              | 3, hk => simp at hk; subst hk; simp [Addr.add]
              | k + 4, hk => simp at hk
            case c2 =>
              intro u hu
              simp only [List.mem_cons, List.not_mem_nil, or_false] at hu
              rcases hu with rfl | rfl | rfl | rfl <;> rfl
            case c3 => unfold maxLen; omega
            case c4 => omega
            case c5 => simp; omega
            intro v5 w5 hown5 hgrow5 _ hat5
            obtain ⟨a5, c5, hv5, _⟩ := (AnsP.of_owns hown5).form
            subst hv5
            obtain ⟨hbox5, hbx5, hrows5⟩ := HX4.out.add ⟨t, m.a, m.b, m.c⟩ hown5 hgrow5 (hat5.imp id (fun e => by rw [e]; simp [go_sem]))
            have HX5 : Hid (Bx w (w5.setCell ⟨w.heap.size + 1 + 1 + 1, 0, none⟩ (.slice a5 (out.length + 1) c5)) B (w.heap.size + 1 + 1 + 1) (.slice a5 (out.length + 1) c5) (out ++ [⟨t, m.a, m.b, m.c⟩])) := hbx5
            have HK5 : Hid (KeepR w1 (w.heap.size + 1 + 1 + 1) (w5.setCell ⟨w.heap.size + 1 + 1 + 1, 0, none⟩ (.slice a5 (out.length + 1) c5))) := fun b xs hr hne => hrows5 b xs (HK4.out b xs hr hne) (by have := hr.lt; omega) hne
            have d0 := hbox5.cell 0 _ rfl
            have df := hbox5.free 0
            have HEq5 : Hid (chTo (chG true v) ns f u (ts.drop (j + 1)) (out ++ [⟨t, m.a, m.b, m.c⟩]) = chTo (chG true v) ns f u ts []) := by show _ = _; rw [← HPut.out]; exact HEq.out
            clear hown5 hgrow5 hat5 hbox5 hbx5 hrows5 b0 e0 e1 e2
            go_wp2_with fail
            exact ⟨⟨j + 1, _, out ++ [⟨t, m.a, m.b, m.c⟩], by omega, by go_num, HX5.out, HK5.out, by simp; omega, HEq5.out⟩, by simp [intOf]; omega⟩
          · obtain ⟨k, hk⟩ : ∃ k, out.length = k + 1 := ⟨out.length - 1, by omega⟩
            have hkl : k < out.length := by omega
            have hE := List.getElem?_eq_getElem hkl
            have hlast : out.getLast? = some out[k] := by rw [List.getLast?_eq_getElem?, show out.length - 1 = k by omega]; exact hE
            generalize out[k] = l0 at hE hlast
            obtain ⟨p1, hp1, hcl⟩ := HSq.out.node k hkl
            clear hcl
            subst hp1
            obtain ⟨m0', m1', m2', m3'⟩ := Beh.node HSq.out hE
            have hd0 : ((out.length : Int) == 0) = false := by rw [beq_eq_false_iff_ne]; omega
            have hki : (out.length : Int) - 1 = (k : Int) := by omega
            have hk0 : (0 : Int) ≤ (k : Int) := by omega
            have hk1 : (k : Int) < (out.length : Int) := by omega
            clear hk hz
            cases hsv : sameV l0 ⟨t, m.a, m.b, m.c⟩
            · have HPut : Hid (putN out ⟨t, m.a, m.b, m.c⟩ = out ++ [⟨t, m.a, m.b, m.c⟩]) := by
                show _ = _
                unfold putN
                rw [hlast]
                simp [hsv]
              have hvq : ∀ Q : World, (Op.equalIn 10000 50 (.agg #[.int .i64 l0.a, .int .i64 l0.b, .int .i64 l0.c]) (.agg #[.int .i64 m.a, .int .i64 m.b, .int .i64 m.c])).run Tryz.prog Q = .ok false Q := fun Q => by rw [eq_vec, show (l0.a == m.a && (l0.b == m.b && l0.c == m.c)) = false from hsv]
              clear hsv hlast hE
              refine wp_region_beh (by kernel_rfl) (by kernel_rfl) ?_
              repeat (go_big_quiet_step (fail))
              refine wpQuiet_nil ?_
              rintro ⟨W3, hb3⟩
              have HL3 : Hid (Below W.heap.size W W3) := hb3
              clear m0' m1' m2' m3' hvq q0 q1 q2 q3 b0 hsome
              have HX3 : Hid (Bx w W3 B (w.heap.size + 1 + 1 + 1) (.slice (some p1) out.length c1) out) := HXw.out.below HL3.out
              have HK3 : Hid (KeepR w1 (w.heap.size + 1 + 1 + 1) W3) := HKw.out.below HL3.out
              have HF3 : Hid (Row W3 F [.int .i64 m.a, .int .i64 m.b, .int .i64 m.c]) := HFw.out.below HL3.out
              have b0 := HX3.out.box.cell 0 _ rfl
              have e0 := HF3.out.cell 0 _ rfl
              have e1 := HF3.out.cell 1 _ rfl
              have e2 := HF3.out.cell 2 _ rfl
              have HX4 : Hid (Bx w (W3.alloc (.cells #[.int .i64 t, .int .i64 m.a, .int .i64 m.b, .int .i64 m.c] 109)) B (w.heap.size + 1 + 1 + 1) (.slice (some p1) out.length c1) out) := HX3.out.below (low_alloc _ _)
              have HK4 : Hid (KeepR w1 (w.heap.size + 1 + 1 + 1) (W3.alloc (.cells #[.int .i64 t, .int .i64 m.a, .int .i64 m.b, .int .i64 m.c] 109))) := HK3.out.below (low_alloc _ _)
              have hle3 := HX3.out.le
              go_wp2_with (at_builtin; refine wpList_append_own_at _ rfl _ _ 42 rfl B 109 i0 (.agg #[.int .i64 0, .int .i64 0, .int .i64 0, .int .i64 0]) 4 32 Tryz.underlying42 hi hz0 hz1 hz2 rfl (by decide) _ _ _ rfl HX4.out.own ⟨W3.heap.size, 0, none⟩ 1 1 [.int .i64 t, .int .i64 m.a, .int .i64 m.b, .int .i64 m.c] rfl rfl ?c1 ?c2 ?c3 ?c4 ?c5 ?_)
              case c1 =>
                intro k u hk
                match k, hk with
                | 0, hk => simp at hk; subst hk; simp [Addr.add]
                | 1, hk => simp at hk; subst hk; simp [Addr.add]
                | 2, hk => simp at hk; subst hk; simp [Addr.add]
                | 3, hk => simp at hk; subst hk; simp [Addr.add]
                | k + 4, hk => simp at hk
              case c2 =>
                intro u hu
                simp only [List.mem_cons, List.not_mem_nil, or_false] at hu
                rcases hu with rfl | rfl | rfl | rfl <;> rfl
              case c3 => unfold maxLen; omega
              case c4 => omega
              case c5 => simp; omega
              intro v5 w5 hown5 hgrow5 _ hat5
              obtain ⟨a5, c5, hv5, _⟩ := (AnsP.of_owns hown5).form
              subst hv5
              obtain ⟨hbox5, hbx5, hrows5⟩ := HX4.out.add ⟨t, m.a, m.b, m.c⟩ hown5 hgrow5 (hat5.imp id (fun e => by rw [e]; simp [go_sem]))
              have HX5 : Hid (Bx w (w5.setCell ⟨w.heap.size + 1 + 1 + 1, 0, none⟩ (.slice a5 (out.length + 1) c5)) B (w.heap.size + 1 + 1 + 1) (.slice a5 (out.length + 1) c5) (out ++ [⟨t, m.a, m.b, m.c⟩])) := hbx5
              have HK5 : Hid (KeepR w1 (w.heap.size + 1 + 1 + 1) (w5.setCell ⟨w.heap.size + 1 + 1 + 1, 0, none⟩ (.slice a5 (out.length + 1) c5))) := fun b xs hr hne => hrows5 b xs (HK4.out b xs hr hne) (by have := hr.lt; omega) hne
              have d0 := hbox5.cell 0 _ rfl
              have df := hbox5.free 0
              have HEq5 : Hid (chTo (chG true v) ns f u (ts.drop (j + 1)) (out ++ [⟨t, m.a, m.b, m.c⟩]) = chTo (chG true v) ns f u ts []) := by show _ = _; rw [← HPut.out]; exact HEq.out
              clear hown5 hgrow5 hat5 hbox5 hbx5 hrows5 b0 e0 e1 e2
              go_wp2_with fail
              exact ⟨⟨j + 1, _, out ++ [⟨t, m.a, m.b, m.c⟩], by omega, by go_num, HX5.out, HK5.out, by simp; omega, HEq5.out⟩, by simp [intOf]; omega⟩
            · have HPut : Hid (putN out ⟨t, m.a, m.b, m.c⟩ = out) := by
                show _ = _
                unfold putN
                rw [hlast]
                simp [hsv]
              have hvq : ∀ Q : World, (Op.equalIn 10000 50 (.agg #[.int .i64 l0.a, .int .i64 l0.b, .int .i64 l0.c]) (.agg #[.int .i64 m.a, .int .i64 m.b, .int .i64 m.c])).run Tryz.prog Q = .ok true Q := fun Q => by rw [eq_vec, show (l0.a == m.a && (l0.b == m.b && l0.c == m.c)) = true from hsv]
              clear hsv hlast hE
              refine wp_region_beh (by kernel_rfl) (by kernel_rfl) ?_
              repeat (go_big_quiet_step (fail))
              refine wpQuiet_nil ?_
              rintro ⟨W3, hb3⟩
              have HL3 : Hid (Below W.heap.size W W3) := hb3
              clear m0' m1' m2' m3' hvq q0 q1 q2 q3 b0 hsome
              have HX5 : Hid (Bx w W3 B (w.heap.size + 1 + 1 + 1) (.slice (some p1) out.length c1) out) := HXw.out.below HL3.out
              have HK5 : Hid (KeepR w1 (w.heap.size + 1 + 1 + 1) W3) := HKw.out.below HL3.out
              have HEq5 : Hid (chTo (chG true v) ns f u (ts.drop (j + 1)) out = chTo (chG true v) ns f u ts []) := by have := HEq.out; rw [HPut.out] at this; exact this
              go_wp2_with fail
              exact ⟨⟨j + 1, _, out, by omega, by go_num, HX5.out, HK5.out, by omega, HEq5.out⟩, by simp [intOf]; omega⟩
      · have hspan2 : ¬ (f ≤ t ∧ t < u) := hspan
        rw [if_neg hspan] at HE6
        have HEq : Hid (chTo (chG true v) ns f u (ts.drop (j + 1)) (putN out ⟨t, m0.a, m0.b, m0.c⟩) = chTo (chG true v) ns f u ts []) := by show _ = _; rw [← HE5.out]; exact HE6.out.symm
        obtain ⟨a1, c1, hv1, _⟩ := HX6.out.form
        subst hv1
        have b0 := HX6.out.box.cell 0 _ rfl
        have hneO : w.heap.size + 1 + 1 + 1 ≠ w3.heap.size := by omega
        have hltO : w.heap.size + 1 + 1 + 1 < w3.heap.size := by omega
        have HXw := HX7
        have HKw := HK7
        have HFw := HF7
        clear HX7 HK7 HF7
        by_cases hs1 : f ≤ t
        case' pos => have hs2 : ¬ t < u := fun h => hspan2 ⟨hs1, h⟩
        all_goals
          clear hspan hspan2
          go_wp2_with fail
          generalize w3.alloc (.cells #[.int .i64 m0.a, .int .i64 m0.b, .int .i64 m0.c] 50) = W at HXw HKw HFw
          generalize w3.heap.size = F at *
          clear b0 HX6 HK6
          have HSq : Hid (Sq W a1 (flat out)) := by
            obtain ⟨a', c', hv', hsq'⟩ := HXw.out.form
            cases hv'
            exact hsq'
          have b0 := HXw.out.box.cell 0 _ rfl
          have hsome := beh_some W
          have q0 := Beh.row HXw.out.box 0 _ rfl
          have q1 := Beh.row HFw.out 0 _ rfl
          have q2 := Beh.row HFw.out 1 _ rfl
          have q3 := Beh.row HFw.out 2 _ rfl
          by_cases hz : out.length = 0
          · have HPut : Hid (putN out ⟨t, m0.a, m0.b, m0.c⟩ = out ++ [⟨t, m0.a, m0.b, m0.c⟩]) := by
              show _ = _
              rw [List.length_eq_zero_iff.1 hz]
              rfl
            have hd0 : ((out.length : Int) == 0) = true := by simpa using hz
            clear hz
            refine wp_region_beh (by kernel_rfl) (by kernel_rfl) ?_
            repeat (go_big_quiet_step (fail))
            refine wpQuiet_nil ?_
            rintro ⟨W3, hb3⟩
            have HL3 : Hid (Below W.heap.size W W3) := hb3
            clear q0 q1 q2 q3 b0 hsome
            have HX3 : Hid (Bx w W3 B (w.heap.size + 1 + 1 + 1) (.slice a1 out.length c1) out) := HXw.out.below HL3.out
            have HK3 : Hid (KeepR w1 (w.heap.size + 1 + 1 + 1) W3) := HKw.out.below HL3.out
            have HF3 : Hid (Row W3 F [.int .i64 m0.a, .int .i64 m0.b, .int .i64 m0.c]) := HFw.out.below HL3.out
            have b0 := HX3.out.box.cell 0 _ rfl
            have e0 := HF3.out.cell 0 _ rfl
            have e1 := HF3.out.cell 1 _ rfl
            have e2 := HF3.out.cell 2 _ rfl
            have HX4 : Hid (Bx w (W3.alloc (.cells #[.int .i64 t, .int .i64 m0.a, .int .i64 m0.b, .int .i64 m0.c] 109)) B (w.heap.size + 1 + 1 + 1) (.slice a1 out.length c1) out) := HX3.out.below (low_alloc _ _)
            have HK4 : Hid (KeepR w1 (w.heap.size + 1 + 1 + 1) (W3.alloc (.cells #[.int .i64 t, .int .i64 m0.a, .int .i64 m0.b, .int .i64 m0.c] 109))) := HK3.out.below (low_alloc _ _)
            have hle3 := HX3.out.le
            go_wp2_with (at_builtin; refine wpList_append_own_at _ rfl _ _ 42 rfl B 109 i0 (.agg #[.int .i64 0, .int .i64 0, .int .i64 0, .int .i64 0]) 4 32 Tryz.underlying42 hi hz0 hz1 hz2 rfl (by decide) _ _ _ rfl HX4.out.own ⟨W3.heap.size, 0, none⟩ 1 1 [.int .i64 t, .int .i64 m0.a, .int .i64 m0.b, .int .i64 m0.c] rfl rfl ?c1 ?c2 ?c3 ?c4 ?c5 ?_)
            case c1 =>
              intro k u hk
              match k, hk with
              | 0, hk => simp at hk; subst hk; simp [Addr.add]
              | 1, hk => simp at hk; subst hk; simp [Addr.add]
              | 2, hk => simp at hk; subst hk; simp [Addr.add]
              | 3, hk => simp at hk; subst hk; simp [Addr.add]
              | k + 4, hk => simp at hk
            case c2 =>
              intro u hu
              simp only [List.mem_cons, List.not_mem_nil, or_false] at hu
              rcases hu with rfl | rfl | rfl | rfl <;> rfl
            case c3 => unfold maxLen; omega
            case c4 => omega
            case c5 => simp; omega
            intro v5 w5 hown5 hgrow5 _ hat5
            obtain ⟨a5, c5, hv5, _⟩ := (AnsP.of_owns hown5).form
            subst hv5
            obtain ⟨hbox5, hbx5, hrows5⟩ := HX4.out.add ⟨t, m0.a, m0.b, m0.c⟩ hown5 hgrow5 (hat5.imp id (fun e => by rw [e]; simp [go_sem]))
            have HX5 : Hid (Bx w (w5.setCell ⟨w.heap.size + 1 + 1 + 1, 0, none⟩ (.slice a5 (out.length + 1) c5)) B (w.heap.size + 1 + 1 + 1) (.slice a5 (out.length + 1) c5) (out ++ [⟨t, m0.a, m0.b, m0.c⟩])) := hbx5
            have HK5 : Hid (KeepR w1 (w.heap.size + 1 + 1 + 1) (w5.setCell ⟨w.heap.size + 1 + 1 + 1, 0, none⟩ (.slice a5 (out.length + 1) c5))) := fun b xs hr hne => hrows5 b xs (HK4.out b xs hr hne) (by have := hr.lt; omega) hne
            have d0 := hbox5.cell 0 _ rfl
            have df := hbox5.free 0
            have HEq5 : Hid (chTo (chG true v) ns f u (ts.drop (j + 1)) (out ++ [⟨t, m0.a, m0.b, m0.c⟩]) = chTo (chG true v) ns f u ts []) := by show _ = _; rw [← HPut.out]; exact HEq.out
            clear hown5 hgrow5 hat5 hbox5 hbx5 hrows5 b0 e0 e1 e2
            go_wp2_with fail
            exact ⟨⟨j + 1, _, out ++ [⟨t, m0.a, m0.b, m0.c⟩], by omega, by go_num, HX5.out, HK5.out, by simp; omega, HEq5.out⟩, by simp [intOf]; omega⟩
          · obtain ⟨k, hk⟩ : ∃ k, out.length = k + 1 := ⟨out.length - 1, by omega⟩
            have hkl : k < out.length := by omega
            have hE := List.getElem?_eq_getElem hkl
            have hlast : out.getLast? = some out[k] := by rw [List.getLast?_eq_getElem?, show out.length - 1 = k by omega]; exact hE
            generalize out[k] = l0 at hE hlast
            obtain ⟨p1, hp1, hcl⟩ := HSq.out.node k hkl
            clear hcl
            subst hp1
            obtain ⟨m0', m1', m2', m3'⟩ := Beh.node HSq.out hE
            have hd0 : ((out.length : Int) == 0) = false := by rw [beq_eq_false_iff_ne]; omega
            have hki : (out.length : Int) - 1 = (k : Int) := by omega
            have hk0 : (0 : Int) ≤ (k : Int) := by omega
            have hk1 : (k : Int) < (out.length : Int) := by omega
            clear hk hz
            cases hsv : sameV l0 ⟨t, m0.a, m0.b, m0.c⟩
            · have HPut : Hid (putN out ⟨t, m0.a, m0.b, m0.c⟩ = out ++ [⟨t, m0.a, m0.b, m0.c⟩]) := by
                show _ = _
                unfold putN
                rw [hlast]
                simp [hsv]
              have hvq : ∀ Q : World, (Op.equalIn 10000 50 (.agg #[.int .i64 l0.a, .int .i64 l0.b, .int .i64 l0.c]) (.agg #[.int .i64 m0.a, .int .i64 m0.b, .int .i64 m0.c])).run Tryz.prog Q = .ok false Q := fun Q => by rw [eq_vec, show (l0.a == m0.a && (l0.b == m0.b && l0.c == m0.c)) = false from hsv]
              clear hsv hlast hE
              refine wp_region_beh (by kernel_rfl) (by kernel_rfl) ?_
              repeat (go_big_quiet_step (fail))
              refine wpQuiet_nil ?_
              rintro ⟨W3, hb3⟩
              have HL3 : Hid (Below W.heap.size W W3) := hb3
              clear m0' m1' m2' m3' hvq q0 q1 q2 q3 b0 hsome
              have HX3 : Hid (Bx w W3 B (w.heap.size + 1 + 1 + 1) (.slice (some p1) out.length c1) out) := HXw.out.below HL3.out
              have HK3 : Hid (KeepR w1 (w.heap.size + 1 + 1 + 1) W3) := HKw.out.below HL3.out
              have HF3 : Hid (Row W3 F [.int .i64 m0.a, .int .i64 m0.b, .int .i64 m0.c]) := HFw.out.below HL3.out
              have b0 := HX3.out.box.cell 0 _ rfl
              have e0 := HF3.out.cell 0 _ rfl
              have e1 := HF3.out.cell 1 _ rfl
              have e2 := HF3.out.cell 2 _ rfl
              have HX4 : Hid (Bx w (W3.alloc (.cells #[.int .i64 t, .int .i64 m0.a, .int .i64 m0.b, .int .i64 m0.c] 109)) B (w.heap.size + 1 + 1 + 1) (.slice (some p1) out.length c1) out) := HX3.out.below (low_alloc _ _)
              have HK4 : Hid (KeepR w1 (w.heap.size + 1 + 1 + 1) (W3.alloc (.cells #[.int .i64 t, .int .i64 m0.a, .int .i64 m0.b, .int .i64 m0.c] 109))) := HK3.out.below (low_alloc _ _)
              have hle3 := HX3.out.le
              go_wp2_with (at_builtin; refine wpList_append_own_at _ rfl _ _ 42 rfl B 109 i0 (.agg #[.int .i64 0, .int .i64 0, .int .i64 0, .int .i64 0]) 4 32 Tryz.underlying42 hi hz0 hz1 hz2 rfl (by decide) _ _ _ rfl HX4.out.own ⟨W3.heap.size, 0, none⟩ 1 1 [.int .i64 t, .int .i64 m0.a, .int .i64 m0.b, .int .i64 m0.c] rfl rfl ?c1 ?c2 ?c3 ?c4 ?c5 ?_)
              case c1 =>
                intro k u hk
                match k, hk with
                | 0, hk => simp at hk; subst hk; simp [Addr.add]
                | 1, hk => simp at hk; subst hk; simp [Addr.add]
                | 2, hk => simp at hk; subst hk; simp [Addr.add]
                | 3, hk => simp at hk; subst hk; simp [Addr.add]
                | k + 4, hk => simp at hk
              case c2 =>
                intro u hu
                simp only [List.mem_cons, List.not_mem_nil, or_false] at hu
                rcases hu with rfl | rfl | rfl | rfl <;> rfl
              case c3 => unfold maxLen; omega
              case c4 => omega
              case c5 => simp; omega
              intro v5 w5 hown5 hgrow5 _ hat5
              obtain ⟨a5, c5, hv5, _⟩ := (AnsP.of_owns hown5).form
              subst hv5
              obtain ⟨hbox5, hbx5, hrows5⟩ := HX4.out.add ⟨t, m0.a, m0.b, m0.c⟩ hown5 hgrow5 (hat5.imp id (fun e => by rw [e]; simp [go_sem]))
              have HX5 : Hid (Bx w (w5.setCell ⟨w.heap.size + 1 + 1 + 1, 0, none⟩ (.slice a5 (out.length + 1) c5)) B (w.heap.size + 1 + 1 + 1) (.slice a5 (out.length + 1) c5) (out ++ [⟨t, m0.a, m0.b, m0.c⟩])) := hbx5
              have HK5 : Hid (KeepR w1 (w.heap.size + 1 + 1 + 1) (w5.setCell ⟨w.heap.size + 1 + 1 + 1, 0, none⟩ (.slice a5 (out.length + 1) c5))) := fun b xs hr hne => hrows5 b xs (HK4.out b xs hr hne) (by have := hr.lt; omega) hne
              have d0 := hbox5.cell 0 _ rfl
              have df := hbox5.free 0
              have HEq5 : Hid (chTo (chG true v) ns f u (ts.drop (j + 1)) (out ++ [⟨t, m0.a, m0.b, m0.c⟩]) = chTo (chG true v) ns f u ts []) := by show _ = _; rw [← HPut.out]; exact HEq.out
              clear hown5 hgrow5 hat5 hbox5 hbx5 hrows5 b0 e0 e1 e2
              go_wp2_with fail
              exact ⟨⟨j + 1, _, out ++ [⟨t, m0.a, m0.b, m0.c⟩], by omega, by go_num, HX5.out, HK5.out, by simp; omega, HEq5.out⟩, by simp [intOf]; omega⟩
            · have HPut : Hid (putN out ⟨t, m0.a, m0.b, m0.c⟩ = out) := by
                show _ = _
                unfold putN
                rw [hlast]
                simp [hsv]
              have hvq : ∀ Q : World, (Op.equalIn 10000 50 (.agg #[.int .i64 l0.a, .int .i64 l0.b, .int .i64 l0.c]) (.agg #[.int .i64 m0.a, .int .i64 m0.b, .int .i64 m0.c])).run Tryz.prog Q = .ok true Q := fun Q => by rw [eq_vec, show (l0.a == m0.a && (l0.b == m0.b && l0.c == m0.c)) = true from hsv]
              clear hsv hlast hE
              refine wp_region_beh (by kernel_rfl) (by kernel_rfl) ?_
              repeat (go_big_quiet_step (fail))
              refine wpQuiet_nil ?_
              rintro ⟨W3, hb3⟩
              have HL3 : Hid (Below W.heap.size W W3) := hb3
              clear m0' m1' m2' m3' hvq q0 q1 q2 q3 b0 hsome
              have HX5 : Hid (Bx w W3 B (w.heap.size + 1 + 1 + 1) (.slice (some p1) out.length c1) out) := HXw.out.below HL3.out
              have HK5 : Hid (KeepR w1 (w.heap.size + 1 + 1 + 1) W3) := HKw.out.below HL3.out
              have HEq5 : Hid (chTo (chG true v) ns f u (ts.drop (j + 1)) out = chTo (chG true v) ns f u ts []) := by have := HEq.out; rw [HPut.out] at this; exact this
              go_wp2_with fail
              exact ⟨⟨j + 1, _, out, by omega, by go_num, HX5.out, HK5.out, by omega, HEq5.out⟩, by simp [intOf]; omega⟩
    · have HE7 : Hid (chTo (chG true v) ns f u ts [] = some out) := by
        show _ = _
        rw [← HE5.out, List.drop_eq_nil_of_le (by omega)]
        rfl
      have HOk : Hid (POk out ↔ out.length ≤ 200) := by
        have h7 := HE7.out
        rw [← HTs.out] at h7
        exact ch_ok (fun m m' _ hm => ch_vok true v m m' hm) HY.out HS.out h7
      obtain ⟨a1, c1, hv1, hsq1⟩ := HX5.out.form
      subst hv1
      have HSq : Hid (Sq wr a1 (flat out)) := hsq1
      have b0 := HX5.out.box.cell 0 _ rfl
      clear hsq1 HP5
      go_wp2_with fail
      refine (specProfOk_c a1 c1 out _ HSq.out).mono ?_
      rintro e w3 ⟨k, rfl, hk, hb⟩
      have HX6 : Hid (Bx w w3 B (w.heap.size + 1 + 1 + 1) (.slice a1 out.length c1) out) := HX5.out.below hb
      have HK6 : Hid (KeepR w1 (w.heap.size + 1 + 1 + 1) w3) := HK5.out.below hb
      have HRR := HK6.out _ _ HR1.out (by omega)
      have r0 := HRR.cell 0 _ rfl
      have rf := HRR.free 0
      have b1 := HX6.out.box.cell 0 _ rfl
      have B8 := HX6.out.grown
      clear hb b0 HRR
      cases k
      · have HN : Hid (chgR true v ns f u = none) := by
          show _ = _
          rw [chgR, HTs.out, HE7.out]
          simp only [Option.filter]
          rw [if_neg]
          intro h
          have := hk.2 (HOk.out.2 (of_decide_eq_true h))
          cases this
        clear hk
        go_wp2_with fail
        refine bodyPost_ret (v := .tuple #[.agg #[.slice none 0 0], .bool false]) (by simp [results, Tryz.results56, go_sem, *]) rfl ⟨_, by rw [HN.out]; rfl, ?_, by go_grown⟩
        rw [HN.out]
        exact owns_nil _ _ _
      · have HN : Hid (chgR true v ns f u = some out) := by
          show _ = _
          rw [chgR, HTs.out, HE7.out]
          simp only [Option.filter]
          rw [if_pos (decide_eq_true (HOk.out.1 (hk.1 rfl)))]
        clear hk
        have HAns : Hid ((w3.setCell ⟨w.heap.size + 1 + 1, 0, none⟩ (.slice a1 out.length c1)).ownsRow B 109 4 (.slice a1 out.length c1) out.length (flat out)) := owns_set HX6.out.own (by omega)
        have hwB := HX6.out.low
        have HBf : Hid (Below w.heap.size w (w3.setCell ⟨w.heap.size + 1 + 1, 0, none⟩ (.slice a1 out.length c1))) := B8.setCell (p := ⟨w.heap.size + 1 + 1, 0, none⟩) (by show w.heap.size ≤ w.heap.size + 1 + 1; omega) _
        go_wp2_with fail
        refine bodyPost_ret (v := .tuple #[.agg #[.slice a1 out.length c1], .bool true]) (by simp [results, Tryz.results56, go_sem, *]) rfl ⟨_, by rw [HN.out]; rfl, ?_, HBf.out⟩
        rw [HN.out]
        exact owns_mono HAns.out (by omega)
set_option maxHeartbeats 8000000 in
set_option maxRecDepth 20000 in
theorem l03Change_false (b : Option Addr) (d : Nat) (ns : List Nd) (f u : Int) (v : Nd) (hok : POk ns) (hs : spanB f u = true) (w : World) (h : Sq w b (flat ns)) :
    Calls Tryz.prog 56 #[.agg #[.slice b ns.length d], .int .i64 f, .int .i64 u, .agg #[.int .i64 v.a, .int .i64 v.b, .int .i64 v.c], .bool false] w (RetO w ((chgR false v ns f u).getD []) (chgR false v ns f u).isSome) := by
  have H : Hid (Sq w b (flat ns)) := h
  have HY : Hid (POk ns) := hok
  have HS : Hid (spanB f u = true) := hs
  have hfw := hok.few
  clear h hok hs
  obtain ⟨i0, hi, hz0, hz1, hz2⟩ := info_parts infoPt
  go_enter Tryz.func56, Tryz.ntmps56
  go_wp2_with fail
  generalize hV : (((w.alloc (.cells #[.slice b ns.length d] 44)).alloc (.cells #[.int .i64 v.a, .int .i64 v.b, .int .i64 v.c] 50)).alloc (.cells #[.slice none 0 0] 44)).alloc (.cells #[.slice none 0 0] 44) = V
  have HV : Hid (Below w.heap.size w V) := by subst hV; exact behind_alloc (behind_alloc (behind_alloc (low_alloc _ _) _) _) _
  have HA : Hid (Row V w.heap.size [.slice b ns.length d]) := by subst hV; exact (((row_fresh w [.slice b ns.length d] 44).below (low_alloc _ _)).below (low_alloc _ _)).below (low_alloc _ _)
  have HVc : Hid (Row V (w.heap.size + 1) [.int .i64 v.a, .int .i64 v.b, .int .i64 v.c]) := by
    subst hV
    have h := row_fresh (w.alloc (.cells #[.slice b ns.length d] 44)) [.int .i64 v.a, .int .i64 v.b, .int .i64 v.c] 50
    rw [show (w.alloc (.cells #[.slice b ns.length d] 44)).heap.size = w.heap.size + 1 by simp [go_sem]] at h
    exact (h.below (low_alloc _ _)).below (low_alloc _ _)
  have HR : Hid (Row V (w.heap.size + 1 + 1) [.slice none 0 0]) := by
    subst hV
    have h := row_fresh ((w.alloc (.cells #[.slice b ns.length d] 44)).alloc (.cells #[.int .i64 v.a, .int .i64 v.b, .int .i64 v.c] 50)) [.slice none 0 0] 44
    rw [show ((w.alloc (.cells #[.slice b ns.length d] 44)).alloc (.cells #[.int .i64 v.a, .int .i64 v.b, .int .i64 v.c] 50)).heap.size = w.heap.size + 1 + 1 by simp [go_sem]] at h
    exact h.below (low_alloc _ _)
  have HO : Hid (Row V (w.heap.size + 1 + 1 + 1) [.slice none 0 0]) := by
    subst hV
    have h := row_fresh (((w.alloc (.cells #[.slice b ns.length d] 44)).alloc (.cells #[.int .i64 v.a, .int .i64 v.b, .int .i64 v.c] 50)).alloc (.cells #[.slice none 0 0] 44)) [.slice none 0 0] 44
    rw [show (((w.alloc (.cells #[.slice b ns.length d] 44)).alloc (.cells #[.int .i64 v.a, .int .i64 v.b, .int .i64 v.c] 50)).alloc (.cells #[.slice none 0 0] 44)).heap.size = w.heap.size + 1 + 1 + 1 by simp [go_sem]] at h
    exact h
  clear hV
  refine (l03Times_c b d ns f u hfw _ (H.out.below HV.out)).mono ?_
  rintro e w1 ⟨vt, rfl, hown, hb⟩
  have htl := tms_len ns f u
  obtain ⟨gt, ct, hvt, hgt, hrt⟩ := row_of_owns hown (List.length_pos_iff.2 (tms_ne ns f u))
  subst hvt
  have HEq0 : Hid (chTo (chG false v) ns f u ((tmsL ns f u).drop 0) [] = chTo (chG false v) ns f u (tmsL ns f u) []) := rfl
  generalize hts : tmsL ns f u = ts at *
  have HTs : Hid (tmsL ns f u = ts) := hts
  have HRt : Hid (Row w1 gt (ints ts)) := hrt
  have HA1 : Hid (Row w1 w.heap.size [.slice b ns.length d]) := HA.out.below hb
  have HV1 : Hid (Row w1 (w.heap.size + 1) [.int .i64 v.a, .int .i64 v.b, .int .i64 v.c]) := HVc.out.below hb
  have HR1 : Hid (Row w1 (w.heap.size + 1 + 1) [.slice none 0 0]) := HR.out.below hb
  have hO1 := (HO.out.below hb).lt
  have hOV := HO.out.lt
  have HBx0 : Hid (Bx w w1 w1.heap.size (w.heap.size + 1 + 1 + 1) (.slice none 0 0) []) := Bx.nil (HO.out.below hb) (by omega) (by omega) (Nat.le_refl _) (below_then HV.out hb)
  have HK0 : Hid (KeepR w1 (w.heap.size + 1 + 1 + 1) w1) := fun b xs hr _ => hr
  clear hown hb hrt hts HA HVc HR HO HV
  generalize hB : w1.heap.size = B at *
  have HB : Hid (w1.heap.size = B) := hB
  clear hB
  go_wp2_with fail
  go_loopw [24] (fun i wr => ∃ (j : Nat) (vv : Value) (out : List Nd), j ≤ ts.length ∧ i = .int .i64 j ∧ Bx w wr B (w.heap.size + 1 + 1 + 1) vv out ∧ KeepR w1 (w.heap.size + 1 + 1 + 1) wr ∧ out.length ≤ j ∧ chTo (chG false v) ns f u (ts.drop j) out = chTo (chG false v) ns f u ts []) (fun i _ => ts.length - (intOf i).toNat)
  case atStart => exact ⟨0, _, [], Nat.zero_le _, rfl, HBx0.out, HK0.out, Nat.le_refl _, HEq0.out⟩
  case round =>
    obtain ⟨j, vv, out, hj, rfl, hbx, hkr, hol, heq⟩ := hrel
    have HX5 : Hid (Bx w wr B (w.heap.size + 1 + 1 + 1) vv out) := hbx
    have HK5 : Hid (KeepR w1 (w.heap.size + 1 + 1 + 1) wr) := hkr
    have HE5 : Hid (chTo (chG false v) ns f u (ts.drop j) out = chTo (chG false v) ns f u ts []) := heq
    clear hbx hkr heq HBx0 HK0 HEq0
    have HP5 := HK5.out _ _ HA1.out (by omega)
    by_cases hlt : j < ts.length
    · have hj0 : (0 : Int) ≤ (j : Int) := by omega
      have hj1 : (j : Int) < (ts.length : Int) := by omega
      have hTs5 := HK5.out _ _ HRt.out (by omega)
      have HX : Hid (ts[j]? = some ts[j]) := List.getElem?_eq_getElem hlt
      have tc := hTs5.cell j _ (ints_at ts j hlt)
      generalize ts[j] = t at tc HX
      have p0 := HP5.cell 0 _ rfl
      go_wp2_with fail
      refine (l03At_c b d ns t (by omega) _ (H.out.below HX5.out.grown)).mono ?_
      rintro e w3 ⟨rfl, hb⟩
      have HL3 : Hid (Below wr.heap.size wr w3) := hb
      clear hb tc p0 hTs5 HP5
      have HE6 : Hid (chTo (chG false v) ns f u (ts.drop j) out = if f ≤ t ∧ t < u then (match chG false v (atL ns t) with | none => none | some m => chTo (chG false v) ns f u (ts.drop (j + 1)) (putN out ⟨t, m.a, m.b, m.c⟩)) else chTo (chG false v) ns f u (ts.drop (j + 1)) (putN out ⟨t, (atL ns t).a, (atL ns t).b, (atL ns t).c⟩)) := ch_here HX.out
      generalize atL ns t = m0 at HE6
      have HX6 : Hid (Bx w w3 B (w.heap.size + 1 + 1 + 1) vv out) := HX5.out.below HL3.out
      have HK6 : Hid (KeepR w1 (w.heap.size + 1 + 1 + 1) w3) := HK5.out.below HL3.out
      have hB3 := HX6.out.le
      have hwB := HX6.out.low
      have HX7 : Hid (Bx w (w3.alloc (.cells #[.int .i64 m0.a, .int .i64 m0.b, .int .i64 m0.c] 50)) B (w.heap.size + 1 + 1 + 1) vv out) := HX6.out.below (low_alloc _ _)
      have HK7 : Hid (KeepR w1 (w.heap.size + 1 + 1 + 1) (w3.alloc (.cells #[.int .i64 m0.a, .int .i64 m0.b, .int .i64 m0.c] 50))) := HK6.out.below (low_alloc _ _)
      have HF7 : Hid (Row (w3.alloc (.cells #[.int .i64 m0.a, .int .i64 m0.b, .int .i64 m0.c] 50)) w3.heap.size [.int .i64 m0.a, .int .i64 m0.b, .int .i64 m0.c]) := row_fresh w3 [.int .i64 m0.a, .int .i64 m0.b, .int .i64 m0.c] 50
      have hw1B := HB.out
      have hF : vv.ownBlock ≠ some w3.heap.size := fun e => by have := (HX6.out.own.lt _ e).2; omega
      clear HX5 HK5 HL3
      by_cases hspan : f ≤ t ∧ t < u
      · obtain ⟨hs1, hs2⟩ := hspan
        rw [if_pos ⟨hs1, hs2⟩] at HE6
        have y0 := (HK6.out _ _ HV1.out (by omega)).cell 0 _ rfl
        have y1 := (HK6.out _ _ HV1.out (by omega)).cell 1 _ rfl
        have y2 := (HK6.out _ _ HV1.out (by omega)).cell 2 _ rfl
        have hne1 : w.heap.size + 1 ≠ w3.heap.size := by omega
        have hlt1 : w.heap.size + 1 < w3.heap.size := by omega
        go_wp2_with fail
        generalize w3.alloc (.cells #[.int .i64 m0.a, .int .i64 m0.b, .int .i64 m0.c] 50) = w4 at HX7 HK7 HF7
        clear y0 y1 y2 hne1 hlt1 HX6 HK6
        generalize w3.heap.size = F at *
        refine (specVecSub_g v m0 _).mono ?_
        rintro e w5 ⟨rfl, hb⟩
        have HX8 : Hid (Bx w w5 B (w.heap.size + 1 + 1 + 1) vv out) := HX7.out.below hb
        have HK8 : Hid (KeepR w1 (w.heap.size + 1 + 1 + 1) w5) := HK7.out.below hb
        have HF8 : Hid (Row w5 F [.int .i64 m0.a, .int .i64 m0.b, .int .i64 m0.c]) := HF7.out.below hb
        clear hb HX7 HK7 HF7
        have g0 := HF8.out.cell 0 _ rfl
        have g1 := HF8.out.cell 1 _ rfl
        have g2 := HF8.out.cell 2 _ rfl
        have h0 := HF8.out.free 0
        have h1 := HF8.out.free 1
        have h2 := HF8.out.free 2
        cases hg : chG false v m0 with
        | none =>
          rw [hg] at HE6
          have hcv : chV false v m0 = .tuple #[.agg #[.int .i64 0, .int .i64 0, .int .i64 0], .bool false] := by rw [chV, hg]; rfl
          rw [hcv]
          have HN : Hid (chgR false v ns f u = none) := by show _ = _; rw [chgR, HTs.out, ← HE5.out, HE6.out]; rfl
          have HRR := HK8.out _ _ HR1.out (by omega)
          have r0 := HRR.cell 0 _ rfl
          have rf := HRR.free 0
          have hneR : w.heap.size + 1 + 1 ≠ F := by omega
          have B8 := HX8.out.grown
          clear hcv hg
          go_wp2_with fail
          refine bodyPost_ret (v := .tuple #[.agg #[.slice none 0 0], .bool false]) (by simp [results, Tryz.results56, go_sem, *]) rfl ⟨_, by rw [HN.out]; rfl, ?_, by go_grown⟩
          rw [HN.out]
          exact owns_nil _ _ _
        | some m =>
          rw [hg] at HE6
          have hcv : chV false v m0 = .tuple #[.agg #[.int .i64 m.a, .int .i64 m.b, .int .i64 m.c], .bool true] := by rw [chV, hg]; rfl
          rw [hcv]
          have HEq : Hid (chTo (chG false v) ns f u (ts.drop (j + 1)) (putN out ⟨t, m.a, m.b, m.c⟩) = chTo (chG false v) ns f u ts []) := by show _ = _; rw [← HE5.out]; exact HE6.out.symm
          clear hcv hg
          have HXw : Hid (Bx w (((w5.setCell ⟨F, 0, none⟩ (.int .i64 m.a)).setCell ⟨F, 1, none⟩ (.int .i64 m.b)).setCell ⟨F, 2, none⟩ (.int .i64 m.c)) B (w.heap.size + 1 + 1 + 1) vv out) := ((HX8.out.apart (by omega) hF (by omega)).apart (by omega) hF (by omega)).apart (by omega) hF (by omega)
          have HKw : Hid (KeepR w1 (w.heap.size + 1 + 1 + 1) (((w5.setCell ⟨F, 0, none⟩ (.int .i64 m.a)).setCell ⟨F, 1, none⟩ (.int .i64 m.b)).setCell ⟨F, 2, none⟩ (.int .i64 m.c))) := ((HK8.out.apart (by omega)).apart (by omega)).apart (by omega)
          have HFw : Hid (Row (((w5.setCell ⟨F, 0, none⟩ (.int .i64 m.a)).setCell ⟨F, 1, none⟩ (.int .i64 m.b)).setCell ⟨F, 2, none⟩ (.int .i64 m.c)) F [.int .i64 m.a, .int .i64 m.b, .int .i64 m.c]) := ((HF8.out.set 0 (by simp) (.int .i64 m.a)).set 1 (by simp) (.int .i64 m.b)).set 2 (by simp) (.int .i64 m.c)
          obtain ⟨a1, c1, hv1, _⟩ := HX8.out.form
          subst hv1
          have b0 := HX8.out.box.cell 0 _ rfl
          have hneO : w.heap.size + 1 + 1 + 1 ≠ F := by omega
          go_wp2_with fail
          generalize ((w5.setCell ⟨F, 0, none⟩ (.int .i64 m.a)).setCell ⟨F, 1, none⟩ (.int .i64 m.b)).setCell ⟨F, 2, none⟩ (.int .i64 m.c) = W at HXw HKw HFw
          clear g0 g1 g2 h0 h1 h2 b0 HX8 HK8 HF8
          have HSq : Hid (Sq W a1 (flat out)) := by
            obtain ⟨a', c', hv', hsq'⟩ := HXw.out.form
            cases hv'
            exact hsq'
          have b0 := HXw.out.box.cell 0 _ rfl
          have hsome := beh_some W
          have q0 := Beh.row HXw.out.box 0 _ rfl
          have q1 := Beh.row HFw.out 0 _ rfl
          have q2 := Beh.row HFw.out 1 _ rfl
          have q3 := Beh.row HFw.out 2 _ rfl
          by_cases hz : out.length = 0
          · have HPut : Hid (putN out ⟨t, m.a, m.b, m.c⟩ = out ++ [⟨t, m.a, m.b, m.c⟩]) := by
              show _ = _
              rw [List.length_eq_zero_iff.1 hz]
              rfl
            have hd0 : ((out.length : Int) == 0) = true := by simpa using hz
            clear hz
            refine wp_region_beh (by kernel_rfl) (by kernel_rfl) ?_
            repeat (go_big_quiet_step (fail))
            refine wpQuiet_nil ?_
            rintro ⟨W3, hb3⟩
            have HL3 : Hid (Below W.heap.size W W3) := hb3
            clear q0 q1 q2 q3 b0 hsome
            have HX3 : Hid (Bx w W3 B (w.heap.size + 1 + 1 + 1) (.slice a1 out.length c1) out) := HXw.out.below HL3.out
            have HK3 : Hid (KeepR w1 (w.heap.size + 1 + 1 + 1) W3) := HKw.out.below HL3.out
            have HF3 : Hid (Row W3 F [.int .i64 m.a, .int .i64 m.b, .int .i64 m.c]) := HFw.out.below HL3.out
            have b0 := HX3.out.box.cell 0 _ rfl
            have e0 := HF3.out.cell 0 _ rfl
            have e1 := HF3.out.cell 1 _ rfl
            have e2 := HF3.out.cell 2 _ rfl
            have HX4 : Hid (Bx w (W3.alloc (.cells #[.int .i64 t, .int .i64 m.a, .int .i64 m.b, .int .i64 m.c] 109)) B (w.heap.size + 1 + 1 + 1) (.slice a1 out.length c1) out) := HX3.out.below (low_alloc _ _)
            have HK4 : Hid (KeepR w1 (w.heap.size + 1 + 1 + 1) (W3.alloc (.cells #[.int .i64 t, .int .i64 m.a, .int .i64 m.b, .int .i64 m.c] 109))) := HK3.out.below (low_alloc _ _)
            have hle3 := HX3.out.le
            go_wp2_with (at_builtin; refine wpList_append_own_at _ rfl _ _ 42 rfl B 109 i0 (.agg #[.int .i64 0, .int .i64 0, .int .i64 0, .int .i64 0]) 4 32 Tryz.underlying42 hi hz0 hz1 hz2 rfl (by decide) _ _ _ rfl HX4.out.own ⟨W3.heap.size, 0, none⟩ 1 1 [.int .i64 t, .int .i64 m.a, .int .i64 m.b, .int .i64 m.c] rfl rfl ?c1 ?c2 ?c3 ?c4 ?c5 ?_)
            case c1 =>
              intro k u hk
              match k, hk with
              | 0, hk => simp at hk; subst hk; simp [Addr.add]
              | 1, hk => simp at hk; subst hk; simp [Addr.add]
              | 2, hk => simp at hk; subst hk; simp [Addr.add]
              | 3, hk => simp at hk; subst hk; simp [Addr.add]
              | k + 4, hk => simp at hk
            case c2 =>
              intro u hu
              simp only [List.mem_cons, List.not_mem_nil, or_false] at hu
              rcases hu with rfl | rfl | rfl | rfl <;> rfl
            case c3 => unfold maxLen; omega
            case c4 => omega
            case c5 => simp; omega
            intro v5 w5 hown5 hgrow5 _ hat5
            obtain ⟨a5, c5, hv5, _⟩ := (AnsP.of_owns hown5).form
            subst hv5
            obtain ⟨hbox5, hbx5, hrows5⟩ := HX4.out.add ⟨t, m.a, m.b, m.c⟩ hown5 hgrow5 (hat5.imp id (fun e => by rw [e]; simp [go_sem]))
            have HX5 : Hid (Bx w (w5.setCell ⟨w.heap.size + 1 + 1 + 1, 0, none⟩ (.slice a5 (out.length + 1) c5)) B (w.heap.size + 1 + 1 + 1) (.slice a5 (out.length + 1) c5) (out ++ [⟨t, m.a, m.b, m.c⟩])) := hbx5
            have HK5 : Hid (KeepR w1 (w.heap.size + 1 + 1 + 1) (w5.setCell ⟨w.heap.size + 1 + 1 + 1, 0, none⟩ (.slice a5 (out.length + 1) c5))) := fun b xs hr hne => hrows5 b xs (HK4.out b xs hr hne) (by have := hr.lt; omega) hne
            have d0 := hbox5.cell 0 _ rfl
            have df := hbox5.free 0
            have HEq5 : Hid (chTo (chG false v) ns f u (ts.drop (j + 1)) (out ++ [⟨t, m.a, m.b, m.c⟩]) = chTo (chG false v) ns f u ts []) := by show _ = _; rw [← HPut.out]; exact HEq.out
            clear hown5 hgrow5 hat5 hbox5 hbx5 hrows5 b0 e0 e1 e2
            go_wp2_with fail
            exact ⟨⟨j + 1, _, out ++ [⟨t, m.a, m.b, m.c⟩], by omega, by go_num, HX5.out, HK5.out, by simp; omega, HEq5.out⟩, by simp [intOf]; omega⟩
          · obtain ⟨k, hk⟩ : ∃ k, out.length = k + 1 := ⟨out.length - 1, by omega⟩
            have hkl : k < out.length := by omega
            have hE := List.getElem?_eq_getElem hkl
            have hlast : out.getLast? = some out[k] := by rw [List.getLast?_eq_getElem?, show out.length - 1 = k by omega]; exact hE
            generalize out[k] = l0 at hE hlast
            obtain ⟨p1, hp1, hcl⟩ := HSq.out.node k hkl
            clear hcl
            subst hp1
            obtain ⟨m0', m1', m2', m3'⟩ := Beh.node HSq.out hE
            have hd0 : ((out.length : Int) == 0) = false := by rw [beq_eq_false_iff_ne]; omega
            have hki : (out.length : Int) - 1 = (k : Int) := by omega
            have hk0 : (0 : Int) ≤ (k : Int) := by omega
            have hk1 : (k : Int) < (out.length : Int) := by omega
            clear hk hz
            cases hsv : sameV l0 ⟨t, m.a, m.b, m.c⟩
            · have HPut : Hid (putN out ⟨t, m.a, m.b, m.c⟩ = out ++ [⟨t, m.a, m.b, m.c⟩]) := by
                show _ = _
                unfold putN
                rw [hlast]
                simp [hsv]
              have hvq : ∀ Q : World, (Op.equalIn 10000 50 (.agg #[.int .i64 l0.a, .int .i64 l0.b, .int .i64 l0.c]) (.agg #[.int .i64 m.a, .int .i64 m.b, .int .i64 m.c])).run Tryz.prog Q = .ok false Q := fun Q => by rw [eq_vec, show (l0.a == m.a && (l0.b == m.b && l0.c == m.c)) = false from hsv]
              clear hsv hlast hE
              refine wp_region_beh (by kernel_rfl) (by kernel_rfl) ?_
              repeat (go_big_quiet_step (fail))
              refine wpQuiet_nil ?_
              rintro ⟨W3, hb3⟩
              have HL3 : Hid (Below W.heap.size W W3) := hb3
              clear m0' m1' m2' m3' hvq q0 q1 q2 q3 b0 hsome
              have HX3 : Hid (Bx w W3 B (w.heap.size + 1 + 1 + 1) (.slice (some p1) out.length c1) out) := HXw.out.below HL3.out
              have HK3 : Hid (KeepR w1 (w.heap.size + 1 + 1 + 1) W3) := HKw.out.below HL3.out
              have HF3 : Hid (Row W3 F [.int .i64 m.a, .int .i64 m.b, .int .i64 m.c]) := HFw.out.below HL3.out
              have b0 := HX3.out.box.cell 0 _ rfl
              have e0 := HF3.out.cell 0 _ rfl
              have e1 := HF3.out.cell 1 _ rfl
              have e2 := HF3.out.cell 2 _ rfl
              have HX4 : Hid (Bx w (W3.alloc (.cells #[.int .i64 t, .int .i64 m.a, .int .i64 m.b, .int .i64 m.c] 109)) B (w.heap.size + 1 + 1 + 1) (.slice (some p1) out.length c1) out) := HX3.out.below (low_alloc _ _)
              have HK4 : Hid (KeepR w1 (w.heap.size + 1 + 1 + 1) (W3.alloc (.cells #[.int .i64 t, .int .i64 m.a, .int .i64 m.b, .int .i64 m.c] 109))) := HK3.out.below (low_alloc _ _)
              have hle3 := HX3.out.le
              go_wp2_with (at_builtin; refine wpList_append_own_at _ rfl _ _ 42 rfl B 109 i0 (.agg #[.int .i64 0, .int .i64 0, .int .i64 0, .int .i64 0]) 4 32 Tryz.underlying42 hi hz0 hz1 hz2 rfl (by decide) _ _ _ rfl HX4.out.own ⟨W3.heap.size, 0, none⟩ 1 1 [.int .i64 t, .int .i64 m.a, .int .i64 m.b, .int .i64 m.c] rfl rfl ?c1 ?c2 ?c3 ?c4 ?c5 ?_)
              case c1 =>
                intro k u hk
                match k, hk with
                | 0, hk => simp at hk; subst hk; simp [Addr.add]
                | 1, hk => simp at hk; subst hk; simp [Addr.add]
                | 2, hk => simp at hk; subst hk; simp [Addr.add]
                | 3, hk => simp at hk; subst hk; simp [Addr.add]
                | k + 4, hk => simp at hk
              case c2 =>
                intro u hu
                simp only [List.mem_cons, List.not_mem_nil, or_false] at hu
                rcases hu with rfl | rfl | rfl | rfl <;> rfl
              case c3 => unfold maxLen; omega
              case c4 => omega
              case c5 => simp; omega
              intro v5 w5 hown5 hgrow5 _ hat5
              obtain ⟨a5, c5, hv5, _⟩ := (AnsP.of_owns hown5).form
              subst hv5
              obtain ⟨hbox5, hbx5, hrows5⟩ := HX4.out.add ⟨t, m.a, m.b, m.c⟩ hown5 hgrow5 (hat5.imp id (fun e => by rw [e]; simp [go_sem]))
              have HX5 : Hid (Bx w (w5.setCell ⟨w.heap.size + 1 + 1 + 1, 0, none⟩ (.slice a5 (out.length + 1) c5)) B (w.heap.size + 1 + 1 + 1) (.slice a5 (out.length + 1) c5) (out ++ [⟨t, m.a, m.b, m.c⟩])) := hbx5
              have HK5 : Hid (KeepR w1 (w.heap.size + 1 + 1 + 1) (w5.setCell ⟨w.heap.size + 1 + 1 + 1, 0, none⟩ (.slice a5 (out.length + 1) c5))) := fun b xs hr hne => hrows5 b xs (HK4.out b xs hr hne) (by have := hr.lt; omega) hne
              have d0 := hbox5.cell 0 _ rfl
              have df := hbox5.free 0
              have HEq5 : Hid (chTo (chG false v) ns f u (ts.drop (j + 1)) (out ++ [⟨t, m.a, m.b, m.c⟩]) = chTo (chG false v) ns f u ts []) := by show _ = _; rw [← HPut.out]; exact HEq.out
              clear hown5 hgrow5 hat5 hbox5 hbx5 hrows5 b0 e0 e1 e2
              go_wp2_with fail
              exact ⟨⟨j + 1, _, out ++ [⟨t, m.a, m.b, m.c⟩], by omega, by go_num, HX5.out, HK5.out, by simp; omega, HEq5.out⟩, by simp [intOf]; omega⟩
            · have HPut : Hid (putN out ⟨t, m.a, m.b, m.c⟩ = out) := by
                show _ = _
                unfold putN
                rw [hlast]
                simp [hsv]
              have hvq : ∀ Q : World, (Op.equalIn 10000 50 (.agg #[.int .i64 l0.a, .int .i64 l0.b, .int .i64 l0.c]) (.agg #[.int .i64 m.a, .int .i64 m.b, .int .i64 m.c])).run Tryz.prog Q = .ok true Q := fun Q => by rw [eq_vec, show (l0.a == m.a && (l0.b == m.b && l0.c == m.c)) = true from hsv]
              clear hsv hlast hE
              refine wp_region_beh (by kernel_rfl) (by kernel_rfl) ?_
              repeat (go_big_quiet_step (fail))
              refine wpQuiet_nil ?_
              rintro ⟨W3, hb3⟩
              have HL3 : Hid (Below W.heap.size W W3) := hb3
              clear m0' m1' m2' m3' hvq q0 q1 q2 q3 b0 hsome
              have HX5 : Hid (Bx w W3 B (w.heap.size + 1 + 1 + 1) (.slice (some p1) out.length c1) out) := HXw.out.below HL3.out
              have HK5 : Hid (KeepR w1 (w.heap.size + 1 + 1 + 1) W3) := HKw.out.below HL3.out
              have HEq5 : Hid (chTo (chG false v) ns f u (ts.drop (j + 1)) out = chTo (chG false v) ns f u ts []) := by have := HEq.out; rw [HPut.out] at this; exact this
              go_wp2_with fail
              exact ⟨⟨j + 1, _, out, by omega, by go_num, HX5.out, HK5.out, by omega, HEq5.out⟩, by simp [intOf]; omega⟩
      · have hspan2 : ¬ (f ≤ t ∧ t < u) := hspan
        rw [if_neg hspan] at HE6
        have HEq : Hid (chTo (chG false v) ns f u (ts.drop (j + 1)) (putN out ⟨t, m0.a, m0.b, m0.c⟩) = chTo (chG false v) ns f u ts []) := by show _ = _; rw [← HE5.out]; exact HE6.out.symm
        obtain ⟨a1, c1, hv1, _⟩ := HX6.out.form
        subst hv1
        have b0 := HX6.out.box.cell 0 _ rfl
        have hneO : w.heap.size + 1 + 1 + 1 ≠ w3.heap.size := by omega
        have hltO : w.heap.size + 1 + 1 + 1 < w3.heap.size := by omega
        have HXw := HX7
        have HKw := HK7
        have HFw := HF7
        clear HX7 HK7 HF7
        by_cases hs1 : f ≤ t
        case' pos => have hs2 : ¬ t < u := fun h => hspan2 ⟨hs1, h⟩
        all_goals
          clear hspan hspan2
          go_wp2_with fail
          generalize w3.alloc (.cells #[.int .i64 m0.a, .int .i64 m0.b, .int .i64 m0.c] 50) = W at HXw HKw HFw
          generalize w3.heap.size = F at *
          clear b0 HX6 HK6
          have HSq : Hid (Sq W a1 (flat out)) := by
            obtain ⟨a', c', hv', hsq'⟩ := HXw.out.form
            cases hv'
            exact hsq'
          have b0 := HXw.out.box.cell 0 _ rfl
          have hsome := beh_some W
          have q0 := Beh.row HXw.out.box 0 _ rfl
          have q1 := Beh.row HFw.out 0 _ rfl
          have q2 := Beh.row HFw.out 1 _ rfl
          have q3 := Beh.row HFw.out 2 _ rfl
          by_cases hz : out.length = 0
          · have HPut : Hid (putN out ⟨t, m0.a, m0.b, m0.c⟩ = out ++ [⟨t, m0.a, m0.b, m0.c⟩]) := by
              show _ = _
              rw [List.length_eq_zero_iff.1 hz]
              rfl
            have hd0 : ((out.length : Int) == 0) = true := by simpa using hz
            clear hz
            refine wp_region_beh (by kernel_rfl) (by kernel_rfl) ?_
            repeat (go_big_quiet_step (fail))
            refine wpQuiet_nil ?_
            rintro ⟨W3, hb3⟩
            have HL3 : Hid (Below W.heap.size W W3) := hb3
            clear q0 q1 q2 q3 b0 hsome
            have HX3 : Hid (Bx w W3 B (w.heap.size + 1 + 1 + 1) (.slice a1 out.length c1) out) := HXw.out.below HL3.out
            have HK3 : Hid (KeepR w1 (w.heap.size + 1 + 1 + 1) W3) := HKw.out.below HL3.out
            have HF3 : Hid (Row W3 F [.int .i64 m0.a, .int .i64 m0.b, .int .i64 m0.c]) := HFw.out.below HL3.out
            have b0 := HX3.out.box.cell 0 _ rfl
            have e0 := HF3.out.cell 0 _ rfl
            have e1 := HF3.out.cell 1 _ rfl
            have e2 := HF3.out.cell 2 _ rfl
            have HX4 : Hid (Bx w (W3.alloc (.cells #[.int .i64 t, .int .i64 m0.a, .int .i64 m0.b, .int .i64 m0.c] 109)) B (w.heap.size + 1 + 1 + 1) (.slice a1 out.length c1) out) := HX3.out.below (low_alloc _ _)
            have HK4 : Hid (KeepR w1 (w.heap.size + 1 + 1 + 1) (W3.alloc (.cells #[.int .i64 t, .int .i64 m0.a, .int .i64 m0.b, .int .i64 m0.c] 109))) := HK3.out.below (low_alloc _ _)
            have hle3 := HX3.out.le
            go_wp2_with (at_builtin; refine wpList_append_own_at _ rfl _ _ 42 rfl B 109 i0 (.agg #[.int .i64 0, .int .i64 0, .int .i64 0, .int .i64 0]) 4 32 Tryz.underlying42 hi hz0 hz1 hz2 rfl (by decide) _ _ _ rfl HX4.out.own ⟨W3.heap.size, 0, none⟩ 1 1 [.int .i64 t, .int .i64 m0.a, .int .i64 m0.b, .int .i64 m0.c] rfl rfl ?c1 ?c2 ?c3 ?c4 ?c5 ?_)
            case c1 =>
              intro k u hk
              match k, hk with
              | 0, hk => simp at hk; subst hk; simp [Addr.add]
              | 1, hk => simp at hk; subst hk; simp [Addr.add]
              | 2, hk => simp at hk; subst hk; simp [Addr.add]
              | 3, hk => simp at hk; subst hk; simp [Addr.add]
              | k + 4, hk => simp at hk
            case c2 =>
              intro u hu
              simp only [List.mem_cons, List.not_mem_nil, or_false] at hu
              rcases hu with rfl | rfl | rfl | rfl <;> rfl
            case c3 => unfold maxLen; omega
            case c4 => omega
            case c5 => simp; omega
            intro v5 w5 hown5 hgrow5 _ hat5
            obtain ⟨a5, c5, hv5, _⟩ := (AnsP.of_owns hown5).form
            subst hv5
            obtain ⟨hbox5, hbx5, hrows5⟩ := HX4.out.add ⟨t, m0.a, m0.b, m0.c⟩ hown5 hgrow5 (hat5.imp id (fun e => by rw [e]; simp [go_sem]))
            have HX5 : Hid (Bx w (w5.setCell ⟨w.heap.size + 1 + 1 + 1, 0, none⟩ (.slice a5 (out.length + 1) c5)) B (w.heap.size + 1 + 1 + 1) (.slice a5 (out.length + 1) c5) (out ++ [⟨t, m0.a, m0.b, m0.c⟩])) := hbx5
            have HK5 : Hid (KeepR w1 (w.heap.size + 1 + 1 + 1) (w5.setCell ⟨w.heap.size + 1 + 1 + 1, 0, none⟩ (.slice a5 (out.length + 1) c5))) := fun b xs hr hne => hrows5 b xs (HK4.out b xs hr hne) (by have := hr.lt; omega) hne
            have d0 := hbox5.cell 0 _ rfl
            have df := hbox5.free 0
            have HEq5 : Hid (chTo (chG false v) ns f u (ts.drop (j + 1)) (out ++ [⟨t, m0.a, m0.b, m0.c⟩]) = chTo (chG false v) ns f u ts []) := by show _ = _; rw [← HPut.out]; exact HEq.out
            clear hown5 hgrow5 hat5 hbox5 hbx5 hrows5 b0 e0 e1 e2
            go_wp2_with fail
            exact ⟨⟨j + 1, _, out ++ [⟨t, m0.a, m0.b, m0.c⟩], by omega, by go_num, HX5.out, HK5.out, by simp; omega, HEq5.out⟩, by simp [intOf]; omega⟩
          · obtain ⟨k, hk⟩ : ∃ k, out.length = k + 1 := ⟨out.length - 1, by omega⟩
            have hkl : k < out.length := by omega
            have hE := List.getElem?_eq_getElem hkl
            have hlast : out.getLast? = some out[k] := by rw [List.getLast?_eq_getElem?, show out.length - 1 = k by omega]; exact hE
            generalize out[k] = l0 at hE hlast
            obtain ⟨p1, hp1, hcl⟩ := HSq.out.node k hkl
            clear hcl
            subst hp1
            obtain ⟨m0', m1', m2', m3'⟩ := Beh.node HSq.out hE
            have hd0 : ((out.length : Int) == 0) = false := by rw [beq_eq_false_iff_ne]; omega
            have hki : (out.length : Int) - 1 = (k : Int) := by omega
            have hk0 : (0 : Int) ≤ (k : Int) := by omega
            have hk1 : (k : Int) < (out.length : Int) := by omega
            clear hk hz
            cases hsv : sameV l0 ⟨t, m0.a, m0.b, m0.c⟩
            · have HPut : Hid (putN out ⟨t, m0.a, m0.b, m0.c⟩ = out ++ [⟨t, m0.a, m0.b, m0.c⟩]) := by
                show _ = _
                unfold putN
                rw [hlast]
                simp [hsv]
              have hvq : ∀ Q : World, (Op.equalIn 10000 50 (.agg #[.int .i64 l0.a, .int .i64 l0.b, .int .i64 l0.c]) (.agg #[.int .i64 m0.a, .int .i64 m0.b, .int .i64 m0.c])).run Tryz.prog Q = .ok false Q := fun Q => by rw [eq_vec, show (l0.a == m0.a && (l0.b == m0.b && l0.c == m0.c)) = false from hsv]
              clear hsv hlast hE
              refine wp_region_beh (by kernel_rfl) (by kernel_rfl) ?_
              repeat (go_big_quiet_step (fail))
              refine wpQuiet_nil ?_
              rintro ⟨W3, hb3⟩
              have HL3 : Hid (Below W.heap.size W W3) := hb3
              clear m0' m1' m2' m3' hvq q0 q1 q2 q3 b0 hsome
              have HX3 : Hid (Bx w W3 B (w.heap.size + 1 + 1 + 1) (.slice (some p1) out.length c1) out) := HXw.out.below HL3.out
              have HK3 : Hid (KeepR w1 (w.heap.size + 1 + 1 + 1) W3) := HKw.out.below HL3.out
              have HF3 : Hid (Row W3 F [.int .i64 m0.a, .int .i64 m0.b, .int .i64 m0.c]) := HFw.out.below HL3.out
              have b0 := HX3.out.box.cell 0 _ rfl
              have e0 := HF3.out.cell 0 _ rfl
              have e1 := HF3.out.cell 1 _ rfl
              have e2 := HF3.out.cell 2 _ rfl
              have HX4 : Hid (Bx w (W3.alloc (.cells #[.int .i64 t, .int .i64 m0.a, .int .i64 m0.b, .int .i64 m0.c] 109)) B (w.heap.size + 1 + 1 + 1) (.slice (some p1) out.length c1) out) := HX3.out.below (low_alloc _ _)
              have HK4 : Hid (KeepR w1 (w.heap.size + 1 + 1 + 1) (W3.alloc (.cells #[.int .i64 t, .int .i64 m0.a, .int .i64 m0.b, .int .i64 m0.c] 109))) := HK3.out.below (low_alloc _ _)
              have hle3 := HX3.out.le
              go_wp2_with (at_builtin; refine wpList_append_own_at _ rfl _ _ 42 rfl B 109 i0 (.agg #[.int .i64 0, .int .i64 0, .int .i64 0, .int .i64 0]) 4 32 Tryz.underlying42 hi hz0 hz1 hz2 rfl (by decide) _ _ _ rfl HX4.out.own ⟨W3.heap.size, 0, none⟩ 1 1 [.int .i64 t, .int .i64 m0.a, .int .i64 m0.b, .int .i64 m0.c] rfl rfl ?c1 ?c2 ?c3 ?c4 ?c5 ?_)
              case c1 =>
                intro k u hk
                match k, hk with
                | 0, hk => simp at hk; subst hk; simp [Addr.add]
                | 1, hk => simp at hk; subst hk; simp [Addr.add]
                | 2, hk => simp at hk; subst hk; simp [Addr.add]
                | 3, hk => simp at hk; subst hk; simp [Addr.add]
                | k + 4, hk => simp at hk
              case c2 =>
                intro u hu
                simp only [List.mem_cons, List.not_mem_nil, or_false] at hu
                rcases hu with rfl | rfl | rfl | rfl <;> rfl
              case c3 => unfold maxLen; omega
              case c4 => omega
              case c5 => simp; omega
              intro v5 w5 hown5 hgrow5 _ hat5
              obtain ⟨a5, c5, hv5, _⟩ := (AnsP.of_owns hown5).form
              subst hv5
              obtain ⟨hbox5, hbx5, hrows5⟩ := HX4.out.add ⟨t, m0.a, m0.b, m0.c⟩ hown5 hgrow5 (hat5.imp id (fun e => by rw [e]; simp [go_sem]))
              have HX5 : Hid (Bx w (w5.setCell ⟨w.heap.size + 1 + 1 + 1, 0, none⟩ (.slice a5 (out.length + 1) c5)) B (w.heap.size + 1 + 1 + 1) (.slice a5 (out.length + 1) c5) (out ++ [⟨t, m0.a, m0.b, m0.c⟩])) := hbx5
              have HK5 : Hid (KeepR w1 (w.heap.size + 1 + 1 + 1) (w5.setCell ⟨w.heap.size + 1 + 1 + 1, 0, none⟩ (.slice a5 (out.length + 1) c5))) := fun b xs hr hne => hrows5 b xs (HK4.out b xs hr hne) (by have := hr.lt; omega) hne
              have d0 := hbox5.cell 0 _ rfl
              have df := hbox5.free 0
              have HEq5 : Hid (chTo (chG false v) ns f u (ts.drop (j + 1)) (out ++ [⟨t, m0.a, m0.b, m0.c⟩]) = chTo (chG false v) ns f u ts []) := by show _ = _; rw [← HPut.out]; exact HEq.out
              clear hown5 hgrow5 hat5 hbox5 hbx5 hrows5 b0 e0 e1 e2
              go_wp2_with fail
              exact ⟨⟨j + 1, _, out ++ [⟨t, m0.a, m0.b, m0.c⟩], by omega, by go_num, HX5.out, HK5.out, by simp; omega, HEq5.out⟩, by simp [intOf]; omega⟩
            · have HPut : Hid (putN out ⟨t, m0.a, m0.b, m0.c⟩ = out) := by
                show _ = _
                unfold putN
                rw [hlast]
                simp [hsv]
              have hvq : ∀ Q : World, (Op.equalIn 10000 50 (.agg #[.int .i64 l0.a, .int .i64 l0.b, .int .i64 l0.c]) (.agg #[.int .i64 m0.a, .int .i64 m0.b, .int .i64 m0.c])).run Tryz.prog Q = .ok true Q := fun Q => by rw [eq_vec, show (l0.a == m0.a && (l0.b == m0.b && l0.c == m0.c)) = true from hsv]
              clear hsv hlast hE
              refine wp_region_beh (by kernel_rfl) (by kernel_rfl) ?_
              repeat (go_big_quiet_step (fail))
              refine wpQuiet_nil ?_
              rintro ⟨W3, hb3⟩
              have HL3 : Hid (Below W.heap.size W W3) := hb3
              clear m0' m1' m2' m3' hvq q0 q1 q2 q3 b0 hsome
              have HX5 : Hid (Bx w W3 B (w.heap.size + 1 + 1 + 1) (.slice (some p1) out.length c1) out) := HXw.out.below HL3.out
              have HK5 : Hid (KeepR w1 (w.heap.size + 1 + 1 + 1) W3) := HKw.out.below HL3.out
              have HEq5 : Hid (chTo (chG false v) ns f u (ts.drop (j + 1)) out = chTo (chG false v) ns f u ts []) := by have := HEq.out; rw [HPut.out] at this; exact this
              go_wp2_with fail
              exact ⟨⟨j + 1, _, out, by omega, by go_num, HX5.out, HK5.out, by omega, HEq5.out⟩, by simp [intOf]; omega⟩
    · have HE7 : Hid (chTo (chG false v) ns f u ts [] = some out) := by
        show _ = _
        rw [← HE5.out, List.drop_eq_nil_of_le (by omega)]
        rfl
      have HOk : Hid (POk out ↔ out.length ≤ 200) := by
        have h7 := HE7.out
        rw [← HTs.out] at h7
        exact ch_ok (fun m m' _ hm => ch_vok false v m m' hm) HY.out HS.out h7
      obtain ⟨a1, c1, hv1, hsq1⟩ := HX5.out.form
      subst hv1
      have HSq : Hid (Sq wr a1 (flat out)) := hsq1
      have b0 := HX5.out.box.cell 0 _ rfl
      clear hsq1 HP5
      go_wp2_with fail
      refine (specProfOk_c a1 c1 out _ HSq.out).mono ?_
      rintro e w3 ⟨k, rfl, hk, hb⟩
      have HX6 : Hid (Bx w w3 B (w.heap.size + 1 + 1 + 1) (.slice a1 out.length c1) out) := HX5.out.below hb
      have HK6 : Hid (KeepR w1 (w.heap.size + 1 + 1 + 1) w3) := HK5.out.below hb
      have HRR := HK6.out _ _ HR1.out (by omega)
      have r0 := HRR.cell 0 _ rfl
      have rf := HRR.free 0
      have b1 := HX6.out.box.cell 0 _ rfl
      have B8 := HX6.out.grown
      clear hb b0 HRR
      cases k
      · have HN : Hid (chgR false v ns f u = none) := by
          show _ = _
          rw [chgR, HTs.out, HE7.out]
          simp only [Option.filter]
          rw [if_neg]
          intro h
          have := hk.2 (HOk.out.2 (of_decide_eq_true h))
          cases this
        clear hk
        go_wp2_with fail
        refine bodyPost_ret (v := .tuple #[.agg #[.slice none 0 0], .bool false]) (by simp [results, Tryz.results56, go_sem, *]) rfl ⟨_, by rw [HN.out]; rfl, ?_, by go_grown⟩
        rw [HN.out]
        exact owns_nil _ _ _
      · have HN : Hid (chgR false v ns f u = some out) := by
          show _ = _
          rw [chgR, HTs.out, HE7.out]
          simp only [Option.filter]
          rw [if_pos (decide_eq_true (HOk.out.1 (hk.1 rfl)))]
        clear hk
        have HAns : Hid ((w3.setCell ⟨w.heap.size + 1 + 1, 0, none⟩ (.slice a1 out.length c1)).ownsRow B 109 4 (.slice a1 out.length c1) out.length (flat out)) := owns_set HX6.out.own (by omega)
        have hwB := HX6.out.low
        have HBf : Hid (Below w.heap.size w (w3.setCell ⟨w.heap.size + 1 + 1, 0, none⟩ (.slice a1 out.length c1))) := B8.setCell (p := ⟨w.heap.size + 1 + 1, 0, none⟩) (by show w.heap.size ≤ w.heap.size + 1 + 1; omega) _
        go_wp2_with fail
        refine bodyPost_ret (v := .tuple #[.agg #[.slice a1 out.length c1], .bool true]) (by simp [results, Tryz.results56, go_sem, *]) rfl ⟨_, by rw [HN.out]; rfl, ?_, HBf.out⟩
        rw [HN.out]
        exact owns_mono HAns.out (by omega)
end Go.Proofs.YtmpjebkjopfejaaGreat
