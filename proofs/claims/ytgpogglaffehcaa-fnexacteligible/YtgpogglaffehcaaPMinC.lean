/- ProfMin: the program. -/
import Derived.Test.YtgpogglaffehcaaPMinB
import Derived.Deep.RegionWith
import Derived.Deep.DeepCutAuto
namespace Go.Proofs.Ytgpogglaffehcaa
open Go.ChangeShapes Go.WideShapes Go.ChangeAt Go.RowKit

theorem add_add' (p : Addr) (m k : Nat) : (p.add m).add k = p.add (m + k) := by
  unfold Addr.add
  by_cases hk : k = 0
  · subst hk; simp
  · by_cases hm : m = 0
    · subst hm; simp [hk]
    · simp [hk, hm, Nat.add_assoc]

theorem flat_drop (s : Nat) : ∀ (ns : List Nd), flat (ns.drop s) = (flat ns).drop (s * 4) := by
  induction s with
  | zero => intro ns; simp
  | succ s ih =>
    intro ns
    cases ns with
    | nil => simp [flat]
    | cons n r =>
      rw [List.drop_succ_cons, ih r]
      simp only [flat, List.flatMap_cons]
      have e : (s + 1) * 4 = n.cells.length + s * 4 := by
        have : n.cells.length = 4 := rfl
        omega
      rw [e, List.drop_append, List.drop_eq_nil_of_le (Nat.le_add_right _ _), List.nil_append, Nat.add_sub_cancel_left]

theorem Sq.drop {w : World} {p : Addr} {xs : List Nd} (h : Sq w (some p) (flat xs)) (s : Nat) : Sq w (some (p.add (s * 4))) (flat (xs.drop s)) :=
  ⟨fun i u hu => by
    rw [flat_drop, List.getElem?_drop] at hu
    obtain ⟨q, hq, hb, hc⟩ := h.cell _ _ hu
    cases hq
    exact ⟨_, rfl, by rw [block_add]; exact hb, by rw [add_add']; exact hc⟩⟩

theorem StepAt.one {ns : List Nd} {t : Int} {s s' : Nat} (h : StepAt ns t s) (_hr : Rising ns) (h' : StepAt ns t s') : s = s' := by
  obtain ⟨n, hn, hle, hlt⟩ := h
  obtain ⟨m, hm, hle', hlt'⟩ := h'
  rcases Nat.lt_trichotomy s s' with h | h | h
  · have := hlt s' m h hm; omega
  · exact h
  · have := hlt' s n h hn; omega

set_option maxHeartbeats 2000000 in
theorem implProfMin_bad (b : Option Addr) (d : Nat) (ns : List Nd) (f t : Int) (w : World) (h : Sq w b (flat ns)) (hbad : ¬ POk ns) :
    Calls Try.prog 21 #[.agg #[.slice b ns.length d], .int .i64 f, .int .i64 t] w fun e w' => e = .returned (.tuple #[.agg #[.int .i64 (minR ns f t).a, .int .i64 (minR ns f t).b, .int .i64 (minR ns f t).c], .bool (minK ns f t)]) ∧ Below w.heap.size w w' := by
  have H : Hid (Sq w b (flat ns)) := h
  clear h
  go_enter Try.func21, Try.ntmps21
  go_wp2_with fail
  generalize hV : ((w.alloc (.cells #[.slice b ns.length d] 25)).alloc (.cells #[.int .i64 0, .int .i64 0, .int .i64 0] 27)) = V
  have HA : Hid (Row V w.heap.size [.slice b ns.length d]) := by subst hV; exact (row_fresh w [.slice b ns.length d] 25).below (low_alloc _ _)
  have HR : Hid (Row V (w.heap.size + 1) [.int .i64 0, .int .i64 0, .int .i64 0]) := by
    subst hV
    have h := row_fresh (w.alloc (.cells #[.slice b ns.length d] 25)) [.int .i64 0, .int .i64 0, .int .i64 0] 27
    rw [show (w.alloc (.cells #[.slice b ns.length d] 25)).heap.size = w.heap.size + 1 by simp [go_sem]] at h
    exact h
  have HV : Hid (Below w.heap.size w V) := by subst hV; exact behind_alloc (low_alloc _ _) _
  clear hV
  refine (implProfOk_c b d ns _ (H.out.below HV.out)).mono ?_
  rintro e w1 ⟨k, rfl, hk, hb⟩
  have HB1 : Hid (Below w.heap.size w w1) := below_then HV.out hb
  have HS1 : Hid (Sq w1 b (flat ns)) := (H.out.below HV.out).below hb
  have HR1 : Hid (Row w1 (w.heap.size + 1) [.int .i64 0, .int .i64 0, .int .i64 0]) := HR.out.below hb
  have HA1 : Hid (Row w1 w.heap.size [.slice b ns.length d]) := HA.out.below hb
  have HK : Hid (k = true ↔ POk ns) := hk
  clear hb hk HA HR HV
  cases k
  · have HN : Hid (minK ns f t = false ∧ minR ns f t = nd0) := minK_no (fun t => by have := HK.out.2 t; cases this)
    clear HK
    have r0 := HR1.out.cell 0 _ rfl; have r1 := HR1.out.cell 1 _ rfl; have r2 := HR1.out.cell 2 _ rfl; have f0 := HR1.out.free 0; have f1 := HR1.out.free 1; have f2 := HR1.out.free 2
    have B8 := HB1.out
    go_wp2_with fail
    exact bodyPost_ret (v := .tuple #[.agg #[.int .i64 0, .int .i64 0, .int .i64 0], .bool false]) (by simp [results, Try.results21, go_sem, *]) rfl ⟨by rw [HN.out.1, HN.out.2]; rfl, by go_grown⟩
  · exact absurd (HK.out.1 rfl) hbad

set_option maxHeartbeats 2000000 in
theorem implProfMin_span (b : Option Addr) (d : Nat) (ns : List Nd) (f t : Int) (w : World) (h : Sq w b (flat ns)) (HY0 : POk ns) (hsp : spanB f t = false) :
    Calls Try.prog 21 #[.agg #[.slice b ns.length d], .int .i64 f, .int .i64 t] w fun e w' => e = .returned (.tuple #[.agg #[.int .i64 (minR ns f t).a, .int .i64 (minR ns f t).b, .int .i64 (minR ns f t).c], .bool (minK ns f t)]) ∧ Below w.heap.size w w' := by
  have H : Hid (Sq w b (flat ns)) := h
  clear h
  go_enter Try.func21, Try.ntmps21
  go_wp2_with fail
  generalize hV : ((w.alloc (.cells #[.slice b ns.length d] 25)).alloc (.cells #[.int .i64 0, .int .i64 0, .int .i64 0] 27)) = V
  have HA : Hid (Row V w.heap.size [.slice b ns.length d]) := by subst hV; exact (row_fresh w [.slice b ns.length d] 25).below (low_alloc _ _)
  have HR : Hid (Row V (w.heap.size + 1) [.int .i64 0, .int .i64 0, .int .i64 0]) := by
    subst hV
    have h := row_fresh (w.alloc (.cells #[.slice b ns.length d] 25)) [.int .i64 0, .int .i64 0, .int .i64 0] 27
    rw [show (w.alloc (.cells #[.slice b ns.length d] 25)).heap.size = w.heap.size + 1 by simp [go_sem]] at h
    exact h
  have HV : Hid (Below w.heap.size w V) := by subst hV; exact behind_alloc (low_alloc _ _) _
  clear hV
  refine (implProfOk_c b d ns _ (H.out.below HV.out)).mono ?_
  rintro e w1 ⟨k, rfl, hk, hb⟩
  have HB1 : Hid (Below w.heap.size w w1) := below_then HV.out hb
  have HS1 : Hid (Sq w1 b (flat ns)) := (H.out.below HV.out).below hb
  have HR1 : Hid (Row w1 (w.heap.size + 1) [.int .i64 0, .int .i64 0, .int .i64 0]) := HR.out.below hb
  have HA1 : Hid (Row w1 w.heap.size [.slice b ns.length d]) := HA.out.below hb
  have HK : Hid (k = true ↔ POk ns) := hk
  clear hb hk HA HR HV
  cases k
  · exact absurd (HK.out.2 HY0) (by simp)
  · have HY : Hid (POk ns) := HK.out.1 rfl
    have hfw := HY.out.few
    clear HK
    go_wp2_with fail
    refine (spanOk_c f t _).mono ?_
    rintro e w2 ⟨rfl, rfl⟩
    · have HN : Hid (minK ns f t = false ∧ minR ns f t = nd0) := minK_span hsp
      rw [hsp]
      clear hsp
      have r0 := HR1.out.cell 0 _ rfl; have r1 := HR1.out.cell 1 _ rfl; have r2 := HR1.out.cell 2 _ rfl; have f0 := HR1.out.free 0; have f1 := HR1.out.free 1; have f2 := HR1.out.free 2
      have B8 := HB1.out
      go_wp2_with fail
      exact bodyPost_ret (v := .tuple #[.agg #[.int .i64 0, .int .i64 0, .int .i64 0], .bool false]) (by simp [results, Try.results21, go_sem, *]) rfl ⟨by rw [HN.out.1, HN.out.2]; rfl, by go_grown⟩

set_option maxHeartbeats 2000000 in
theorem implProfMin_one (b : Option Addr) (d : Nat) (ns : List Nd) (f t : Int) (hd : ns.length ≤ d) (w : World) (h : Sq w b (flat ns)) (HY0 : POk ns) (hsp : spanB f t = true) (s0 : Nat) (hs0 : StepAt ns f s0) (hdd0 : d - s0 = 1) :
    Calls Try.prog 21 #[.agg #[.slice b ns.length d], .int .i64 f, .int .i64 t] w fun e w' => e = .returned (.tuple #[.agg #[.int .i64 (minR ns f t).a, .int .i64 (minR ns f t).b, .int .i64 (minR ns f t).c], .bool (minK ns f t)]) ∧ Below w.heap.size w w' := by
  have HS0 : Hid (StepAt ns f s0) := hs0
  have hdd : Hid (d - s0 = 1) := hdd0
  clear hs0 hdd0
  have H : Hid (Sq w b (flat ns)) := h
  clear h
  go_enter Try.func21, Try.ntmps21
  go_wp2_with fail
  generalize hV : ((w.alloc (.cells #[.slice b ns.length d] 25)).alloc (.cells #[.int .i64 0, .int .i64 0, .int .i64 0] 27)) = V
  have HA : Hid (Row V w.heap.size [.slice b ns.length d]) := by subst hV; exact (row_fresh w [.slice b ns.length d] 25).below (low_alloc _ _)
  have HR : Hid (Row V (w.heap.size + 1) [.int .i64 0, .int .i64 0, .int .i64 0]) := by
    subst hV
    have h := row_fresh (w.alloc (.cells #[.slice b ns.length d] 25)) [.int .i64 0, .int .i64 0, .int .i64 0] 27
    rw [show (w.alloc (.cells #[.slice b ns.length d] 25)).heap.size = w.heap.size + 1 by simp [go_sem]] at h
    exact h
  have HV : Hid (Below w.heap.size w V) := by subst hV; exact behind_alloc (low_alloc _ _) _
  clear hV
  refine (implProfOk_c b d ns _ (H.out.below HV.out)).mono ?_
  rintro e w1 ⟨k, rfl, hk, hb⟩
  have HB1 : Hid (Below w.heap.size w w1) := below_then HV.out hb
  have HS1 : Hid (Sq w1 b (flat ns)) := (H.out.below HV.out).below hb
  have HR1 : Hid (Row w1 (w.heap.size + 1) [.int .i64 0, .int .i64 0, .int .i64 0]) := HR.out.below hb
  have HA1 : Hid (Row w1 w.heap.size [.slice b ns.length d]) := HA.out.below hb
  have HK : Hid (k = true ↔ POk ns) := hk
  clear hb hk HA HR HV
  cases k
  · exact absurd (HK.out.2 HY0) (by simp)
  · have HY : Hid (POk ns) := HK.out.1 rfl
    have hfw := HY.out.few
    clear HK
    go_wp2_with fail
    refine (spanOk_c f t _).mono ?_
    rintro e w2 ⟨rfl, rfl⟩
    · rw [hsp]
      have HN : Hid (minK ns f t = true ∧ minR ns f t = minTo ns f t ns.length) := minK_yes HY.out hsp
      have hf0 : 0 ≤ f := (span_iff.1 hsp).1.1
      clear hsp
      have h1 := HY.out.one
      obtain ⟨p, hpb, _⟩ := HS1.out.node 0 h1
      subst hpb
      have a0 := HA1.out.cell 0 _ rfl
      have HD := low_drew w2
      have HS2 : Hid (Sq w2.drew (some p) (flat ns)) := HS1.out.below HD
      go_wp2_with fail
      go_cut [8] (fun u wc => ∃ s : Nat, u = .slice (some (p.add (s * 4))) (ns.length - s) (d - s) ∧ s < ns.length ∧ StepAt ns f s ∧ Below w2.heap.size w2 wc)
      case first =>
        go_region_with (go_at_call 71; refine (step_c (some p) d ns f HY.out hf0 w2.drew HS2.out).mono ?_; rintro e w3 ⟨s, rfl, hs, hst, hb⟩; have HSt : Hid (StepAt ns f s) := hst; have HB3 : Hid (Below w2.heap.size w2 w3) := below_then HD hb; have t1 := (HA1.out.below HB3.out).cell 0 _ rfl; have hs0 : (0 : Int) ≤ (s : Int) := (by omega); have hs1 : (s : Int) ≤ (ns.length : Int) := (by omega); clear hb hst)
        all_goals
          go_wp2_with fail
          go_meet
          case rel => exact ⟨s, rfl, hs, HSt.out, HB3.out⟩
      case rest =>
      obtain ⟨s, rfl, hs, hst, hb⟩ := hcut
      obtain rfl : s = s0 := hst.one HY.out.rising HS0.out
      have HSt : Hid (StepAt ns f s) := hst
      have hL : (ns.drop s).length = ns.length - s := List.length_drop
      have HQ : Hid (Sq wc (some (p.add (s * 4))) (flat (ns.drop s))) := (HS1.out.below hb).drop s
      have HW : Hid (Sq w (some (p.add (s * 4))) (flat (ns.drop s))) := H.out.drop s
      have HBc : Hid (Below w.heap.size w wc) := below_then HB1.out hb
      have HRc : Hid (Row wc (w.heap.size + 1) [.int .i64 0, .int .i64 0, .int .i64 0]) := HR1.out.below hb
      have hRl := HRc.out.lt
      have hcap : (ns.drop s).length ≤ d - s := by omega
      have hne : 0 < (ns.drop s).length := by omega
      have HX0 : Hid ((ns.drop s)[0]? = ns[s]?) := by show _ = _; rw [List.getElem?_drop, Nat.add_zero]
      have HDr : Hid ((ns.drop s).drop 1 = ns.drop (s + 1)) := by show _ = _; rw [List.drop_drop]
      rw [← hL]
      generalize p.add (s * 4) = q at HQ HW
      have hD := hdd.out
      clear hdd
      generalize d - s = D at hcap hD
      generalize hrs : ns.drop s = rs at *
      have HL : Hid (rs.length = ns.length - s) := by show _ = _; exact hL
      clear hL hb hst hrs HS1 HR1 HA1 HB1 HS2 HD a0
      obtain ⟨q', hqq, c0, c1, c2, c3⟩ := HQ.out.node 0 hne
      cases hqq
      have hE0 : rs[0]? = some rs[0] := List.getElem?_eq_getElem hne
      rw [HX0.out] at hE0
      have HM0 : Hid (minTo ns f t (s + 1) = rs[0]) := by show _ = _; rw [min_first HY.out.rising HSt.out]; exact HSt.out.at hE0
      clear hE0
      generalize rs[0] = n0 at c0 c1 c2 c3 HM0
      rw [show q.add (0 * 4) = q from rfl] at c0 c1 c2 c3
      have hn0 : (0 : Int) < (rs.length : Int) := by omega
      have hn1 : (1 : Int) ≤ (rs.length : Int) := by omega
      have hl1 : (ns.drop (s + 1)).length = rs.length - 1 := by rw [← HDr.out, List.length_drop]
      have HW1 : Hid (Sq w (some (q.add (1 * 4))) (flat (ns.drop (s + 1)))) := by rw [← HDr.out]; exact HW.out.drop 1
      · subst hD
        have hr1 : rs.length = 1 := by omega
        have HE : Hid (minTo ns f t (s + 1) = minTo ns f t ns.length) := by
          show _ = _
          have := HL.out
          congr 1
          omega
        clear hr1
        go_wp2_with fail
        have HB4 : Hid (Below w.heap.size w (wc.alloc (.cells #[.int .i64 n0.a, .int .i64 n0.b, .int .i64 n0.c] 27))) := behind_alloc HBc.out _
        have HR4 : Hid (Row (wc.alloc (.cells #[.int .i64 n0.a, .int .i64 n0.b, .int .i64 n0.c] 27)) (w.heap.size + 1) [.int .i64 0, .int .i64 0, .int .i64 0]) := HRc.out.below (low_alloc _ _)
        have HO4 : Hid (Row (wc.alloc (.cells #[.int .i64 n0.a, .int .i64 n0.b, .int .i64 n0.c] 27)) wc.heap.size [.int .i64 n0.a, .int .i64 n0.b, .int .i64 n0.c]) := row_fresh wc [.int .i64 n0.a, .int .i64 n0.b, .int .i64 n0.c] 27
        generalize wc.alloc (.cells #[.int .i64 n0.a, .int .i64 n0.b, .int .i64 n0.c] 27) = w4 at HB4 HR4 HO4
        have hneO : w.heap.size + 1 ≠ wc.heap.size := by omega
        have hwO : w.heap.size ≤ wc.heap.size := by omega
        clear HQ HBc HRc hRl c0 c1 c2 c3
        generalize wc.heap.size = O at *
        rw [← HM0.out] at HO4
        go_loopw [35] (fun i wr => i = .int .i64 0 ∧ Row wr (w.heap.size + 1) [.int .i64 0, .int .i64 0, .int .i64 0] ∧ Row wr O [.int .i64 (minTo ns f t (s + 1)).a, .int .i64 (minTo ns f t (s + 1)).b, .int .i64 (minTo ns f t (s + 1)).c] ∧ Below w.heap.size w wr) (fun i _ => 0)
        case atStart => exact ⟨rfl, HR4.out, HO4.out, HB4.out⟩
        case round =>
          obtain ⟨rfl, hr, ho, hb⟩ := hrel
          have HR5 : Hid (Row wr (w.heap.size + 1) [.int .i64 0, .int .i64 0, .int .i64 0]) := hr
          have HO5 : Hid (Row wr O [.int .i64 (minTo ns f t (s + 1)).a, .int .i64 (minTo ns f t (s + 1)).b, .int .i64 (minTo ns f t (s + 1)).c]) := ho
          have HB5 : Hid (Below w.heap.size w wr) := hb
          have hOl := ho.lt
          clear hr ho hb HR4 HO4 HB4
          rw [HE.out] at HO5
          have r0 := HR5.out.cell 0 _ rfl
          have r1 := HR5.out.cell 1 _ rfl
          have r2 := HR5.out.cell 2 _ rfl
          have f0 := HR5.out.free 0
          have f1 := HR5.out.free 1
          have f2 := HR5.out.free 2
          have o0 := HO5.out.cell 0 _ rfl
          have o1 := HO5.out.cell 1 _ rfl
          have o2 := HO5.out.cell 2 _ rfl
          have B8 := HB5.out
          go_wp2_with fail
          exact bodyPost_ret (v := .tuple #[.agg #[.int .i64 (minTo ns f t ns.length).a, .int .i64 (minTo ns f t ns.length).b, .int .i64 (minTo ns f t ns.length).c], .bool true]) (by simp [results, Try.results21, go_sem, *]) rfl ⟨by rw [HN.out.1, HN.out.2], by go_grown⟩

set_option maxHeartbeats 2000000 in
theorem implProfMin_main (b : Option Addr) (d : Nat) (ns : List Nd) (f t : Int) (hd : ns.length ≤ d) (w : World) (h : Sq w b (flat ns)) (HY0 : POk ns) (hsp : spanB f t = true) (s0 : Nat) (hs0 : StepAt ns f s0) (hdd0 : d - s0 ≠ 1) :
    Calls Try.prog 21 #[.agg #[.slice b ns.length d], .int .i64 f, .int .i64 t] w fun e w' => e = .returned (.tuple #[.agg #[.int .i64 (minR ns f t).a, .int .i64 (minR ns f t).b, .int .i64 (minR ns f t).c], .bool (minK ns f t)]) ∧ Below w.heap.size w w' := by
  have HS0 : Hid (StepAt ns f s0) := hs0
  have hdd : Hid (d - s0 ≠ 1) := hdd0
  clear hs0 hdd0
  have H : Hid (Sq w b (flat ns)) := h
  clear h
  go_enter Try.func21, Try.ntmps21
  go_wp2_with fail
  generalize hV : ((w.alloc (.cells #[.slice b ns.length d] 25)).alloc (.cells #[.int .i64 0, .int .i64 0, .int .i64 0] 27)) = V
  have HA : Hid (Row V w.heap.size [.slice b ns.length d]) := by subst hV; exact (row_fresh w [.slice b ns.length d] 25).below (low_alloc _ _)
  have HR : Hid (Row V (w.heap.size + 1) [.int .i64 0, .int .i64 0, .int .i64 0]) := by
    subst hV
    have h := row_fresh (w.alloc (.cells #[.slice b ns.length d] 25)) [.int .i64 0, .int .i64 0, .int .i64 0] 27
    rw [show (w.alloc (.cells #[.slice b ns.length d] 25)).heap.size = w.heap.size + 1 by simp [go_sem]] at h
    exact h
  have HV : Hid (Below w.heap.size w V) := by subst hV; exact behind_alloc (low_alloc _ _) _
  clear hV
  refine (implProfOk_c b d ns _ (H.out.below HV.out)).mono ?_
  rintro e w1 ⟨k, rfl, hk, hb⟩
  have HB1 : Hid (Below w.heap.size w w1) := below_then HV.out hb
  have HS1 : Hid (Sq w1 b (flat ns)) := (H.out.below HV.out).below hb
  have HR1 : Hid (Row w1 (w.heap.size + 1) [.int .i64 0, .int .i64 0, .int .i64 0]) := HR.out.below hb
  have HA1 : Hid (Row w1 w.heap.size [.slice b ns.length d]) := HA.out.below hb
  have HK : Hid (k = true ↔ POk ns) := hk
  clear hb hk HA HR HV
  cases k
  · exact absurd (HK.out.2 HY0) (by simp)
  · have HY : Hid (POk ns) := HK.out.1 rfl
    have hfw := HY.out.few
    clear HK
    go_wp2_with fail
    refine (spanOk_c f t _).mono ?_
    rintro e w2 ⟨rfl, rfl⟩
    · rw [hsp]
      have HN : Hid (minK ns f t = true ∧ minR ns f t = minTo ns f t ns.length) := minK_yes HY.out hsp
      have hf0 : 0 ≤ f := (span_iff.1 hsp).1.1
      clear hsp
      have h1 := HY.out.one
      obtain ⟨p, hpb, _⟩ := HS1.out.node 0 h1
      subst hpb
      have a0 := HA1.out.cell 0 _ rfl
      have HD := low_drew w2
      have HS2 : Hid (Sq w2.drew (some p) (flat ns)) := HS1.out.below HD
      go_wp2_with fail
      go_cut [8] (fun u wc => ∃ s : Nat, u = .slice (some (p.add (s * 4))) (ns.length - s) (d - s) ∧ s < ns.length ∧ StepAt ns f s ∧ Below w2.heap.size w2 wc)
      case first =>
        go_region_with (go_at_call 71; refine (step_c (some p) d ns f HY.out hf0 w2.drew HS2.out).mono ?_; rintro e w3 ⟨s, rfl, hs, hst, hb⟩; have HSt : Hid (StepAt ns f s) := hst; have HB3 : Hid (Below w2.heap.size w2 w3) := below_then HD hb; have t1 := (HA1.out.below HB3.out).cell 0 _ rfl; have hs0 : (0 : Int) ≤ (s : Int) := (by omega); have hs1 : (s : Int) ≤ (ns.length : Int) := (by omega); clear hb hst)
        all_goals
          go_wp2_with fail
          go_meet
          case rel => exact ⟨s, rfl, hs, HSt.out, HB3.out⟩
      case rest =>
      obtain ⟨s, rfl, hs, hst, hb⟩ := hcut
      obtain rfl : s = s0 := hst.one HY.out.rising HS0.out
      have HSt : Hid (StepAt ns f s) := hst
      have hL : (ns.drop s).length = ns.length - s := List.length_drop
      have HQ : Hid (Sq wc (some (p.add (s * 4))) (flat (ns.drop s))) := (HS1.out.below hb).drop s
      have HW : Hid (Sq w (some (p.add (s * 4))) (flat (ns.drop s))) := H.out.drop s
      have HBc : Hid (Below w.heap.size w wc) := below_then HB1.out hb
      have HRc : Hid (Row wc (w.heap.size + 1) [.int .i64 0, .int .i64 0, .int .i64 0]) := HR1.out.below hb
      have hRl := HRc.out.lt
      have hcap : (ns.drop s).length ≤ d - s := by omega
      have hne : 0 < (ns.drop s).length := by omega
      have HX0 : Hid ((ns.drop s)[0]? = ns[s]?) := by show _ = _; rw [List.getElem?_drop, Nat.add_zero]
      have HDr : Hid ((ns.drop s).drop 1 = ns.drop (s + 1)) := by show _ = _; rw [List.drop_drop]
      rw [← hL]
      generalize p.add (s * 4) = q at HQ HW
      have hD := hdd.out
      clear hdd
      generalize d - s = D at hcap hD
      generalize hrs : ns.drop s = rs at *
      have HL : Hid (rs.length = ns.length - s) := by show _ = _; exact hL
      clear hL hb hst hrs HS1 HR1 HA1 HB1 HS2 HD a0
      obtain ⟨q', hqq, c0, c1, c2, c3⟩ := HQ.out.node 0 hne
      cases hqq
      have hE0 : rs[0]? = some rs[0] := List.getElem?_eq_getElem hne
      rw [HX0.out] at hE0
      have HM0 : Hid (minTo ns f t (s + 1) = rs[0]) := by show _ = _; rw [min_first HY.out.rising HSt.out]; exact HSt.out.at hE0
      clear hE0
      generalize rs[0] = n0 at c0 c1 c2 c3 HM0
      rw [show q.add (0 * 4) = q from rfl] at c0 c1 c2 c3
      have hn0 : (0 : Int) < (rs.length : Int) := by omega
      have hn1 : (1 : Int) ≤ (rs.length : Int) := by omega
      have hl1 : (ns.drop (s + 1)).length = rs.length - 1 := by rw [← HDr.out, List.length_drop]
      have HW1 : Hid (Sq w (some (q.add (1 * 4))) (flat (ns.drop (s + 1)))) := by rw [← HDr.out]; exact HW.out.drop 1
      · have HA1 : Hid (Sq w (some ⟨q.block, q.off + 4, none⟩) (flat (ns.drop (s + 1)))) := by
          have e : q.add (1 * 4) = ⟨q.block, q.off + 4, none⟩ := by unfold Addr.add; simp
          rw [← e]
          exact HW1.out
        go_wp2_with fail
        generalize (some (⟨q.block, q.off + 4, none⟩ : Addr)) = A1 at HA1 ⊢
        generalize D - 1 = C1
        have HB4 : Hid (Below w.heap.size w (wc.alloc (.cells #[.int .i64 n0.a, .int .i64 n0.b, .int .i64 n0.c] 27))) := behind_alloc HBc.out _
        have HR4 : Hid (Row (wc.alloc (.cells #[.int .i64 n0.a, .int .i64 n0.b, .int .i64 n0.c] 27)) (w.heap.size + 1) [.int .i64 0, .int .i64 0, .int .i64 0]) := HRc.out.below (low_alloc _ _)
        have HO4 : Hid (Row (wc.alloc (.cells #[.int .i64 n0.a, .int .i64 n0.b, .int .i64 n0.c] 27)) wc.heap.size [.int .i64 n0.a, .int .i64 n0.b, .int .i64 n0.c]) := row_fresh wc [.int .i64 n0.a, .int .i64 n0.b, .int .i64 n0.c] 27
        generalize wc.alloc (.cells #[.int .i64 n0.a, .int .i64 n0.b, .int .i64 n0.c] 27) = w4 at HB4 HR4 HO4
        have hneO : w.heap.size + 1 ≠ wc.heap.size := by omega
        have hwO : w.heap.size ≤ wc.heap.size := by omega
        clear HQ HBc HRc hRl c0 c1 c2 c3
        generalize wc.heap.size = O at *
        rw [← HM0.out] at HO4
        have HLs : Hid ((ns.drop (s + 1)).length + (s + 1) = ns.length) := by
          show _ = _
          rw [List.length_drop]
          omega
        have HG : Hid (∀ (j : Nat) n, (ns.drop (s + 1))[j]? = some n → ns[s + 1 + j]? = some n) := fun j n h => by rwa [List.getElem?_drop] at h
        rw [← hl1]
        clear hl1 hD HW1 HDr HX0 HW hcap hne hn0 hn1 HL
        generalize ns.drop (s + 1) = rs1 at HA1 HG HLs ⊢
        have hrl : rs1.length ≤ 200 := by have := HLs.out; omega
        go_loopw [35] (fun i wr => ∃ j : Nat, j ≤ rs1.length ∧ i = .int .i64 j ∧ Row wr (w.heap.size + 1) [.int .i64 0, .int .i64 0, .int .i64 0] ∧ Row wr O [.int .i64 (minTo ns f t (s + 1 + j)).a, .int .i64 (minTo ns f t (s + 1 + j)).b, .int .i64 (minTo ns f t (s + 1 + j)).c] ∧ Below w.heap.size w wr) (fun i _ => rs1.length - (intOf i).toNat)
        case atStart => exact ⟨0, Nat.zero_le _, rfl, HR4.out, HO4.out, HB4.out⟩
        case round =>
          obtain ⟨j, hj, rfl, hr, ho, hb⟩ := hrel
          have HR5 : Hid (Row wr (w.heap.size + 1) [.int .i64 0, .int .i64 0, .int .i64 0]) := hr
          have HO5 : Hid (Row wr O [.int .i64 (minTo ns f t (s + 1 + j)).a, .int .i64 (minTo ns f t (s + 1 + j)).b, .int .i64 (minTo ns f t (s + 1 + j)).c]) := ho
          have HB5 : Hid (Below w.heap.size w wr) := hb
          have HS5 : Hid (Sq wr A1 (flat rs1)) := HA1.out.below hb
          have hOl := ho.lt
          clear hr ho hb HR4 HO4 HB4
          by_cases hlt : j < rs1.length
          · have hj0 : (0 : Int) ≤ (j : Int) := by omega
            have hj1 : (j : Int) < (rs1.length : Int) := by omega
            obtain ⟨p2, hp2, c0, c1, c2, c3⟩ := HS5.out.node j hlt
            subst hp2
            have HX : Hid (rs1[j]? = some rs1[j]) := List.getElem?_eq_getElem hlt
            generalize rs1[j] = n at c0 c1 c2 c3 HX
            have HX2 : Hid (ns[s + 1 + j]? = some n) := HG.out j n HX.out
            have hfl : f < n.l := by
              obtain ⟨_, _, _, hgt⟩ := HSt.out
              exact hgt _ _ (by omega) HX2.out
            by_cases hc : t ≤ n.l
            · have HE : Hid (minTo ns f t (s + 1 + j) = minTo ns f t ns.length) := by
                show _ = _
                have := min_rest HY.out.rising (f := f) HX2.out hc (ns.length - (s + 1 + j))
                rw [← this]
                congr 1
                have := HLs.out
                omega
              rw [HE.out] at HO5
              have hneX : w.heap.size + 1 ≠ wr.heap.size := by have := HR5.out.lt; omega
              have hltX : w.heap.size + 1 < wr.heap.size := HR5.out.lt
              have hneO2 : O ≠ wr.heap.size := by omega
              have r0 := HR5.out.cell 0 _ rfl
              have r1 := HR5.out.cell 1 _ rfl
              have r2 := HR5.out.cell 2 _ rfl
              have f0 := HR5.out.free 0
              have f1 := HR5.out.free 1
              have f2 := HR5.out.free 2
              have o0 := HO5.out.cell 0 _ rfl
              have o1 := HO5.out.cell 1 _ rfl
              have o2 := HO5.out.cell 2 _ rfl
              have B8 := HB5.out
              go_wp2_with fail
              exact bodyPost_ret (v := .tuple #[.agg #[.int .i64 (minTo ns f t ns.length).a, .int .i64 (minTo ns f t ns.length).b, .int .i64 (minTo ns f t ns.length).c], .bool true]) (by simp [results, Try.results21, go_sem, *]) rfl ⟨by rw [HN.out.1, HN.out.2], by go_grown⟩
            · have HNx : Hid (minTo ns f t (s + 1 + (j + 1)) = vmin (minTo ns f t (s + 1 + j)) n) := by
                show _ = _
                rw [show s + 1 + (j + 1) = s + 1 + j + 1 by omega, min_next HX2.out, if_pos ⟨by omega, by omega⟩]
              have HV1 : Hid (vokN (minTo ns f t (s + 1 + j)) = true) := min_ok HY.out hf0 _
              have HV2 : Hid (vokN n = true) := (HY.out.each _ n HX2.out).2
              have hneO2 : O ≠ wr.heap.size := by omega
              generalize minTo ns f t (s + 1 + j) = m at HO5 HNx HV1
              have HR6 : Hid (Row (wr.alloc (.cells #[.int .i64 n.l, .int .i64 n.a, .int .i64 n.b, .int .i64 n.c] 47)) (w.heap.size + 1) [.int .i64 0, .int .i64 0, .int .i64 0]) := HR5.out.below (low_alloc _ _)
              have HO6 : Hid (Row (wr.alloc (.cells #[.int .i64 n.l, .int .i64 n.a, .int .i64 n.b, .int .i64 n.c] 47)) O [.int .i64 m.a, .int .i64 m.b, .int .i64 m.c]) := HO5.out.below (low_alloc _ _)
              have HB6 : Hid (Below w.heap.size w (wr.alloc (.cells #[.int .i64 n.l, .int .i64 n.a, .int .i64 n.b, .int .i64 n.c] 47))) := behind_alloc HB5.out _
              have o0 := HO5.out.cell 0 _ rfl
              have o1 := HO5.out.cell 1 _ rfl
              have o2 := HO5.out.cell 2 _ rfl
              go_wp2_with fail
              generalize wr.alloc (.cells #[.int .i64 n.l, .int .i64 n.a, .int .i64 n.b, .int .i64 n.c] 47) = w6 at HR6 HO6 HB6
              refine (implVecMin_n m n HV1.out HV2.out _).mono ?_
              rintro e w7 ⟨rfl, hb⟩
              have HR7 : Hid (Row w7 (w.heap.size + 1) [.int .i64 0, .int .i64 0, .int .i64 0]) := HR6.out.below hb
              have HO7 : Hid (Row w7 O [.int .i64 m.a, .int .i64 m.b, .int .i64 m.c]) := HO6.out.below hb
              have HB7 : Hid (Below w.heap.size w w7) := below_then HB6.out hb
              clear hb HR6 HO6 HB6 o0 o1 o2 c0 c1 c2 c3
              have o0 := HO7.out.cell 0 _ rfl
              have o1 := HO7.out.cell 1 _ rfl
              have o2 := HO7.out.cell 2 _ rfl
              have g0 := HO7.out.free 0
              have g1 := HO7.out.free 1
              have g2 := HO7.out.free 2
              have HO8 : Hid (Row _ O [.int .i64 (vmin m n).a, .int .i64 (vmin m n).b, .int .i64 (vmin m n).c]) := ((HO7.out.set 0 (by simp) (.int .i64 (vmin m n).a)).set 1 (by simp) (.int .i64 (vmin m n).b)).set 2 (by simp) (.int .i64 (vmin m n).c)
              have HR8 : Hid (Row _ (w.heap.size + 1) [.int .i64 0, .int .i64 0, .int .i64 0]) := ((HR7.out.apart O 0 (.int .i64 (vmin m n).a) (by omega)).apart O 1 (.int .i64 (vmin m n).b) (by omega)).apart O 2 (.int .i64 (vmin m n).c) (by omega)
              have HB8 : Hid (Below w.heap.size w _) := ((HB7.out.setCell (p := ⟨O, 0, none⟩) (by show w.heap.size ≤ O; omega) (.int .i64 (vmin m n).a)).setCell (p := ⟨O, 1, none⟩) (by show w.heap.size ≤ O; omega) (.int .i64 (vmin m n).b)).setCell (p := ⟨O, 2, none⟩) (by show w.heap.size ≤ O; omega) (.int .i64 (vmin m n).c)
              go_wp2_with fail
              exact ⟨⟨j + 1, by omega, by go_num, HR8.out, by rw [HNx.out]; exact HO8.out, HB8.out⟩, by simp [intOf]; omega⟩
          · have hjN : j = rs1.length := by omega
            have HE : Hid (minTo ns f t (s + 1 + j) = minTo ns f t ns.length) := by
              show _ = _
              congr 1
              have := HLs.out
              omega
            rw [HE.out] at HO5
            subst hjN
            have r0 := HR5.out.cell 0 _ rfl
            have r1 := HR5.out.cell 1 _ rfl
            have r2 := HR5.out.cell 2 _ rfl
            have f0 := HR5.out.free 0
            have f1 := HR5.out.free 1
            have f2 := HR5.out.free 2
            have o0 := HO5.out.cell 0 _ rfl
            have o1 := HO5.out.cell 1 _ rfl
            have o2 := HO5.out.cell 2 _ rfl
            have B8 := HB5.out
            go_wp2_with fail
            exact bodyPost_ret (v := .tuple #[.agg #[.int .i64 (minTo ns f t ns.length).a, .int .i64 (minTo ns f t ns.length).b, .int .i64 (minTo ns f t ns.length).c], .bool true]) (by simp [results, Try.results21, go_sem, *]) rfl ⟨by rw [HN.out.1, HN.out.2], by go_grown⟩

theorem implProfMin_c (b : Option Addr) (d : Nat) (ns : List Nd) (f t : Int) (hd : ns.length ≤ d) (w : World) (h : Sq w b (flat ns)) :
    Calls Try.prog 21 #[.agg #[.slice b ns.length d], .int .i64 f, .int .i64 t] w fun e w' => e = .returned (.tuple #[.agg #[.int .i64 (minR ns f t).a, .int .i64 (minR ns f t).b, .int .i64 (minR ns f t).c], .bool (minK ns f t)]) ∧ Below w.heap.size w w' := by
  by_cases hok : POk ns
  · cases hsp : spanB f t
    · exact implProfMin_span b d ns f t w h hok hsp
    · obtain ⟨s, _, hst, _⟩ := hok.at_mem (span_iff.1 hsp).1.1
      by_cases hD : d - s = 1
      · exact implProfMin_one b d ns f t hd w h hok hsp s hst hD
      · exact implProfMin_main b d ns f t hd w h hok hsp s hst hD
  · exact implProfMin_bad b d ns f t w h hok
end Go.Proofs.Ytgpogglaffehcaa
