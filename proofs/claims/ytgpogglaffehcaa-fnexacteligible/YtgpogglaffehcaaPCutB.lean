/- ProfCut: the program and the specification. -/
import Derived.Test.YtgpogglaffehcaaPCut
import Derived.Deep.RegionWith
import Derived.Deep.DeepCutAuto
namespace Go.Proofs.Ytgpogglaffehcaa
open Go.ChangeShapes Go.WideShapes Go.ChangeAt Go.RowKit

/-- What a function that answers a profile answers. -/
def RetQ (w : World) (r : List Nd) (e : Ending) (w' : World) : Prop := ∃ v, e = .returned (.agg #[v]) ∧ AnsP w.heap.size w'.heap.size w' r.length (flat r) v ∧ Below w.heap.size w w'

theorem cut_no {ns : List Nd} {t : Int} (h : ¬ (POk ns ∧ timeB t = true)) : cutR ns t = [] := by rw [cutR, if_neg h]
theorem cut_yes {ns : List Nd} {t : Int} (h : POk ns) (ht : timeB t = true) : cutR ns t = at0 ns t :: lateTo ns t ns.length := by rw [cutR, if_pos ⟨h, ht⟩]

set_option maxHeartbeats 2000000 in
theorem implProfCut_c (b : Option Addr) (d : Nat) (ns : List Nd) (t : Int) (hd : ns.length ≤ d) (w : World) (h : Sq w b (flat ns)) :
    Calls Try.prog 25 #[.agg #[.slice b ns.length d], .int .i64 t] w (RetQ w (cutR ns t)) := by
  have H : Hid (Sq w b (flat ns)) := h
  clear h
  go_enter Try.func25, Try.ntmps25
  go_wp2_with fail
  generalize hV : ((w.alloc (.cells #[.slice b ns.length d] 25)).alloc (.cells #[.slice none 0 0] 25)) = V
  have HA : Hid (Row V w.heap.size [.slice b ns.length d]) := by subst hV; exact (row_fresh w [.slice b ns.length d] 25).below (low_alloc _ _)
  have HR : Hid (Row V (w.heap.size + 1) [.slice none 0 0]) := by
    subst hV
    have h := row_fresh (w.alloc (.cells #[.slice b ns.length d] 25)) [.slice none 0 0] 25
    rw [show (w.alloc (.cells #[.slice b ns.length d] 25)).heap.size = w.heap.size + 1 by simp [go_sem]] at h
    exact h
  have HV : Hid (Below w.heap.size w V) := by subst hV; exact behind_alloc (low_alloc _ _) _
  clear hV
  refine (implProfOk_c b d ns _ (H.out.below HV.out)).mono ?_
  rintro e w1 ⟨k, rfl, hk, hb⟩
  have HB1 : Hid (Below w.heap.size w w1) := below_then HV.out hb
  have HS1 : Hid (Sq w1 b (flat ns)) := (H.out.below HV.out).below hb
  have HR1 : Hid (Row w1 (w.heap.size + 1) [.slice none 0 0]) := HR.out.below hb
  have HA1 : Hid (Row w1 w.heap.size [.slice b ns.length d]) := HA.out.below hb
  have HK : Hid (k = true ↔ POk ns) := hk
  clear hb hk HA HR HV
  cases k
  · have HN : Hid (cutR ns t = []) := cut_no (fun t => by have := HK.out.2 t.1; cases this)
    clear HK
    have r0 := HR1.out.cell 0 _ rfl
    have f0 := HR1.out.free 0
    have B8 := HB1.out
    go_wp2_with fail
    refine bodyPost_ret (v := .agg #[.slice none 0 0]) (by simp [results, Try.results25, go_sem, *]) rfl ⟨_, rfl, ?_, by go_grown⟩
    rw [HN.out]
    exact AnsP.none _ _ _ _ _
  · have HY : Hid (POk ns) := HK.out.1 rfl
    have hfw := HY.out.few
    clear HK
    go_wp2_with fail
    refine (timeOk_c t _).mono ?_
    rintro e w2 ⟨rfl, rfl⟩
    cases ht : timeB t
    · have HN : Hid (cutR ns t = []) := cut_no (fun h => by rw [ht] at h; cases h.2)
      clear ht
      have r0 := HR1.out.cell 0 _ rfl
      have f0 := HR1.out.free 0
      have B8 := HB1.out
      go_wp2_with fail
      refine bodyPost_ret (v := .agg #[.slice none 0 0]) (by simp [results, Try.results25, go_sem, *]) rfl ⟨_, rfl, ?_, by go_grown⟩
      rw [HN.out]
      exact AnsP.none _ _ _ _ _
    · have HN : Hid (cutR ns t = at0 ns t :: lateTo ns t ns.length) := cut_yes HY.out ht
      have ht0 : 0 ≤ t := (time_iff.1 ht).1
      clear ht
      have h1 := HY.out.one
      obtain ⟨p, hpb, _⟩ := HS1.out.node 0 h1
      subst hpb
      have a0 := HA1.out.cell 0 _ rfl
      have HD := low_drew w2
      have HS2 : Hid (Sq w2.drew (some p) (flat ns)) := HS1.out.below HD
      go_wp2_with fail
      go_cut [5] (fun u wc => ∃ s : Nat, s < ns.length ∧ StepAt ns t s ∧ wc.ownsRow w2.heap.size 47 4 u (ns.drop s).length (flat (ns.drop s)) ∧ Below w2.heap.size w2 wc)
      case first =>
        go_region_with (first
          | (go_at_call 71; refine (step_c (some p) d ns t HY.out ht0 w2.drew HS2.out).mono ?_; rintro e w3 ⟨s, rfl, hs, hst, hb⟩; have HSt : Hid (StepAt ns t s) := hst; have HB3 : Hid (Below w2.heap.size w2 w3) := below_then HD hb; have t1 := (HA1.out.below HB3.out).cell 0 _ rfl; have hs0 : (0 : Int) ≤ (s : Int) := (by omega); have hs1 : (s : Int) ≤ (ns.length : Int) := (by omega); have hds : ¬ d ≤ s := (by omega); have hds2 : ¬ d = s := (by omega); have hds3 : ¬ (d : Int) - (s : Int) = 0 := (by omega); have HCl : Hid (Calls Try.prog 79 #[.slice (some (p.add (s * 4))) (ns.length - s) (d - s)] w3 fun e w' => ∃ v, e = .returned v ∧ w'.ownsRow w3.heap.size 47 4 v (ns.drop s).length (flat (ns.drop s)) ∧ Below w3.heap.size w3 w') := (by show Calls _ _ _ _ _; rw [← List.length_drop]; exact clone_c (p.add (s * 4)) (d - s) (ns.drop s) (by rw [List.length_drop]; omega) w3 ((HS1.out.below HB3.out).drop s)); clear hb hst)
          | (go_at_call 79; refine HCl.out.mono ?_; rintro e w4 ⟨v, rfl, hown, hb⟩; have HO4 : Hid (w4.ownsRow w2.heap.size 47 4 v (ns.drop s).length (flat (ns.drop s))) := owns_mono hown HB3.out.size; have HB4 : Hid (Below w2.heap.size w2 w4) := below_then HB3.out hb; clear hb hown))
        all_goals
          go_wp2_with fail
          go_meet
          case rel => exact ⟨s, hs, HSt.out, HO4.out, HB4.out⟩
      case rest =>
      obtain ⟨s, hs, hst, hown, hb⟩ := hcut
      have HSt : Hid (StepAt ns t s) := hst
      have hL : (ns.drop s).length = ns.length - s := List.length_drop
      have HE := List.getElem?_eq_getElem hs
      have hat := HSt.out.at HE
      have HDr : Hid ((flat (ns.drop s)).set 0 (.int .i64 0) = flat (at0 ns t :: lateTo ns t ns.length)) := by
        show _ = _
        rw [late_all HY.out.rising HSt.out, List.drop_eq_getElem_cons hs]
        simp only [at0, hat, flat, List.flatMap_cons]
        rfl
      have HLn : Hid ((ns.drop s).length = (at0 ns t :: lateTo ns t ns.length).length) := by
        show _ = _
        rw [late_all HY.out.rising HSt.out, List.drop_eq_getElem_cons hs]
        rfl
      have hpos : 0 < (ns.drop s).length := by omega
      have hans := AnsP.of_owns hown
      have HBc : Hid (Below w.heap.size w wc) := below_then HB1.out hb
      have HRc : Hid (Row wc (w.heap.size + 1) [.slice none 0 0]) := HR1.out.below hb
      have hw2 : w.heap.size ≤ w2.heap.size := HB1.out.size
      have hR2 := HR1.out.lt
      obtain ⟨hx, a1, cap1, hv, hor⟩ := hans
      rcases hor with hz | ⟨g, ha1, hg1, hg2, hrow⟩
      · omega
      · subst hv
        subst ha1
        have HG : Hid (Row wc g (flat (ns.drop s))) := hrow
        have HXl : Hid ((flat (ns.drop s)).length = 4 * (ns.drop s).length) := hx
        clear hst hL HE hat hown hb hx hrow a0 HD HS2 HS1 HA1 HB1 HR1
        generalize ns.drop s = rs at *
        have hfl : 0 < (flat rs).length := by have := HXl.out; omega
        have c0 := HG.out.cell 0 _ (List.getElem?_eq_getElem hfl)
        have cf := HG.out.free 0
        generalize (flat rs)[0] = y0 at c0
        have r0 := HRc.out.cell 0 _ rfl
        have f0 := HRc.out.free 0
        have hn0 : (0 : Int) < (rs.length : Int) := by omega
        have hne : g ≠ w.heap.size + 1 := by omega
        have hne' : w.heap.size + 1 ≠ g := by omega
        have HG2 : Hid (Row ((wc.setCell ⟨g, 0, none⟩ (.int .i64 0)).setCell ⟨w.heap.size + 1, 0, none⟩ (.slice (some ⟨g, 0, none⟩) rs.length cap1)) g ((flat rs).set 0 (.int .i64 0))) := (HG.out.set 0 hfl (.int .i64 0)).apart (w.heap.size + 1) 0 _ (by omega)
        have HB2 : Hid (Below w.heap.size w ((wc.setCell ⟨g, 0, none⟩ (.int .i64 0)).setCell ⟨w.heap.size + 1, 0, none⟩ (.slice (some ⟨g, 0, none⟩) rs.length cap1))) := (HBc.out.setCell (p := ⟨g, 0, none⟩) (by show w.heap.size ≤ g; omega) _).setCell (p := ⟨w.heap.size + 1, 0, none⟩) (by show w.heap.size ≤ w.heap.size + 1; omega) _
        go_wp2_with fail
        refine bodyPost_ret (v := .agg #[.slice (some ⟨g, 0, none⟩) rs.length cap1]) (by simp [results, Try.results25, go_sem, *]) rfl ⟨_, rfl, ?_, HB2.out⟩
        rw [HN.out, ← HDr.out, ← HLn.out]
        exact AnsP.of_row (by rw [List.length_set]; exact HXl.out) HG2.out (by omega) HG2.out.lt
end Go.Proofs.Ytgpogglaffehcaa
