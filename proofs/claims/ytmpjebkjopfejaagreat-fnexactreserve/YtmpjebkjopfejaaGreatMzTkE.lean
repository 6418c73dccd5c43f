/- ProfTake and ProfGive: the specification. -/
import Derived.Test.YtmpjebkjopfejaaGreatMzTkD
namespace Go.Proofs.YtmpjebkjopfejaaGreat
open Go.ChangeShapes Go.WideShapes Go.ChangeAt Go.RowKit

/-- What 'ProfTake' (add false) and 'ProfGive' (add true) answer. -/
noncomputable def tkR (add : Bool) (v : Nd) (ns : List Nd) (f u : Int) : Option (List Nd) := bif minK ns f u then chgR add v ns f u else none

theorem minK_iff {ns : List Nd} {f u : Int} (h : minK ns f u = true) : POk ns ∧ spanB f u = true := by
  unfold minK at h
  rw [Bool.and_eq_true] at h
  exact ⟨by simpa using h.1, h.2⟩

theorem chg_len {add : Bool} {v : Nd} {ns : List Nd} {f u : Int} : ((chgR add v ns f u).getD []).length ≤ 200 := by
  unfold chgR
  cases h : chTo (chG add v) ns f u (tmsL ns f u) [] with
  | none => simp
  | some r =>
    simp only [Option.filter]
    split
    · rename_i hc
      simpa using hc
    · simp
theorem tk_len {add : Bool} {v : Nd} {ns : List Nd} {f u : Int} : ((tkR add v ns f u).getD []).length ≤ 200 := by
  unfold tkR
  cases minK ns f u
  · simp
  · exact chg_len

set_option maxHeartbeats 2000000 in
theorem specProfTake_o (b : Option Addr) (d : Nat) (ns : List Nd) (f u : Int) (v : Nd) (w : World) (h : Sq w b (flat ns)) :
    Calls Tryz.prog 25 #[.agg #[.slice b ns.length d], .int .i64 f, .int .i64 u, .agg #[.int .i64 v.a, .int .i64 v.b, .int .i64 v.c]] w (RetO w ((tkR false v ns f u).getD []) (tkR false v ns f u).isSome) := by
  have H : Hid (Sq w b (flat ns)) := h
  clear h
  go_enter Tryz.func25, Tryz.ntmps25
  go_wp2_with fail
  generalize hV : ((w.alloc (.cells #[.slice b ns.length d] 44)).alloc (.cells #[.int .i64 v.a, .int .i64 v.b, .int .i64 v.c] 50)).alloc (.cells #[.slice none 0 0] 44) = V
  have HV : Hid (Below w.heap.size w V) := by subst hV; exact behind_alloc (behind_alloc (low_alloc _ _) _) _
  have HA : Hid (Row V w.heap.size [.slice b ns.length d]) := by subst hV; exact ((row_fresh w [.slice b ns.length d] 44).below (low_alloc _ _)).below (low_alloc _ _)
  have HVc : Hid (Row V (w.heap.size + 1) [.int .i64 v.a, .int .i64 v.b, .int .i64 v.c]) := by
    subst hV
    have h := row_fresh (w.alloc (.cells #[.slice b ns.length d] 44)) [.int .i64 v.a, .int .i64 v.b, .int .i64 v.c] 50
    rw [show (w.alloc (.cells #[.slice b ns.length d] 44)).heap.size = w.heap.size + 1 by simp [go_sem]] at h
    exact h.below (low_alloc _ _)
  have HR : Hid (Row V (w.heap.size + 1 + 1) [.slice none 0 0]) := by
    subst hV
    have h := row_fresh ((w.alloc (.cells #[.slice b ns.length d] 44)).alloc (.cells #[.int .i64 v.a, .int .i64 v.b, .int .i64 v.c] 50)) [.slice none 0 0] 44
    rw [show ((w.alloc (.cells #[.slice b ns.length d] 44)).alloc (.cells #[.int .i64 v.a, .int .i64 v.b, .int .i64 v.c] 50)).heap.size = w.heap.size + 1 + 1 by simp [go_sem]] at h
    exact h
  clear hV
  refine (specProfMin_c b d ns f u _ (H.out.below HV.out)).mono ?_
  rintro e w1 ⟨rfl, hb⟩
  generalize minR ns f u = mm
  have HBw : Hid (Below w.heap.size w w1) := below_then HV.out hb
  have HB1 : Hid (Below w.heap.size w (w1.alloc (.cells #[.int .i64 mm.a, .int .i64 mm.b, .int .i64 mm.c] 50))) := behind_alloc (below_then HV.out hb) _
  have HA1 : Hid (Row (w1.alloc (.cells #[.int .i64 mm.a, .int .i64 mm.b, .int .i64 mm.c] 50)) w.heap.size [.slice b ns.length d]) := (HA.out.below hb).below (low_alloc _ _)
  have HV1 : Hid (Row (w1.alloc (.cells #[.int .i64 mm.a, .int .i64 mm.b, .int .i64 mm.c] 50)) (w.heap.size + 1) [.int .i64 v.a, .int .i64 v.b, .int .i64 v.c]) := (HVc.out.below hb).below (low_alloc _ _)
  have HR1 : Hid (Row (w1.alloc (.cells #[.int .i64 mm.a, .int .i64 mm.b, .int .i64 mm.c] 50)) (w.heap.size + 1 + 1) [.slice none 0 0]) := (HR.out.below hb).below (low_alloc _ _)
  have r0 := (HR.out.below hb).cell 0 _ rfl
  have rf := (HR.out.below hb).free 0
  have p0 := (HA.out.below hb).cell 0 _ rfl
  have y0 := (HVc.out.below hb).cell 0 _ rfl
  have y1 := (HVc.out.below hb).cell 1 _ rfl
  have y2 := (HVc.out.below hb).cell 2 _ rfl
  have hl1 := (HR.out.below hb).lt
  have hl2 : w.heap.size + 1 < w1.heap.size := by omega
  have hl3 : w.heap.size < w1.heap.size := by omega
  have hn1 : w.heap.size + 1 + 1 ≠ w1.heap.size := by omega
  have hn2 : w.heap.size + 1 ≠ w1.heap.size := by omega
  have hn3 : w.heap.size ≠ w1.heap.size := by omega
  clear hb HA HVc HR
  cases hk : minK ns f u
  · have HN : Hid (tkR false v ns f u = none) := by show _ = _; rw [tkR, hk]; rfl
    have HBs : Hid (Below w.heap.size w ((w1.setCell ⟨w.heap.size + 1 + 1, 0, none⟩ (.slice none 0 0)).alloc (.cells #[.int .i64 mm.a, .int .i64 mm.b, .int .i64 mm.c] 50))) := behind_alloc (HBw.out.setCell (p := ⟨w.heap.size + 1 + 1, 0, none⟩) (by show w.heap.size ≤ w.heap.size + 1 + 1; omega) _) _
    clear hk
    go_wp2_with fail
    refine bodyPost_ret (v := .tuple #[.agg #[.slice none 0 0], .bool false]) (by simp [results, Tryz.results25, go_sem, *]) rfl ⟨_, by rw [HN.out]; rfl, ?_, HBs.out⟩
    rw [HN.out]
    exact owns_nil _ _ _
  · have HN : Hid (tkR false v ns f u = chgR false v ns f u) := by show _ = _; rw [tkR, hk]; rfl
    obtain ⟨hok, hsp⟩ := minK_iff hk
    have HCh : Hid (∀ W : World, Sq W b (flat ns) → Calls Tryz.prog 56 #[.agg #[.slice b ns.length d], .int .i64 f, .int .i64 u, .agg #[.int .i64 v.a, .int .i64 v.b, .int .i64 v.c], .bool false] W (RetO W ((chgR false v ns f u).getD []) (chgR false v ns f u).isSome)) := fun W hs => l03Change_false b d ns f u v hok hsp W hs
    clear hk hok hsp
    go_wp2_with fail
    generalize w1.alloc (.cells #[.int .i64 mm.a, .int .i64 mm.b, .int .i64 mm.c] 50) = w2 at HB1 HA1 HV1 HR1
    refine (HCh.out _ (H.out.below HB1.out)).mono ?_
    rintro e w3 ⟨v3, rfl, hans, hb⟩
    obtain ⟨a3, c3, hv3⟩ := owns_form hans
    subst hv3
    generalize chgR false v ns f u = R at *
    generalize hrr : R.getD [] = r at *
    generalize hkk : R.isSome = k at *
    have HRr : Hid (R.getD [] = r) := hrr
    have HRk : Hid (R.isSome = k) := hkk
    have HAn : Hid (w3.ownsRow w2.heap.size 109 4 (.slice a3 r.length c3) r.length (flat r)) := hans
    have HR3 := HR1.out.below hb
    have q0 := HR3.cell 0 _ rfl
    have qf := HR3.free 0
    have HB3 : Hid (Below w.heap.size w w3) := below_then HB1.out hb
    have h2w : w.heap.size ≤ w2.heap.size := HB1.out.size
    have hR2 := HR1.out.lt
    clear hans hb hrr hkk HR3 HA1 HV1 HR1 r0 rf p0 y0 y1 y2
    have HA4 : Hid ((w3.setCell ⟨w.heap.size + 1 + 1, 0, none⟩ (.slice a3 r.length c3)).ownsRow w2.heap.size 109 4 (.slice a3 r.length c3) r.length (flat r)) := owns_set HAn.out (by omega)
    have HB4 : Hid (Below w.heap.size w (w3.setCell ⟨w.heap.size + 1 + 1, 0, none⟩ (.slice a3 r.length c3))) := HB3.out.setCell (p := ⟨w.heap.size + 1 + 1, 0, none⟩) (by show w.heap.size ≤ w.heap.size + 1 + 1; omega) _
    go_wp2_with fail
    refine bodyPost_ret (v := .tuple #[.agg #[.slice a3 r.length c3], .bool k]) (by simp [results, Tryz.results25, go_sem, *]) rfl ⟨_, by rw [HN.out, HRk.out], ?_, HB4.out⟩
    rw [HN.out, HRr.out]
    exact owns_mono HA4.out (by omega)

theorem specProfTake_c (b : Option Addr) (d : Nat) (ns : List Nd) (f u : Int) (v : Nd) (w : World) (h : Sq w b (flat ns)) :
    Calls Tryz.prog 25 #[.agg #[.slice b ns.length d], .int .i64 f, .int .i64 u, .agg #[.int .i64 v.a, .int .i64 v.b, .int .i64 v.c]] w (RetP w ((tkR false v ns f u).getD []) (tkR false v ns f u).isSome) := (specProfTake_o b d ns f u v w h).mono fun _ _ h => h.plain
set_option maxHeartbeats 2000000 in
theorem specProfGive_o (b : Option Addr) (d : Nat) (ns : List Nd) (f u : Int) (v : Nd) (w : World) (h : Sq w b (flat ns)) :
    Calls Tryz.prog 45 #[.agg #[.slice b ns.length d], .int .i64 f, .int .i64 u, .agg #[.int .i64 v.a, .int .i64 v.b, .int .i64 v.c]] w (RetO w ((tkR true v ns f u).getD []) (tkR true v ns f u).isSome) := by
  have H : Hid (Sq w b (flat ns)) := h
  clear h
  go_enter Tryz.func45, Tryz.ntmps45
  go_wp2_with fail
  generalize hV : ((w.alloc (.cells #[.slice b ns.length d] 44)).alloc (.cells #[.int .i64 v.a, .int .i64 v.b, .int .i64 v.c] 50)).alloc (.cells #[.slice none 0 0] 44) = V
  have HV : Hid (Below w.heap.size w V) := by subst hV; exact behind_alloc (behind_alloc (low_alloc _ _) _) _
  have HA : Hid (Row V w.heap.size [.slice b ns.length d]) := by subst hV; exact ((row_fresh w [.slice b ns.length d] 44).below (low_alloc _ _)).below (low_alloc _ _)
  have HVc : Hid (Row V (w.heap.size + 1) [.int .i64 v.a, .int .i64 v.b, .int .i64 v.c]) := by
    subst hV
    have h := row_fresh (w.alloc (.cells #[.slice b ns.length d] 44)) [.int .i64 v.a, .int .i64 v.b, .int .i64 v.c] 50
    rw [show (w.alloc (.cells #[.slice b ns.length d] 44)).heap.size = w.heap.size + 1 by simp [go_sem]] at h
    exact h.below (low_alloc _ _)
  have HR : Hid (Row V (w.heap.size + 1 + 1) [.slice none 0 0]) := by
    subst hV
    have h := row_fresh ((w.alloc (.cells #[.slice b ns.length d] 44)).alloc (.cells #[.int .i64 v.a, .int .i64 v.b, .int .i64 v.c] 50)) [.slice none 0 0] 44
    rw [show ((w.alloc (.cells #[.slice b ns.length d] 44)).alloc (.cells #[.int .i64 v.a, .int .i64 v.b, .int .i64 v.c] 50)).heap.size = w.heap.size + 1 + 1 by simp [go_sem]] at h
    exact h
  clear hV
  refine (specProfMin_c b d ns f u _ (H.out.below HV.out)).mono ?_
  rintro e w1 ⟨rfl, hb⟩
  generalize minR ns f u = mm
  have HBw : Hid (Below w.heap.size w w1) := below_then HV.out hb
  have HB1 : Hid (Below w.heap.size w (w1.alloc (.cells #[.int .i64 mm.a, .int .i64 mm.b, .int .i64 mm.c] 50))) := behind_alloc (below_then HV.out hb) _
  have HA1 : Hid (Row (w1.alloc (.cells #[.int .i64 mm.a, .int .i64 mm.b, .int .i64 mm.c] 50)) w.heap.size [.slice b ns.length d]) := (HA.out.below hb).below (low_alloc _ _)
  have HV1 : Hid (Row (w1.alloc (.cells #[.int .i64 mm.a, .int .i64 mm.b, .int .i64 mm.c] 50)) (w.heap.size + 1) [.int .i64 v.a, .int .i64 v.b, .int .i64 v.c]) := (HVc.out.below hb).below (low_alloc _ _)
  have HR1 : Hid (Row (w1.alloc (.cells #[.int .i64 mm.a, .int .i64 mm.b, .int .i64 mm.c] 50)) (w.heap.size + 1 + 1) [.slice none 0 0]) := (HR.out.below hb).below (low_alloc _ _)
  have r0 := (HR.out.below hb).cell 0 _ rfl
  have rf := (HR.out.below hb).free 0
  have p0 := (HA.out.below hb).cell 0 _ rfl
  have y0 := (HVc.out.below hb).cell 0 _ rfl
  have y1 := (HVc.out.below hb).cell 1 _ rfl
  have y2 := (HVc.out.below hb).cell 2 _ rfl
  have hl1 := (HR.out.below hb).lt
  have hl2 : w.heap.size + 1 < w1.heap.size := by omega
  have hl3 : w.heap.size < w1.heap.size := by omega
  have hn1 : w.heap.size + 1 + 1 ≠ w1.heap.size := by omega
  have hn2 : w.heap.size + 1 ≠ w1.heap.size := by omega
  have hn3 : w.heap.size ≠ w1.heap.size := by omega
  clear hb HA HVc HR
  cases hk : minK ns f u
  · have HN : Hid (tkR true v ns f u = none) := by show _ = _; rw [tkR, hk]; rfl
    have HBs : Hid (Below w.heap.size w ((w1.setCell ⟨w.heap.size + 1 + 1, 0, none⟩ (.slice none 0 0)).alloc (.cells #[.int .i64 mm.a, .int .i64 mm.b, .int .i64 mm.c] 50))) := behind_alloc (HBw.out.setCell (p := ⟨w.heap.size + 1 + 1, 0, none⟩) (by show w.heap.size ≤ w.heap.size + 1 + 1; omega) _) _
    clear hk
    go_wp2_with fail
    refine bodyPost_ret (v := .tuple #[.agg #[.slice none 0 0], .bool false]) (by simp [results, Tryz.results45, go_sem, *]) rfl ⟨_, by rw [HN.out]; rfl, ?_, HBs.out⟩
    rw [HN.out]
    exact owns_nil _ _ _
  · have HN : Hid (tkR true v ns f u = chgR true v ns f u) := by show _ = _; rw [tkR, hk]; rfl
    obtain ⟨hok, hsp⟩ := minK_iff hk
    have HCh : Hid (∀ W : World, Sq W b (flat ns) → Calls Tryz.prog 56 #[.agg #[.slice b ns.length d], .int .i64 f, .int .i64 u, .agg #[.int .i64 v.a, .int .i64 v.b, .int .i64 v.c], .bool true] W (RetO W ((chgR true v ns f u).getD []) (chgR true v ns f u).isSome)) := fun W hs => l03Change_true b d ns f u v hok hsp W hs
    clear hk hok hsp
    go_wp2_with fail
    generalize w1.alloc (.cells #[.int .i64 mm.a, .int .i64 mm.b, .int .i64 mm.c] 50) = w2 at HB1 HA1 HV1 HR1
    refine (HCh.out _ (H.out.below HB1.out)).mono ?_
    rintro e w3 ⟨v3, rfl, hans, hb⟩
    obtain ⟨a3, c3, hv3⟩ := owns_form hans
    subst hv3
    generalize chgR true v ns f u = R at *
    generalize hrr : R.getD [] = r at *
    generalize hkk : R.isSome = k at *
    have HRr : Hid (R.getD [] = r) := hrr
    have HRk : Hid (R.isSome = k) := hkk
    have HAn : Hid (w3.ownsRow w2.heap.size 109 4 (.slice a3 r.length c3) r.length (flat r)) := hans
    have HR3 := HR1.out.below hb
    have q0 := HR3.cell 0 _ rfl
    have qf := HR3.free 0
    have HB3 : Hid (Below w.heap.size w w3) := below_then HB1.out hb
    have h2w : w.heap.size ≤ w2.heap.size := HB1.out.size
    have hR2 := HR1.out.lt
    clear hans hb hrr hkk HR3 HA1 HV1 HR1 r0 rf p0 y0 y1 y2
    have HA4 : Hid ((w3.setCell ⟨w.heap.size + 1 + 1, 0, none⟩ (.slice a3 r.length c3)).ownsRow w2.heap.size 109 4 (.slice a3 r.length c3) r.length (flat r)) := owns_set HAn.out (by omega)
    have HB4 : Hid (Below w.heap.size w (w3.setCell ⟨w.heap.size + 1 + 1, 0, none⟩ (.slice a3 r.length c3))) := HB3.out.setCell (p := ⟨w.heap.size + 1 + 1, 0, none⟩) (by show w.heap.size ≤ w.heap.size + 1 + 1; omega) _
    go_wp2_with fail
    refine bodyPost_ret (v := .tuple #[.agg #[.slice a3 r.length c3], .bool k]) (by simp [results, Tryz.results45, go_sem, *]) rfl ⟨_, by rw [HN.out, HRk.out], ?_, HB4.out⟩
    rw [HN.out, HRr.out]
    exact owns_mono HA4.out (by omega)

theorem specProfGive_c (b : Option Addr) (d : Nat) (ns : List Nd) (f u : Int) (v : Nd) (w : World) (h : Sq w b (flat ns)) :
    Calls Tryz.prog 45 #[.agg #[.slice b ns.length d], .int .i64 f, .int .i64 u, .agg #[.int .i64 v.a, .int .i64 v.b, .int .i64 v.c]] w (RetP w ((tkR true v ns f u).getD []) (tkR true v ns f u).isSome) := (specProfGive_o b d ns f u v w h).mono fun _ _ h => h.plain
end Go.Proofs.YtmpjebkjopfejaaGreat
