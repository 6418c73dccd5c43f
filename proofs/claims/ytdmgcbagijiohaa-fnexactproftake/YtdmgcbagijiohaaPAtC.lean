/- ProfAt: the specification and the program. -/
import Derived.Test.YtdmgcbagijiohaaPAtB
namespace Go.Proofs.Ytdmgcbagijiohaa
open Go.ChangeShapes Go.WideShapes Go.ChangeAt Go.RowKit

/-- What 'ProfAt' answers. -/
noncomputable def atR (ns : List Nd) (t : Int) : Nd := open Classical in if POk ns ∧ timeB t = true then atL ns t else nd0

set_option maxHeartbeats 1000000 in
theorem implProfAt_c (b : Option Addr) (d : Nat) (ns : List Nd) (t : Int) (w : World) (h : Sq w b (flat ns)) :
    Calls Try.prog 10 #[.agg #[.slice b ns.length d], .int .i64 t] w fun e w' => e = .returned (.agg #[.int .i64 (atR ns t).a, .int .i64 (atR ns t).b, .int .i64 (atR ns t).c]) ∧ Below w.heap.size w w' := by
  have H : Hid (Sq w b (flat ns)) := h
  clear h
  go_enter Try.func10, Try.ntmps10
  go_wp2_with fail
  generalize hV : ((w.alloc (.cells #[.slice b ns.length d] 25)).alloc (.cells #[.int .i64 0, .int .i64 0, .int .i64 0] 27)) = V
  have HA : Hid (Row V w.heap.size [.slice b ns.length d]) := by subst hV; exact (row_fresh w [.slice b ns.length d] 25).below (low_alloc _ _)
  have HR : Hid (Row V (w.heap.size + 1) [.int .i64 0, .int .i64 0, .int .i64 0]) := by
    subst hV
    have h := row_fresh (w.alloc (.cells #[.slice b ns.length d] 25)) [.int .i64 0, .int .i64 0, .int .i64 0] 27
    rw [show (w.alloc (.cells #[.slice b ns.length d] 25)).heap.size = w.heap.size + 1 by simp [go_sem]] at h
    exact h
  have HV : Hid (Below w.heap.size w V) := by subst hV; exact behind_alloc (low_alloc _ _) _
  clear hV
  refine (implProfOk_c b d ns _ (H.out.below HV.out)).mono ?_
  rintro e w1 ⟨k, rfl, hk, hb⟩
  have HB1 : Hid (Below w.heap.size w w1) := below_then HV.out hb
  have HS1 : Hid (Sq w1 b (flat ns)) := (H.out.below HV.out).below hb
  have HR1 : Hid (Row w1 (w.heap.size + 1) [.int .i64 0, .int .i64 0, .int .i64 0]) := HR.out.below hb
  have a0 := (HA.out.below hb).cell 0 _ rfl
  have HK : Hid (k = true ↔ POk ns) := hk
  clear hb hk HA HR HV H
  cases k
  · have HN : Hid (atR ns t = nd0) := by
      show _ = _
      rw [atR, if_neg (fun t => by have := HK.out.2 t.1; cases this)]
    clear HK
    have r0 := HR1.out.cell 0 _ rfl
    have r1 := HR1.out.cell 1 _ rfl
    have r2 := HR1.out.cell 2 _ rfl
    have f0 := HR1.out.free 0
    have f1 := HR1.out.free 1
    have f2 := HR1.out.free 2
    have B8 := HB1.out
    go_wp2_with fail
    exact bodyPost_ret (v := .agg #[.int .i64 0, .int .i64 0, .int .i64 0]) (by simp [results, Try.results10, go_sem, *]) rfl ⟨by rw [HN.out]; rfl, by go_grown⟩
  · have HY : Hid (POk ns) := HK.out.1 rfl
    have hf := HY.out.few
    clear HK
    go_wp2_with fail
    refine (timeOk_c t _).mono ?_
    rintro e w2 ⟨rfl, rfl⟩
    cases ht : timeB t
    · have HN : Hid (atR ns t = nd0) := by
        show _ = _
        rw [atR, if_neg (fun h => by rw [ht] at h; cases h.2)]
      clear ht
      have r0 := HR1.out.cell 0 _ rfl
      have r1 := HR1.out.cell 1 _ rfl
      have r2 := HR1.out.cell 2 _ rfl
      have f0 := HR1.out.free 0
      have f1 := HR1.out.free 1
      have f2 := HR1.out.free 2
      have B8 := HB1.out
      go_wp2_with fail
      exact bodyPost_ret (v := .agg #[.int .i64 0, .int .i64 0, .int .i64 0]) (by simp [results, Try.results10, go_sem, *]) rfl ⟨by rw [HN.out]; rfl, by go_grown⟩
    · have HN : Hid (atR ns t = atL ns t) := by
        show _ = _
        rw [atR, if_pos ⟨HY.out, ht⟩]
      have ht0 : 0 ≤ t := (time_iff.1 ht).1
      clear ht
      go_wp2_with fail
      refine (at_c b d ns t HY.out ht0 _ HS1.out).mono ?_
      rintro e w3 ⟨rfl, hb⟩
      have HR3 := HR1.out.below hb
      have r0 := HR3.cell 0 _ rfl
      have r1 := HR3.cell 1 _ rfl
      have r2 := HR3.cell 2 _ rfl
      have f0 := HR3.free 0
      have f1 := HR3.free 1
      have f2 := HR3.free 2
      have B8 := below_then HB1.out hb
      clear hb HR3
      generalize atL ns t = m at HN
      go_wp2_with fail
      exact bodyPost_ret (v := .agg #[.int .i64 m.a, .int .i64 m.b, .int .i64 m.c]) (by simp [results, Try.results10, go_sem, *]) rfl ⟨by rw [HN.out], by go_grown⟩
end Go.Proofs.Ytdmgcbagijiohaa
