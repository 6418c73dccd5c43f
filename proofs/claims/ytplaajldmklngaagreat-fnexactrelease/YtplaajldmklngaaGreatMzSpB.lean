/- Profiles and rooms copied: the specification. -/
import Derived.Test.YtplaajldmklngaaGreatMzCoC
namespace Go.Proofs.YtplaajldmklngaaGreat
open Go.ChangeShapes Go.WideShapes Go.ChangeAt Go.RowKit

set_option maxHeartbeats 2000000 in
theorem l04Prof_c (q : Addr) (d : Nat) (ns : List Nd) (hl : ns.length ≤ 1048576) (hn : 0 < ns.length) (w : World) (h : Sq w (some q) (flat ns)) :
    Calls Tryz.prog 157 #[.agg #[.slice (some q) ns.length d]] w fun e w' => ∃ g cap, e = .returned (.agg #[.slice (some ⟨g, 0, none⟩) ns.length cap]) ∧ w.heap.size ≤ g ∧ Row w' g (flat ns) ∧ Below w.heap.size w w' := by
  have H : Hid (Sq w (some q) (flat ns)) := h
  clear h
  obtain ⟨i0, hi, hz0, hz1, hz2⟩ := info_parts infoPt
  generalize hV : (w.alloc (.cells #[.slice (some q) ns.length d] 46)).alloc (.cells #[.slice none 0 0] 46) = V
  have BV : Hid (Below w.heap.size w V) := by subst hV; exact behind_alloc (low_alloc _ _) _
  have hVs : V.heap.size = w.heap.size + 1 + 1 := by subst hV; simp [go_sem]
  have X0 : Hid (Row V (w.heap.size + 1) [.slice none 0 0]) := by
    subst hV
    have h := row_fresh (w.alloc (.cells #[.slice (some q) ns.length d] 46)) [.slice none 0 0] 46
    rw [show (w.alloc (.cells #[.slice (some q) ns.length d] 46)).heap.size = w.heap.size + 1 by simp [go_sem]] at h
    exact h
  have hO : Hid ((V.alloc (.cells #[] 180)).ownsRow V.heap.size 180 4 (.slice (some ⟨V.heap.size, 0, none⟩) 0 0) 0 []) := World.ownsRow_made V #[] 0 (Nat.le_refl _) (by decide) rfl
  have hB : Hid (Below V.heap.size V (V.alloc (.cells #[] 180))) := low_alloc _ _
  rw [hVs] at hO
  subst hV
  go_enter Tryz.func157, Tryz.ntmps157
  go_wp2_with (at_builtin; refine wpList_append_own _ rfl _ _ 44 rfl (w.heap.size + 1 + 1) 180 i0 (.agg #[.int .i64 0, .int .i64 0, .int .i64 0, .int .i64 0]) 4 32 Tryz.underlying44 hi hz0 hz1 hz2 rfl (by decide) _ _ _ rfl hO.out q ns.length d (flat ns) rfl (by rw [flat_len]; omega) ?c1 ?c2 ?c3 ?c4 ?c5 ?_)
  case c1 =>
    intro k u hk
    obtain ⟨q', hq, _, hc⟩ := ((H.out.below BV.out).below hB.out).cell k u hk
    cases hq
    exact hc
  case c2 =>
    intro u hu
    obtain ⟨n, hn, hu⟩ := List.mem_flatMap.1 hu
    simp only [Nd.cells, List.mem_cons, List.not_mem_nil, or_false] at hu
    rcases hu with rfl | rfl | rfl | rfl <;> rfl
  case c3 => unfold maxLen; omega
  case c4 => omega
  case c5 => simp [go_sem]
  · intro v1 w6 hown1 hgrow1 _
    have hown2 : w6.ownsRow (w.heap.size + 1 + 1) 180 4 v1 ns.length (flat ns) := by simpa using hown1
    obtain ⟨g, cap, rfl, hg, _, hr⟩ := own4 hown2 hn
    have BB := (below_then BV.out hB.out)
    have B6 : Hid (Below w.heap.size w w6) := BB.grown hgrow1 (by have := BB.size; omega) (fun q hq => by have := (hO.out.lt q hq).1; omega)
    have X6 : Hid (Row w6 (w.heap.size + 1) [.slice none 0 0]) := (X0.out.below hB.out).far hgrow1 (fun e => by have := (hO.out.lt _ e.symm).1; omega)
    have R6 : Hid (Row w6 g (flat ns)) := hr
    clear hown1 hgrow1 hown2 hr BB
    have x0 := X6.out.cell 0 _ rfl
    have f0 := X6.out.free 0
    clear hO hB BV X0
    go_wp2_with fail
    have G := R6.out.apart (w.heap.size + 1) 0 (.slice (some ⟨g, 0, none⟩) ns.length cap) (by omega)
    have B8 := B6.out
    exact bodyPost_ret (v := .agg #[.slice (some ⟨g, 0, none⟩) ns.length cap]) (by simp [results, Tryz.results157, go_sem, *]) rfl ⟨g, cap, rfl, by omega, G, by go_grown⟩
end Go.Proofs.YtplaajldmklngaaGreat
