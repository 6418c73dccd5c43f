/- ProfCut: the program and the specification. -/
import Derived.Test.YtmpjebkjopfejaaGreatMgRg
import Derived.Test.YtmpjebkjopfejaaGreatMgRd
import Derived.Laws.Cover3
import Derived.Deep.RegionWith
import Derived.Deep.DeepCutAuto
namespace Go.Proofs.YtmpjebkjopfejaaGreat
open Go.ChangeShapes Go.WideShapes Go.ChangeAt Go.RowKit

/-- The points of the first j that are later. -/
def lateTo (ns : List Nd) (t : Int) (j : Nat) : List Nd := (ns.take j).filter (fun n => decide (t < n.l))
theorem late_next {ns : List Nd} {t : Int} {j : Nat} {n : Nd} (h : ns[j]? = some n) : lateTo ns t (j + 1) = if t < n.l then lateTo ns t j ++ [n] else lateTo ns t j := by
  rw [lateTo, List.take_add_one, h, Option.toList_some, List.filter_append]
  by_cases hc : t < n.l
  · rw [if_pos hc]; simp [lateTo, hc]
  · rw [if_neg hc]; simp [lateTo, hc]
theorem late_len (ns : List Nd) (t : Int) (j : Nat) : (lateTo ns t j).length ≤ j := by
  have h1 := List.length_filter_le (fun n : Nd => decide (t < n.l)) (ns.take j)
  have h2 := List.length_take_le j ns
  unfold lateTo
  omega

theorem late_all {ns : List Nd} {t : Int} {s : Nat} (hr : Rising ns) (hs : StepAt ns t s) : lateTo ns t ns.length = ns.drop (s + 1) := by
  obtain ⟨n, hn, hle, hlt⟩ := hs
  rw [lateTo, List.take_length]
  conv => lhs; rw [← List.take_append_drop (s + 1) ns]
  rw [List.filter_append]
  have h1 : (ns.take (s + 1)).filter (fun n => decide (t < n.l)) = [] := by
    rw [List.filter_eq_nil_iff]
    intro m hm
    obtain ⟨k, hk⟩ := List.getElem?_of_mem hm
    rw [List.getElem?_take] at hk
    split at hk
    · rename_i hks
      by_cases e : k = s
      · subst e; rw [hn] at hk; cases hk; simp; omega
      · have := hr.mono hk hn (by omega); simp; omega
    · cases hk
  have h2 : (ns.drop (s + 1)).filter (fun n => decide (t < n.l)) = ns.drop (s + 1) := by
    rw [List.filter_eq_self]
    intro m hm
    obtain ⟨k, hk⟩ := List.getElem?_of_mem hm
    rw [List.getElem?_drop] at hk
    have := hlt _ _ (by omega) hk
    simpa using this
  rw [h1, h2, List.nil_append]

/-- A point at 0 with what is free at t. -/
def at0 (ns : List Nd) (t : Int) : Nd := ⟨0, (atL ns t).a, (atL ns t).b, (atL ns t).c⟩
/-- What 'ProfCut' answers. -/
noncomputable def cutR (ns : List Nd) (t : Int) : List Nd := open Classical in if POk ns ∧ timeB t = true then at0 ns t :: lateTo ns t ns.length else []
theorem cut_len (ns : List Nd) (t : Int) : (cutR ns t).length ≤ 201 := by
  unfold cutR
  split
  · rename_i h
    have := late_len ns t ns.length
    have := h.1.few
    simp
    omega
  · simp

theorem owns_one (V : World) (n : Nd) : (V.alloc (.cells #[.int .i64 n.l, .int .i64 n.a, .int .i64 n.b, .int .i64 n.c] 109)).ownsRow V.heap.size 109 4 (.slice (some ⟨V.heap.size, 0, none⟩) 1 1) 1 (flat [n]) :=
  ⟨rfl, Or.inr ⟨V.heap.size, 1, #[.int .i64 n.l, .int .i64 n.a, .int .i64 n.b, .int .i64 n.c], rfl, Nat.le_refl _, by show (V.heap.push _)[V.heap.size]? = _; simp, Nat.le_refl _, by decide, rfl, rfl⟩⟩

set_option maxHeartbeats 1000000 in
theorem clone_c (q : Addr) (D : Nat) (rs : List Nd) (hl : rs.length ≤ 1048576) (w : World) (h : Sq w (some q) (flat rs)) :
    Calls Tryz.prog 117 #[.slice (some q) rs.length D] w fun e w' => ∃ v, e = .returned v ∧ w'.ownsRow w.heap.size 109 4 v rs.length (flat rs) ∧ Below w.heap.size w w' := by
  have H : Hid (Sq w (some q) (flat rs)) := h
  clear h
  obtain ⟨i0, hi, hz0, hz1, hz2⟩ := info_parts infoPt
  have hO : Hid ((w.alloc (.cells #[] 109)).ownsRow w.heap.size 109 4 (.slice (some ⟨w.heap.size, 0, none⟩) 0 0) 0 []) := World.ownsRow_made w #[] 0 (Nat.le_refl _) (by decide) rfl
  have hB : Hid (Below w.heap.size w (w.alloc (.cells #[] 109))) := low_alloc _ _
  have heq : ∀ W : World, (binOp .eql 42 (.slice (some q) rs.length D) (.slice none 0 0)).run Tryz.prog W = .ok (.bool false) W := fun W => by
    simp only [binOp]
    simp [run_equal_slice_nil W 42 109 (some q) rs.length D Tryz.underlying42]
  go_enter Tryz.func117, Tryz.ntmps117
  go_wp2_with (at_builtin; refine wpList_append_own _ rfl _ _ 42 rfl w.heap.size 109 i0 (.agg #[.int .i64 0, .int .i64 0, .int .i64 0, .int .i64 0]) 4 32 Tryz.underlying42 hi hz0 hz1 hz2 rfl (by decide) _ _ _ rfl hO.out q rs.length D (flat rs) rfl (by rw [flat_len]; omega) ?c1 ?c2 ?c3 ?c4 ?c5 ?_)
  case c1 =>
    intro k u hk
    obtain ⟨q', hq, _, hc⟩ := (H.out.below hB.out).cell k u hk
    cases hq
    exact hc
  case c2 =>
    intro u hu
    obtain ⟨n, hn, hu⟩ := List.mem_flatMap.1 hu
    simp only [Nd.cells, List.mem_cons, List.not_mem_nil, or_false] at hu
    rcases hu with rfl | rfl | rfl | rfl <;> rfl
  case c3 => unfold maxLen; omega
  case c4 => omega
  case c5 => simp
  · intro v1 w6 hown1 hgrow1 _
    have HB6 : Hid (Below w.heap.size w w6) := hB.out.grown hgrow1 (by simp) (fun q hq => (hO.out.lt q hq).1)
    have HO6 : Hid (w6.ownsRow w.heap.size 109 4 v1 rs.length (flat rs)) := by
      show World.ownsRow _ _ _ _ _ _ _
      simpa using hown1
    clear hown1 hgrow1
    go_wp2_with fail
    go_ret
    exact ⟨v1, rfl, HO6.out, HB6.out⟩
end Go.Proofs.YtmpjebkjopfejaaGreat

namespace Go.Proofs.YtmpjebkjopfejaaGreat
open Go.ChangeShapes Go.WideShapes Go.ChangeAt Go.RowKit

/-- What a function that answers a profile answers. -/
def RetQ (w : World) (r : List Nd) (e : Ending) (w' : World) : Prop := ∃ v, e = .returned (.agg #[v]) ∧ AnsP w.heap.size w'.heap.size w' r.length (flat r) v ∧ Below w.heap.size w w'

theorem cut_no {ns : List Nd} {t : Int} (h : ¬ (POk ns ∧ timeB t = true)) : cutR ns t = [] := by rw [cutR, if_neg h]
theorem cut_yes {ns : List Nd} {t : Int} (h : POk ns) (ht : timeB t = true) : cutR ns t = at0 ns t :: lateTo ns t ns.length := by rw [cutR, if_pos ⟨h, ht⟩]

end Go.Proofs.YtmpjebkjopfejaaGreat
