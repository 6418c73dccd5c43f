/- A heap of a list: the specification's HeapOf. -/
import Derived.Test.YtdmmjggkdkmeaaaHpE
namespace Go.Proofs.Ytdmmjggkdkmeaaa
open Go.ChangeShapes Go.WideShapes Go.ChangeAt Go.RowKit

theorem HOk.due {l : List Du} (h : HOk l) {x : Du} (hx : x ∈ l) : dueB x = true := by
  obtain ⟨i, hi, rfl⟩ := List.getElem_of_mem hx
  have := (h.2 i hi).1
  rw [dg_eq hi] at this
  exact this
theorem hok_of {l : List Du} (h1 : l.length ≤ 200) (h2 : ∀ x ∈ l, dueB x = true) (h3 : DHp l) : HOk l :=
  ⟨h1, fun i hi => ⟨by rw [dg_eq hi]; exact h2 _ (List.getElem_mem hi), fun i0 => h3 i i0 hi⟩⟩
theorem push_ok {l : List Du} {x : Du} (h : POkh l x) : HOk (dpush l x) := by
  refine hok_of ?_ (fun y hy => ?_) (dpush_heap h.1.heap x)
  · rw [dpush_len]; have := h.1.1; have := h.2.2; omega
  · have := (dpush_perm l x).mem_iff.1 hy
    rw [List.mem_append, List.mem_singleton] at this
    rcases this with hm | rfl
    · exact h.1.due hm
    · exact h.2.1
theorem nil_ok : HOk [] := ⟨Nat.zero_le _, fun i hi => by cases hi⟩
/-- What is told of a list: a heap of them all, nothing where one is wrong or there are too many. -/
def dof : List Du → List Du → Option (List Du)
  | acc, [] => some acc
  | acc, x :: r => if dueB x = true ∧ acc.length ≠ 200 then dof (dpush acc x) r else none
def RetO (w : World) (r : Option (List Du)) (e : Ending) (w' : World) : Prop :=
  ∃ k v, e = .returned (.tuple #[v, .bool k]) ∧ r.isSome = k ∧ AnsD w.heap.size w'.heap.size w' (r.getD []).length (flatD (r.getD [])) v ∧ Below w.heap.size w w'
set_option maxHeartbeats 4000000 in
set_option maxRecDepth 100000 in
theorem specHeapOf_c (b : Option Addr) (d : Nat) (l : List Du) (hl : l.length ≤ 1048576) (w : World) (h : Sq w b (flatD l)) :
    Calls Try.prog 12 #[.slice b l.length d] w (RetO w (dof [] l)) := by
  have H : Hid (Sq w b (flatD l)) := h
  clear h
  go_enter Try.func12, Try.ntmps12
  go_wp2_with fail
  have HO0 : Hid (AnsD w.heap.size (w.alloc (.cells #[] 30)).heap.size (w.alloc (.cells #[] 30)) ([] : List Du).length (flatD []) (.slice (some ⟨w.heap.size, 0, none⟩) 0 0)) := AnsD.none _ _ _ _ _
  have HB0 : Hid (Below w.heap.size w (w.alloc (.cells #[] 30))) := low_alloc _ _
  generalize w.alloc (.cells #[] 30) = w0 at HO0 HB0 ⊢
  go_loopw [4, 12] (fun o i wr => ∃ (j : Nat) (acc : List Du), j ≤ l.length ∧ i = .int .i64 j ∧ dof acc (l.drop j) = dof [] l ∧ HOk acc ∧ AnsD w.heap.size wr.heap.size wr acc.length (flatD acc) o ∧ Below w.heap.size w wr) (fun _ i _ => l.length - (intOf i).toNat)
  case atStart => exact ⟨0, [], Nat.zero_le _, rfl, rfl, nil_ok, HO0.out, HB0.out⟩
  case round =>
    obtain ⟨j, acc, hj, rfl, hdo, hok, hans, hb⟩ := hrel
    have HB : Hid (Below w.heap.size w wr) := hb
    have HA : Hid (AnsD w.heap.size wr.heap.size wr acc.length (flatD acc) u4) := hans
    have HD : Hid (dof acc (l.drop j) = dof [] l) := hdo
    have HK : Hid (HOk acc) := hok
    clear hb hans hdo hok HO0 HB0
    by_cases hlt : j < l.length
    · have hj0 : (0 : Int) ≤ (j : Int) := by omega
      have hj1 : (j : Int) < (l.length : Int) := by omega
      have HX : Hid (l[j]? = some l[j]) := List.getElem?_eq_getElem hlt
      have HN : Hid (l.drop j = l[j] :: l.drop (j + 1)) := List.drop_eq_getElem_cons hlt
      obtain ⟨p, rfl⟩ := H.out.some_ofD j hlt
      generalize l[j] = x at HX HN
      obtain ⟨a, cap, rfl, hsq⟩ := HA.out.form
      have HS : Hid (Sq wr a (flatD acc)) := hsq
      clear hsq
      have c0 := (H.out.below HB.out).due0 HX.out
      have c1 := (H.out.below HB.out).dueK HX.out 1 (by decide) _ rfl
      go_wp2_with fail
      have HB2 : Hid (Below w.heap.size w (wr.alloc (.cells #[.int .i64 x.t, .int .i64 x.n] 30))) := behind_alloc HB.out _
      have HS2 : Hid (Sq (wr.alloc (.cells #[.int .i64 x.t, .int .i64 x.n] 30)) a (flatD acc)) := HS.out.below (low_alloc _ _)
      clear c0 c1
      generalize wr.alloc (.cells #[.int .i64 x.t, .int .i64 x.n] 30) = U at HB2 HS2 ⊢
      refine (specHeapPush_c a cap acc (by have := HK.out.1; omega) x U HS2.out).mono ?_
      rintro e w2 ⟨k, v, rfl, hk, ha, hb⟩
      have HKk : Hid (k = true ↔ POkh acc x) := hk
      have HA2 : Hid (AnsD U.heap.size w2.heap.size w2 (bif k then dpush acc x else []).length (flatD (bif k then dpush acc x else [])) v) := ha
      have HB3 : Hid (Below w.heap.size w w2) := below_then HB2.out hb
      have hU := HB2.out.size
      clear hk ha hb
      cases k
      · have HE : Hid (dof [] l = none) := by
          show _ = _
          rw [← HD.out, HN.out, dof, if_neg (fun t => by have := HKk.out.2 ⟨HK.out, t.1, t.2⟩; cases this)]
        go_wp2_with fail
        go_ret2
        exact ⟨false, _, rfl, by rw [HE.out]; rfl, by rw [HE.out]; exact AnsD.none _ _ _ _ _, HB3.out⟩
      · have HP : Hid (POkh acc x) := HKk.out.1 rfl
        have HE : Hid (dof (dpush acc x) (l.drop (j + 1)) = dof [] l) := by
          show _ = _
          rw [← HD.out, HN.out, dof, if_pos ⟨HP.out.2.1, HP.out.2.2⟩]
        go_wp2_with fail
        exact ⟨⟨j + 1, dpush acc x, by omega, by go_num, HE.out, push_ok HP.out, HA2.out.wide hU (Nat.le_refl _), HB3.out⟩, by simp [intOf]; omega⟩
    · have HE : Hid (dof [] l = some acc) := by
        show _ = _
        rw [← HD.out, List.drop_eq_nil_of_le (by omega)]; rfl
      go_wp2_with fail
      go_ret2
      exact ⟨true, _, rfl, by rw [HE.out]; rfl, by rw [HE.out]; exact HA.out, HB.out⟩
end Go.Proofs.Ytdmmjggkdkmeaaa
