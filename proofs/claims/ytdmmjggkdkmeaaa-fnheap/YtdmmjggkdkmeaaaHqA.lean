/- Dues and right heaps of them: the program's tests. -/
import Derived.Test.YtdmmjggkdkmeaaaHpB
import Derived.Test.YtdmmjggkdkmeaaaJbA
import Derived.Test.YtdmmjggkdkmeaaaHpC
namespace Go.Proofs.Ytdmmjggkdkmeaaa
open Go.ChangeShapes Go.WideShapes Go.ChangeAt Go.RowKit

theorem right_c (d : Du) (w : World) : Calls Try.prog 34 #[.agg #[.int .i64 d.t, .int .i64 d.n]] w fun e w' => e = .returned (.bool (dueB d)) ∧ Below w.heap.size w w' := by
  have h8 := timeOk_c d.t
  unfold dueB
  cases ht : timB d.t
  · rw [ht] at h8
    clear ht
    go_enter Try.func34, Try.ntmps34
    go_wp2_with (refine (h8 _).mono ?_; rintro e w2 ⟨rfl, rfl⟩)
    go_ret
    exact ⟨rfl, low_alloc _ _⟩
  · rw [ht] at h8
    clear ht
    have h9 := between_c 1 d.n 999
    go_enter Try.func34, Try.ntmps34
    go_wp2_with (first | (refine (h8 _).mono ?_; rintro e w2 ⟨rfl, rfl⟩) | (refine (h9 _).mono ?_; rintro e w2 ⟨rfl, rfl⟩))
    go_ret
    exact ⟨by simp [btwB], low_alloc _ _⟩
theorem aheadOf_c (a b : Du) (w : World) : Calls Try.prog 38 #[.agg #[.int .i64 a.t, .int .i64 a.n], .agg #[.int .i64 b.t, .int .i64 b.n]] w fun e w' => e = .returned (.bool (duL a b)) ∧ Below w.heap.size w w' := by
  unfold duL
  by_cases h1 : a.t < b.t
  · go_enter Try.func38, Try.ntmps38
    go_wp2_with fail
    go_ret
    exact ⟨by simp [h1], by go_grown⟩
  · cases h2 : (a.t == b.t)
    · go_enter Try.func38, Try.ntmps38
      go_wp2_with fail
      go_ret
      exact ⟨by simp [h1], by go_grown⟩
    · go_enter Try.func38, Try.ntmps38
      go_wp2_with fail
      go_ret
      exact ⟨by simp; omega, by go_grown⟩
theorem implDueFirst_c (a b : Du) (w : World) : Calls Try.prog 14 #[.agg #[.int .i64 a.t, .int .i64 a.n], .agg #[.int .i64 b.t, .int .i64 b.n]] w fun e w' => e = .returned (.bool (duL a b)) ∧ Below w.heap.size w w' := by
  go_enter Try.func14, Try.ntmps14
  go_wp2_with fail
  refine (aheadOf_c a b _).mono ?_
  rintro e w1 ⟨rfl, hb⟩
  go_wp2_with fail
  go_ret
  exact ⟨rfl, below_then (behind_alloc (low_alloc _ _) _) hb⟩
theorem parentOf_c (i m : Nat) (hi : 0 < i) (hl : i ≤ 1048576) (hm : m = (i - 1) / 2) (w : World) : Calls Try.prog 51 #[.int .i64 (i : Int)] w fun e w' => e = .returned (.int .i64 (m : Int)) ∧ w' = w := by
  have h0 : (0 : Int) ≤ (i : Int) := by omega
  have h2 : (i : Int) ≤ 1048576 := by omega
  have h1 : ((i : Int) - 1).tdiv 2 = (m : Int) := by rw [Int.tdiv_eq_ediv_of_nonneg (by omega)]; omega
  have hm0 : (0 : Int) ≤ (m : Int) := by omega
  have hm1 : (m : Int) ≤ 1048576 := by omega
  clear hm hl
  go_enter Try.func51, Try.ntmps51
  go_wp2_with fail
  go_ret
  exact ⟨by simp, rfl⟩
theorem wrong_c (d : Du) (w : World) : Calls Try.prog 39 #[.agg #[.int .i64 d.t, .int .i64 d.n]] w fun e w' => e = .returned (.bool (!dueB d)) ∧ Below w.heap.size w w' := by
  go_enter Try.func39, Try.ntmps39
  go_wp2_with fail
  refine (right_c d _).mono ?_
  rintro e w1 ⟨rfl, hb⟩
  go_wp2_with fail
  go_ret
  exact ⟨rfl, below_then (low_alloc _ _) hb⟩
set_option maxHeartbeats 1000000 in
theorem indexWrong_c (b : Option Addr) (c : Nat) (l : List Du) (hl : l.length ≤ 1048576) (w : World) (h : Sq w b (flatD l)) :
    Calls Try.prog 50 #[.slice b l.length c, .func (.func 39) #[] #[]] w fun e w' => ∃ r : Int, e = .returned (.int .i64 r) ∧ (0 ≤ r ↔ ¬ ∀ x ∈ l, dueB x = true) ∧ Below w.heap.size w w' := by
  have H : Hid (Sq w b (flatD l)) := h
  clear h
  go_enter Try.func50, Try.ntmps50
  go_wp2_with fail
  go_loopw [8] (fun i wr => ∃ k : Nat, k ≤ l.length ∧ i = .int .i64 k ∧ (∀ x ∈ l.take k, dueB x = true) ∧ Below w.heap.size w wr) (fun i _ => l.length - (intOf i).toNat)
  case atStart => exact ⟨0, Nat.zero_le _, rfl, fun x h => by simp at h, Below.refl _ _⟩
  case round =>
    obtain ⟨k, hk, rfl, hi5, hb⟩ := hrel
    have HI : Hid (∀ x ∈ l.take k, dueB x = true) := hi5
    have HB : Hid (Below w.heap.size w wr) := hb
    clear hi5 hb
    by_cases hlt : k < l.length
    · have hj0 : (0 : Int) ≤ (k : Int) := by omega
      have hj1 : (k : Int) < (l.length : Int) := by omega
      have HX : Hid (l[k]? = some l[k]) := List.getElem?_eq_getElem hlt
      obtain ⟨p, rfl⟩ := H.out.some_ofD k hlt
      generalize l[k] = x at HX
      have c0 := (H.out.below HB.out).due0 HX.out
      have c1 := (H.out.below HB.out).dueK HX.out 1 (by decide) _ rfl
      go_wp2_with fail
      refine (wrong_c x _).mono ?_
      rintro e w1 ⟨rfl, hb⟩
      have HB1 : Hid (Below w.heap.size w w1) := below_then HB.out hb
      clear hb c0 c1
      cases hd : dueB x
      · have HN : Hid (¬ ∀ x ∈ l, dueB x = true) := fun h => by
          have := h x (List.mem_of_getElem? HX.out)
          rw [hd] at this
          cases this
        clear hd
        go_wp2_with fail
        go_ret
        exact ⟨k, rfl, ⟨fun _ => HN.out, fun _ => hj0⟩, HB1.out⟩
      · have HI1 : Hid (∀ x ∈ l.take (k + 1), dueB x = true) := fun y hy => by
          rw [List.take_add_one, HX.out, Option.toList_some] at hy
          rcases List.mem_append.1 hy with hy | hy
          · exact HI.out y hy
          · have e := List.mem_singleton.1 hy
            subst e
            exact hd
        clear hd
        go_wp2_with fail
        go_roundw
        case rel => exact ⟨k + 1, by omega, by go_num, HI1.out, HB1.out⟩
        case measure => simp [intOf]; omega
    · have HAll : Hid (∀ x ∈ l, dueB x = true) := fun n hn => HI.out n (by rw [List.take_of_length_le (by omega)]; exact hn)
      go_wp2_with fail
      go_ret
      exact ⟨-1, rfl, ⟨fun h => by omega, fun h => absurd HAll.out h⟩, HB.out⟩
theorem anyWrong_c (b : Option Addr) (c : Nat) (l : List Du) (hl : l.length ≤ 1048576) (w : World) (h : Sq w b (flatD l)) :
    Calls Try.prog 40 #[.slice b l.length c, .func (.func 39) #[] #[]] w fun e w' => ∃ k : Bool, e = .returned (.bool k) ∧ (k = false ↔ ∀ x ∈ l, dueB x = true) ∧ Below w.heap.size w w' := by
  have H : Hid (Sq w b (flatD l)) := h
  clear h
  go_enter Try.func40, Try.ntmps40
  go_wp2_with fail
  refine (indexWrong_c b c l hl _ H.out).mono ?_
  rintro e w1 ⟨r, rfl, hr, hb⟩
  have HR : Hid (decide (0 ≤ r) = false ↔ ∀ x ∈ l, dueB x = true) := by
    show _ ↔ _
    rw [decide_eq_false_iff_not, hr, Classical.not_not]
  have HB : Hid (Below w.heap.size w w1) := hb
  clear hr hb
  go_wp2_with fail
  go_ret
  exact ⟨decide (0 ≤ r), rfl, HR.out, HB.out⟩
/-- A due's method, looked up through an interface value. -/
theorem ahead_method (x : Du) (w : World) : (method 184 30 (.agg #[.int .i64 x.t, .int .i64 x.n]) "loop.example/g00454/impl.aheadOf").run Try.prog w = .ok (38, .agg #[.int .i64 x.t, .int .i64 x.n]) w := by kernel_rfl
/-- The first j stand right to those above them. -/
def DTo (l : List Du) (j : Nat) : Prop := ∀ i, 0 < i → i < j → duL (dg l i) (dg l ((i - 1) / 2)) = false
set_option maxHeartbeats 4000000 in
set_option maxRecDepth 100000 in
theorem ordered_c (b : Option Addr) (c : Nat) (l : List Du) (hl : l.length ≤ 1048576) (w : World) (h : Sq w b (flatD l)) :
    Calls Try.prog 41 #[.slice b l.length c] w (Says w (DHp l)) := by
  have H : Hid (Sq w b (flatD l)) := h
  clear h
  go_enter Try.func41, Try.ntmps41
  go_wp2_with fail
  go_loopw [3] (fun i wr => ∃ j : Nat, 0 < j ∧ j ≤ l.length + 1 ∧ i = .int .i64 j ∧ DTo l j ∧ Below w.heap.size w wr) (fun i _ => l.length + 1 - (intOf i).toNat)
  case atStart => exact ⟨1, by omega, by omega, rfl, fun i hi h => by omega, Below.refl _ _⟩
  case round =>
    obtain ⟨j, hj00, hj, rfl, hto, hb⟩ := hrel
    have HI : Hid (DTo l j) := hto
    have HB : Hid (Below w.heap.size w wr) := hb
    clear hto hb
    by_cases hlt : j < l.length
    · have hj0 : (0 : Int) ≤ (j : Int) := by omega
      have hj1 : (j : Int) < (l.length : Int) := by omega
      obtain ⟨m, hm⟩ : ∃ m, m = (j - 1) / 2 := ⟨_, rfl⟩
      have hml : m < l.length := by omega
      have HX : Hid (l[j]? = some l[j]) := List.getElem?_eq_getElem hlt
      have HY : Hid (l[m]? = some l[m]) := List.getElem?_eq_getElem hml
      have HG : Hid (dg l j = l[j]) := dg_eq hlt
      have HG2 : Hid (dg l m = l[m]) := dg_eq hml
      obtain ⟨p, rfl⟩ := H.out.some_ofD j hlt
      generalize l[j] = x at HX HG
      generalize l[m] = y at HY HG2
      have hm0 : (0 : Int) ≤ (m : Int) := by omega
      have hm1 : (m : Int) < (l.length : Int) := by omega
      have hsome := beh_some wr
      have x0 := Beh.due0 (H.out.below HB.out) HX.out
      have x1 := Beh.dueK (H.out.below HB.out) HX.out 1 (by decide) _ rfl
      have y0 := Beh.due0 (H.out.below HB.out) HY.out
      have y1 := Beh.dueK (H.out.below HB.out) HY.out 1 (by decide) _ rfl
      have HP : Hid (∀ W : World, Calls Try.prog 51 #[.int .i64 (j : Int)] W fun e w' => e = .returned (.int .i64 (m : Int)) ∧ Below W.heap.size W w') := fun W => (parentOf_c j m hj00 (by omega) hm W).mono fun e w' h => ⟨h.1, h.2 ▸ Below.refl _ _⟩
      have HA : Hid (∀ W : World, Calls Try.prog 38 #[.agg #[.int .i64 x.t, .int .i64 x.n], .agg #[.int .i64 y.t, .int .i64 y.n]] W fun e w' => e = .returned (.bool (duL x y)) ∧ Below W.heap.size W w') := fun W => aheadOf_c x y W
      have hmt := ahead_method x
      cases hd : duL x y
      · rw [hd] at HA
        have HI2 : Hid (DTo l (j + 1)) := fun i hi h => by
          rcases Nat.lt_or_ge i j with h' | h'
          · exact HI.out i hi h'
          · have e : i = j := by omega
            subst e
            rw [← hm, HG.out, HG2.out, hd]
        clear hd hm hml HI
        go_wp2_with fail
        refine wp_region_beh (by kernel_rfl) (by kernel_rfl) ?_
        repeat (go_big_quiet_step (first | (go_at_call 51; exact calls_beh (HP.out _)) | (go_at_call 38; exact calls_beh (HA.out _))))
        refine wpQuiet_nil ?_
        rintro ⟨w2, hb2⟩
        have HB2 : Hid (Below w.heap.size w w2) := below_then HB.out hb2
        go_wp2_with fail
        go_roundw
        case rel => exact ⟨j + 1, by omega, by omega, by go_num, HI2.out, HB2.out⟩
        case measure => simp [intOf]; omega
      · rw [hd] at HA
        have HN : Hid (¬ DHp l) := fun t => by
          have := t j hj00 hlt
          rw [← hm, HG.out, HG2.out, hd] at this
          cases this
        clear hd hm hml HI
        go_wp2_with fail
        refine wp_region_beh (by kernel_rfl) (by kernel_rfl) ?_
        repeat (go_big_quiet_step (first | (go_at_call 51; exact calls_beh (HP.out _)) | (go_at_call 38; exact calls_beh (HA.out _))))
        refine wpQuiet_nil ?_
        rintro ⟨w2, hb2⟩
        have HB2 : Hid (Below w.heap.size w w2) := below_then HB.out hb2
        go_wp2_with fail
        go_ret
        exact says_no rfl HN.out HB2.out
    · have HY : Hid (DHp l) := fun i hi h => HI.out i hi (by omega)
      go_wp2_with fail
      go_ret
      exact ⟨true, rfl, by simp [HY.out], HB.out⟩
set_option maxHeartbeats 1000000 in
theorem implHeapOk_c (b : Option Addr) (c : Nat) (l : List Du) (hl : l.length ≤ 1048576) (w : World) (h : Sq w b (flatD l)) :
    Calls Try.prog 15 #[.slice b l.length c] w (Says w (HOk l)) := by
  have H : Hid (Sq w b (flatD l)) := h
  clear h
  by_cases h200 : 200 < l.length
  · have hi : (200 : Int) < (l.length : Int) := by omega
    have HN : Hid (¬ HOk l) := fun t => by have := t.1; omega
    go_enter Try.func15, Try.ntmps15
    go_wp2_with fail
    go_ret
    exact says_no rfl HN.out (Below.refl _ _)
  · have hi : ¬ (200 : Int) < (l.length : Int) := by omega
    go_enter Try.func15, Try.ntmps15
    go_wp2_with fail
    refine (anyWrong_c b c l hl _ H.out).mono ?_
    rintro e w1 ⟨k, rfl, hk, hb⟩
    have HB : Hid (Below w.heap.size w w1) := hb
    have HK : Hid (k = false ↔ ∀ x ∈ l, dueB x = true) := hk
    clear hk hb
    cases k
    · have HD : Hid (∀ x ∈ l, dueB x = true) := HK.out.1 rfl
      go_wp2_with fail
      refine (ordered_c b c l hl _ (H.out.below HB.out)).mono ?_
      rintro e w2 ⟨k, rfl, hk, hb⟩
      have HB2 : Hid (Below w.heap.size w w2) := below_then HB.out hb
      have HK2 : Hid (k = true ↔ HOk l) := hk.trans ⟨fun t => ⟨by omega, fun i hi => ⟨by rw [dg_eq hi]; exact HD.out _ (List.getElem_mem _), fun h0 => t i h0 hi⟩⟩, fun t => t.heap⟩
      clear hk hb
      go_wp2_with fail
      go_ret
      exact ⟨k, rfl, HK2.out, HB2.out⟩
    · have HN : Hid (¬ HOk l) := fun t => by
        have := HK.out.2 (fun x hx => by
          obtain ⟨i, hi, e⟩ := List.getElem_of_mem hx
          have := (t.2 i hi).1
          rw [dg_eq hi, e] at this
          exact this)
        cases this
      go_wp2_with fail
      go_ret
      exact says_no rfl HN.out HB.out
end Go.Proofs.Ytdmmjggkdkmeaaa
