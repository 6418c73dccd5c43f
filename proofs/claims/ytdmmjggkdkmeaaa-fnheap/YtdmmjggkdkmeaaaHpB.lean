/- A right heap: the specification's. -/
import Derived.Test.YtdmmjggkdkmeaaaDlA
import Derived.Test.YtdmmjggkdkmeaaaNumA
import Derived.Test.YtdmmjggkdkmeaaaTopG
namespace Go.Proofs.Ytdmmjggkdkmeaaa
open Go.ChangeShapes Go.WideShapes Go.ChangeAt Go.RowKit

def dueB (d : Du) : Bool := timB d.t && (decide (1 ≤ d.n) && decide (d.n ≤ 999))
theorem l10Due_c (d : Du) (w : World) : Calls Try.prog 42 #[.agg #[.int .i64 d.t, .int .i64 d.n]] w fun e w' => e = .returned (.bool (dueB d)) ∧ Below w.heap.size w w' := by
  have h8 := l01Time_c d.t
  unfold dueB
  cases ht : timB d.t
  · rw [ht] at h8
    clear ht
    go_enter Try.func42, Try.ntmps42
    go_wp2_with (refine (h8 _).mono ?_; rintro e w2 ⟨rfl, rfl⟩)
    go_ret
    exact ⟨rfl, low_alloc _ _⟩
  · rw [ht] at h8
    clear ht
    by_cases h1 : 1 ≤ d.n
    · by_cases h2 : d.n ≤ 999
      · go_enter Try.func42, Try.ntmps42
        go_wp2_with (refine (h8 _).mono ?_; rintro e w2 ⟨rfl, rfl⟩)
        go_ret
        exact ⟨by simp [h1, h2], low_alloc _ _⟩
      · go_enter Try.func42, Try.ntmps42
        go_wp2_with (refine (h8 _).mono ?_; rintro e w2 ⟨rfl, rfl⟩)
        go_ret
        exact ⟨by simp [h1], low_alloc _ _⟩
    · go_enter Try.func42, Try.ntmps42
      go_wp2_with (refine (h8 _).mono ?_; rintro e w2 ⟨rfl, rfl⟩)
      go_ret
      exact ⟨by simp; omega, low_alloc _ _⟩
theorem specDueFirst_c (a b : Du) (w : World) : Calls Try.prog 16 #[.agg #[.int .i64 a.t, .int .i64 a.n], .agg #[.int .i64 b.t, .int .i64 b.n]] w fun e w' => e = .returned (.bool (duL a b)) ∧ Below w.heap.size w w' := by
  unfold duL
  by_cases h1 : a.t < b.t
  · go_enter Try.func16, Try.ntmps16
    go_wp2_with fail
    go_ret
    exact ⟨by simp [h1], by go_grown⟩
  · cases h2 : (a.t == b.t)
    · go_enter Try.func16, Try.ntmps16
      go_wp2_with fail
      go_ret
      exact ⟨by simp [h1], by go_grown⟩
    · go_enter Try.func16, Try.ntmps16
      go_wp2_with fail
      go_ret
      exact ⟨by simp; omega, by go_grown⟩
/-- The first j are right. -/
def HTo (l : List Du) (j : Nat) : Prop := ∀ i, i < j → dueB (dg l i) = true ∧ (0 < i → duL (dg l i) (dg l ((i - 1) / 2)) = false)
/-- A right heap. -/
def HOk (l : List Du) : Prop := l.length ≤ 200 ∧ HTo l l.length
theorem HOk.heap {l : List Du} (h : HOk l) : DHp l := fun i i0 il => (h.2 i il).2 i0
set_option maxHeartbeats 4000000 in
set_option maxRecDepth 100000 in
theorem specHeapOk_c (b : Option Addr) (d : Nat) (l : List Du) (hl : l.length ≤ 1048576) (w : World) (h : Sq w b (flatD l)) :
    Calls Try.prog 19 #[.slice b l.length d] w (Says w (HOk l)) := by
  have H : Hid (Sq w b (flatD l)) := h
  clear h
  by_cases h200 : 200 < l.length
  · have hi : (200 : Int) < (l.length : Int) := by omega
    have HN : Hid (¬ HOk l) := fun t => by have := t.1; omega
    go_enter Try.func19, Try.ntmps19
    go_wp2_with fail
    go_ret
    exact says_no rfl HN.out (Below.refl _ _)
  · have hi : ¬ (200 : Int) < (l.length : Int) := by omega
    go_enter Try.func19, Try.ntmps19
    go_wp2_with fail
    go_loopw [10] (fun i wr => ∃ j : Nat, j ≤ l.length ∧ i = .int .i64 j ∧ HTo l j ∧ Below w.heap.size w wr) (fun i _ => l.length - (intOf i).toNat)
    case atStart => exact ⟨0, Nat.zero_le _, rfl, fun i hi => by omega, Below.refl _ _⟩
    case round =>
      obtain ⟨j, hj, rfl, hto, hb⟩ := hrel
      have HI : Hid (HTo l j) := hto
      have HB : Hid (Below w.heap.size w wr) := hb
      clear hto hb
      by_cases hlt : j < l.length
      · have hj0 : (0 : Int) ≤ (j : Int) := by omega
        have hj1 : (j : Int) < (l.length : Int) := by omega
        have HX : Hid (l[j]? = some l[j]) := List.getElem?_eq_getElem hlt
        have HG : Hid (dg l j = l[j]) := dg_eq hlt
        obtain ⟨p, rfl⟩ := H.out.some_ofD j hlt
        generalize l[j] = x at HX HG
        have c0 := (H.out.below HB.out).due0 HX.out
        have c1 := (H.out.below HB.out).dueK HX.out 1 (by decide) _ rfl
        go_wp2_with fail
        have HX3 : Hid (Row (wr.alloc (.cells #[.int .i64 x.t, .int .i64 x.n] 30)) wr.heap.size [.int .i64 x.t, .int .i64 x.n]) := row_fresh wr [.int .i64 x.t, .int .i64 x.n] 30
        have HB3 : Hid (Below w.heap.size w (wr.alloc (.cells #[.int .i64 x.t, .int .i64 x.n] 30))) := behind_alloc HB.out _
        generalize wr.alloc (.cells #[.int .i64 x.t, .int .i64 x.n] 30) = U at HX3 HB3 ⊢
        generalize wr.heap.size = X at HX3 ⊢
        have HS3 : Hid (Sq U (some p) (flatD l)) := H.out.below HB3.out
        clear c0 c1 HB
        have hsome := beh_some U
        have x0 := Beh.row HX3.out 0 _ rfl
        have x1 := Beh.row HX3.out 1 _ rfl
        have HDu : Hid (∀ W : World, Calls Try.prog 42 #[.agg #[.int .i64 x.t, .int .i64 x.n]] W fun e w' => e = .returned (.bool (dueB x)) ∧ Below W.heap.size W w') := fun W => l10Due_c x W
        cases hd : dueB x
        · have HN : Hid (¬ HOk l) := fun t => by have := (t.2 j hlt).1; rw [HG.out, hd] at this; cases this
          rw [hd] at HDu
          clear hd
          refine wp_region_beh (by kernel_rfl) (by kernel_rfl) ?_
          repeat (go_big_quiet_step (first | (go_at_call 42; exact calls_beh (HDu.out _))))
          refine wpQuiet_nil ?_
          rintro ⟨w2, hb2⟩
          have HB4 : Hid (Below w.heap.size w w2) := below_then HB3.out hb2
          go_wp2_with fail
          go_ret
          exact says_no rfl HN.out HB4.out
        · rw [hd] at HDu
          by_cases hj00 : j = 0
          · have hg0 : decide (0 < j) = false := by simp; omega
            have HI2 : Hid (HTo l (j + 1)) := fun i hi => by
              have e : i = j := by omega
              subst e
              exact ⟨by rw [HG.out]; exact hd, fun h => by omega⟩
            clear hd hj00
            refine wp_region_beh (by kernel_rfl) (by kernel_rfl) ?_
            repeat (go_big_quiet_step (first | (go_at_call 42; exact calls_beh (HDu.out _))))
            refine wpQuiet_nil ?_
            rintro ⟨w2, hb2⟩
            have HB4 : Hid (Below w.heap.size w w2) := below_then HB3.out hb2
            go_wp2_with fail
            exact ⟨⟨j + 1, by omega, by go_num, HI2.out, HB4.out⟩, by simp [intOf]; omega⟩
          · have hg0 : decide (0 < j) = true := by simp; omega
            obtain ⟨m, hm⟩ : ∃ m : Nat, m = (j - 1) / 2 := ⟨_, rfl⟩
            have hml : m < l.length := by omega
            have hm0 : (0 : Int) ≤ (m : Int) := by omega
            have hm1 : (m : Int) < (l.length : Int) := by omega
            have hmi : ((j : Int) - 1).tdiv 2 = (m : Int) := by rw [Int.tdiv_eq_ediv_of_nonneg (by omega)]; omega
            have HY : Hid (l[m]? = some l[m]) := List.getElem?_eq_getElem hml
            have HGm : Hid (dg l m = l[m]) := dg_eq hml
            have HM : Hid (m = (j - 1) / 2) := hm
            generalize l[m] = y at HY HGm
            have y0 := Beh.due0 HS3.out HY.out
            have y1 := Beh.dueK HS3.out HY.out 1 (by decide) _ rfl
            have HDf : Hid (∀ W : World, Calls Try.prog 16 #[.agg #[.int .i64 x.t, .int .i64 x.n], .agg #[.int .i64 y.t, .int .i64 y.n]] W fun e w' => e = .returned (.bool (duL x y)) ∧ Below W.heap.size W w') := fun W => specDueFirst_c x y W
            clear hm hml hj00
            cases hq : duL x y
            · have HI2 : Hid (HTo l (j + 1)) := fun i hi => by
                by_cases e : i = j
                · subst e
                  exact ⟨by rw [HG.out]; exact hd, fun _ => by rw [HG.out, ← HM.out, HGm.out]; exact hq⟩
                · exact HI.out i (by omega)
              rw [hq] at HDf
              clear hd hq HI HG HGm HM HX HY
              refine wp_region_beh (by kernel_rfl) (by kernel_rfl) ?_
              repeat (go_big_quiet_step (first | (go_at_call 42; exact calls_beh (HDu.out _)) | (go_at_call 16; exact calls_beh (HDf.out _))))
              refine wpQuiet_nil ?_
              rintro ⟨w2, hb2⟩
              have HB4 : Hid (Below w.heap.size w w2) := below_then HB3.out hb2
              go_wp2_with fail
              exact ⟨⟨j + 1, by omega, by go_num, HI2.out, HB4.out⟩, by simp [intOf]; omega⟩
            · have HN : Hid (¬ HOk l) := fun t => by have := (t.2 j hlt).2 (by simpa using hg0); rw [HG.out, ← HM.out, HGm.out, hq] at this; cases this
              rw [hq] at HDf
              clear hd hq HI HG HGm HM HX HY
              refine wp_region_beh (by kernel_rfl) (by kernel_rfl) ?_
              repeat (go_big_quiet_step (first | (go_at_call 42; exact calls_beh (HDu.out _)) | (go_at_call 16; exact calls_beh (HDf.out _))))
              refine wpQuiet_nil ?_
              rintro ⟨w2, hb2⟩
              have HB4 : Hid (Below w.heap.size w w2) := below_then HB3.out hb2
              go_wp2_with fail
              go_ret
              exact says_no rfl HN.out HB4.out
      · have HY : Hid (HOk l) := ⟨by omega, fun i hi => HI.out i (by omega)⟩
        go_wp2_with fail
        go_ret
        exact says_yes rfl HY.out HB.out
end Go.Proofs.Ytdmmjggkdkmeaaa
