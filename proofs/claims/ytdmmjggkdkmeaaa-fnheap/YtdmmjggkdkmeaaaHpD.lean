/- A heap that gives its first: the specification's l10Down. -/
import Derived.Test.YtdmmjggkdkmeaaaHpC
namespace Go.Proofs.Ytdmmjggkdkmeaaa
open Go.ChangeShapes Go.WideShapes Go.ChangeAt Go.RowKit

/-- The place below that comes first, -1 where there is none. -/
def dwn (l : List Du) (i : Nat) : Int := if dch l i < l.length then ((dch l i : Nat) : Int) else -1
set_option maxHeartbeats 4000000 in
set_option maxRecDepth 100000 in
theorem l10Down_c (b : Option Addr) (d : Nat) (l : List Du) (hl : l.length ≤ 1048576) (i : Nat) (hi : i ≤ 1048576) (w : World) (h : Sq w b (flatD l)) :
    Calls Try.prog 43 #[.slice b l.length d, .int .i64 i] w fun e w' => e = .returned (.int .i64 (dwn l i)) ∧ Below w.heap.size w w' := by
  have H : Hid (Sq w b (flatD l)) := h
  clear h
  by_cases h1 : 2 * i + 1 < l.length
  · obtain ⟨k, hk⟩ : ∃ k : Nat, k = 2 * i + 1 := ⟨_, rfl⟩
    have hk1 : k < l.length := by omega
    have hki : 2 * (i : Int) + 1 = (k : Int) := by omega
    have hk0 : (0 : Int) ≤ (k : Int) := by omega
    have hkl : (k : Int) < (l.length : Int) := by omega
    have hkn : ¬ (l.length : Int) ≤ (k : Int) := by omega
    have hkm : (k : Int) ≤ 1048576 := by omega
    obtain ⟨p, rfl⟩ := H.out.some_ofD k hk1
    have HX : Hid (l[k]? = some l[k]) := List.getElem?_eq_getElem hk1
    have HG : Hid (dg l k = l[k]) := dg_eq hk1
    generalize l[k] = x at HX HG
    have x0 := Beh.due0 H.out HX.out
    have x1 := Beh.dueK H.out HX.out 1 (by decide) _ rfl
    have hsome := beh_some w
    by_cases h2 : k + 1 < l.length
    · have hg0 : decide ((k : Int) + 1 < (l.length : Int)) = true := by simp; omega
      have hj0 : (0 : Int) ≤ (k : Int) + 1 := by omega
      have hj1 : (k : Int) + 1 < (l.length : Int) := by omega
      have HY : Hid (l[k + 1]? = some l[k + 1]) := List.getElem?_eq_getElem h2
      have HGy : Hid (dg l (k + 1) = l[k + 1]) := dg_eq h2
      generalize l[k + 1] = y at HY HGy
      have y0 := Beh.due0 H.out HY.out
      have y1 := Beh.dueK H.out HY.out 1 (by decide) _ rfl
      have HDf : Hid (∀ W : World, Calls Try.prog 16 #[.agg #[.int .i64 y.t, .int .i64 y.n], .agg #[.int .i64 x.t, .int .i64 x.n]] W fun e w' => e = .returned (.bool (duL y x)) ∧ Below W.heap.size W w') := fun W => specDueFirst_c y x W
      have HR : Hid (dwn l i = if duL y x = true then (k : Int) + 1 else (k : Int)) := by
        show _ = _
        have e2 : 2 * i + 2 = k + 1 := by omega
        unfold dwn dch
        rw [if_pos h1, e2, ← hk, HG.out, HGy.out]
        have eA : (if k + 1 < l.length ∧ duL y x = true then k + 1 else k) = (if duL y x = true then k + 1 else k) := by simp [h2]
        rw [eA]
        cases duL y x
        · simp [hk1]
        · simp [h2]
      clear hk HX HY HG HGy h1 h2 hk1 hi
      go_enter Try.func43, Try.ntmps43
      go_wp2_with fail
      cases hq : duL y x
      · rw [hq] at HDf HR
        clear hq
        refine wp_region_beh (by kernel_rfl) (by kernel_rfl) ?_
        repeat (go_big_quiet_step (first | (go_at_call 16; exact calls_beh (HDf.out _))))
        refine wpQuiet_nil ?_
        rintro ⟨w5, hb5⟩
        have HB5 : Hid (Below w.heap.size w w5) := hb5
        go_wp2_with fail
        go_ret
        exact ⟨by rw [HR.out]; rfl, HB5.out⟩
      · rw [hq] at HDf HR
        clear hq
        refine wp_region_beh (by kernel_rfl) (by kernel_rfl) ?_
        repeat (go_big_quiet_step (first | (go_at_call 16; exact calls_beh (HDf.out _))))
        refine wpQuiet_nil ?_
        rintro ⟨w5, hb5⟩
        have HB5 : Hid (Below w.heap.size w w5) := hb5
        go_wp2_with fail
        go_ret
        exact ⟨by rw [HR.out]; rfl, HB5.out⟩
    · have hg0 : decide ((k : Int) + 1 < (l.length : Int)) = false := by simp; omega
      have HR : Hid (dwn l i = (k : Int)) := by
        show _ = _
        have e2 : 2 * i + 2 = k + 1 := by omega
        unfold dwn dch
        rw [if_pos h1, e2, ← hk]
        have eA : (if k + 1 < l.length ∧ duL (dg l (k + 1)) (dg l k) = true then k + 1 else k) = k := by rw [if_neg (fun t => h2 t.1)]
        rw [eA, if_pos hk1]
      clear hk HX HG h1 h2 hk1 hi
      go_enter Try.func43, Try.ntmps43
      go_wp2_with fail
      refine wp_region_beh (by kernel_rfl) (by kernel_rfl) ?_
      repeat (go_big_quiet_step (fail))
      refine wpQuiet_nil ?_
      rintro ⟨w5, hb5⟩
      have HB5 : Hid (Below w.heap.size w w5) := hb5
      go_wp2_with fail
      go_ret
      exact ⟨by rw [HR.out]; rfl, HB5.out⟩
  · have HR : Hid (dwn l i = -1) := by
      show _ = _
      unfold dwn dch
      rw [if_neg h1, if_neg (Nat.lt_irrefl _)]
    have hn : (l.length : Int) ≤ 2 * (i : Int) + 1 := by omega
    clear h1
    go_enter Try.func43, Try.ntmps43
    go_wp2_with fail
    go_ret
    exact ⟨by rw [HR.out]; rfl, by go_grown⟩
end Go.Proofs.Ytdmmjggkdkmeaaa
