/- Answers that are lists of strings or of bytes: held against each other, marked, found marked. -/
import Derived.Test.YtpdmhpcejmankaaDoorJoI
import Derived.Test.YtpdmhpcejmankaaDoorAnsA
import Derived.Test.YtpdmhpcejmankaaDoorSlT
namespace Go.Proofs.YtpdmhpcejmankaaDoor
open Go.ChangeShapes Go.WideShapes Go.ChangeAt Go.RowKit

theorem ByA.of_ans {B T : Nat} {w : World} {l : List UInt8} {a : Option Addr} {n cap : Nat} (h : Ans B T w (bys l) (.slice a n cap)) : n = l.length ∧ ByA w a l := by
  obtain ⟨a', cap', hv, h⟩ := h
  rw [bys_len] at hv
  cases hv
  refine ⟨rfl, ?_⟩
  rcases h with h | ⟨g, rfl, _, _, hr⟩
  · have : l = [] := by cases l with | nil => rfl | cons x r => simp [bys] at h
    subst this
    exact ByA.nil w _
  · exact ByA.of_row hr

theorem upBytes_nil (k : Nat) : upBytes k 0 = [] := by simp [upBytes]

theorem mark_bys {B T k0 : Nat} {w : World} {xs : List Value} {v : Value} (h : Ans B T w xs v) (hl : xs.length ≤ 1048576) (hk : k0 ≤ 1048576) :
    Calls Tryd.prog 22 #[v, .int .i64 (k0 : Int)] w fun e w' => e = .returned (.int .i64 ((k0 + xs.length : Nat) : Int)) ∧ Ans B T w' (upBytes k0 xs.length) v ∧
      (∀ b ys, Row w b ys → b < B ∨ T ≤ b → Row w' b ys) ∧ (∀ w0 : World, Below w0.heap.size w0 w → w0.heap.size ≤ B → Below w0.heap.size w0 w') := by
  obtain ⟨a, cap, rfl, h⟩ := h
  rcases h with rfl | ⟨g, rfl, hg, hT, hr⟩
  · refine (markByteS_none a cap k0 w).mono ?_
    rintro e w' ⟨rfl, rfl⟩
    exact ⟨by simp, ⟨a, cap, by rw [upBytes_len], .inl (by simp [upBytes])⟩, fun _ _ h _ => h, fun _ h _ => h⟩
  · refine (markByteS_row g cap k0 xs hl hk w hr).mono ?_
    rintro e w' ⟨rfl, hgr, hr'⟩
    exact ⟨rfl, ⟨_, cap, by rw [upBytes_len], .inr ⟨g, rfl, hg, hT, hr'⟩⟩, fun b ys h hb => h.far hgr (by intro e; have := Option.some.inj e; omega), fun w0 hb0 h0 => hb0.grown hgr hb0.size (fun k e => by cases e; omega)⟩

theorem held_bys {B T k0 n : Nat} {w : World} {v : Value} (h : Ans B T w (upBytes k0 n) v) (hl : n ≤ 1048576) (hk : k0 ≤ 1048576) :
    Calls Tryd.prog 34 #[v, .int .i64 (k0 : Int)] w fun e w' => e = .returned (.int .i64 ((k0 + n : Nat) : Int)) ∧ Below w.heap.size w w' := by
  obtain ⟨a, cap, rfl, h⟩ := h
  rw [upBytes_len]
  rcases h with hx | ⟨g, rfl, hg, hT, hr⟩
  · obtain rfl : n = 0 := by
      have := upBytes_len k0 n
      rw [hx] at this
      simpa using this.symm
    refine (heldByteS_none a cap k0 w).mono ?_
    rintro e w' ⟨rfl, rfl⟩
    exact ⟨rfl, Below.refl _ _⟩
  · exact heldByteS_row g cap k0 n hl hk w hr

theorem eq_bys {B B' T T' : Nat} {w : World} {l : List UInt8} {v v' : Value} (h : Ans B T w (bys l) v) (h' : Ans B' T' w (bys l) v') (hl : l.length ≤ 1048576) :
    Calls Tryd.prog 21 #[v, v'] w fun e w' => e = .returned (.bool true) ∧ Below w.heap.size w w' := by
  obtain ⟨a, cap, rfl⟩ := h.form
  obtain ⟨a', cap', rfl⟩ := h'.form
  have h1 := (ByA.of_ans h).2
  have h2 := (ByA.of_ans h').2
  rw [bys_len]
  exact eqByteS_c a a' cap cap' l hl w h1 h2

set_option maxHeartbeats 1000000 in
theorem eqStringS_none (a a' : Option Addr) (cap cap' : Nat) (w : World) :
    Calls Tryd.prog 20 #[.slice a 0 cap, .slice a' 0 cap'] w fun e w' => e = .returned (.bool true) ∧ Below w.heap.size w w' := by
  go_enter Tryd.func20, Tryd.ntmps20
  go_wp2_with fail
  go_loopw [5] (fun i wr => i = .int .i64 0 ∧ wr = w) (fun _ _ => 0)
  case atStart => exact ⟨rfl, rfl⟩
  case round =>
    obtain ⟨rfl, rfl⟩ := hrel
    go_wp2_with fail
    go_ret
    exact ⟨rfl, Below.refl _ _⟩

set_option maxHeartbeats 1000000 in
theorem markStringS_none (a : Option Addr) (cap k0 : Nat) (w : World) :
    Calls Tryd.prog 23 #[.slice a 0 cap, .int .i64 (k0 : Int)] w fun e w' => e = .returned (.int .i64 (k0 : Int)) ∧ w' = w := by
  go_enter Tryd.func23, Tryd.ntmps23
  go_wp2_with fail
  go_loopw [1, 5] (fun k i wr => i = .int .i64 0 ∧ k = .int .i64 (k0 : Int) ∧ wr = w) (fun _ _ _ => 0)
  case atStart => exact ⟨rfl, rfl, rfl⟩
  case round =>
    obtain ⟨rfl, rfl, rfl⟩ := hrel
    go_wp2_with fail
    go_ret
    exact ⟨rfl, rfl⟩

set_option maxHeartbeats 1000000 in
theorem heldStringS_none (a : Option Addr) (cap k0 : Nat) (w : World) :
    Calls Tryd.prog 24 #[.slice a 0 cap, .int .i64 (k0 : Int)] w fun e w' => e = .returned (.int .i64 (k0 : Int)) ∧ w' = w := by
  go_enter Tryd.func24, Tryd.ntmps24
  go_wp2_with fail
  go_loopw [1, 5] (fun k i wr => i = .int .i64 0 ∧ k = .int .i64 (k0 : Int) ∧ wr = w) (fun _ _ _ => 0)
  case atStart => exact ⟨rfl, rfl, rfl⟩
  case round =>
    obtain ⟨rfl, rfl, rfl⟩ := hrel
    go_wp2_with fail
    go_ret
    exact ⟨rfl, rfl⟩

theorem strs_nil {ps : List (List UInt8)} (h : strs ps = []) : ps = [] := by cases ps with | nil => rfl | cons x r => simp [strs] at h

theorem eq_strs {B B' T T' : Nat} {w : World} {ps : List (List UInt8)} {v v' : Value} (h : Ans B T w (strs ps) v) (h' : Ans B' T' w (strs ps) v') (hl : ps.length ≤ 1048576) :
    Calls Tryd.prog 20 #[v, v'] w fun e w' => e = .returned (.bool true) ∧ Below w.heap.size w w' := by
  obtain ⟨a, cap, rfl, h⟩ := h
  obtain ⟨a', cap', rfl, h'⟩ := h'
  rw [strs_length]
  rcases h with h | ⟨g, rfl, _, _, hr⟩
  · obtain rfl := strs_nil h
    exact eqStringS_none a a' cap cap' w
  · rcases h' with h' | ⟨g', rfl, _, _, hr'⟩
    · obtain rfl := strs_nil h'
      exact eqStringS_none _ _ cap cap' w
    · refine (eqStringS_yes g g' cap cap' ps (by omega) w hr hr').mono ?_
      rintro e w' ⟨rfl, n, rfl⟩
      exact ⟨rfl, drewN_low _ _⟩

theorem marks_nil (k : Nat) : marks k 0 = [] := rfl

theorem mark_strs {B T : Nat} {w : World} {ps : List (List UInt8)} {v : Value} (h : Ans B T w (strs ps) v) (hl : ps.length ≤ 1048576) :
    Calls Tryd.prog 23 #[v, .int .i64 1] w fun e w' => e = .returned (.int .i64 (1 + (ps.length : Int))) ∧ Ans B T w' (marks 1 ps.length) v ∧
      (∀ b ys, Row w b ys → b < B ∨ T ≤ b → Row w' b ys) ∧ (∀ w0 : World, Below w0.heap.size w0 w → w0.heap.size ≤ B → Below w0.heap.size w0 w') := by
  obtain ⟨a, cap, rfl, h⟩ := h
  rw [strs_length]
  rcases h with h | ⟨g, rfl, hg, hT, hr⟩
  · obtain rfl := strs_nil h
    refine (markStringS_none a cap 1 w).mono ?_
    rintro e w' ⟨rfl, rfl⟩
    exact ⟨rfl, ⟨a, cap, rfl, .inl rfl⟩, fun _ _ h _ => h, fun _ h _ => h⟩
  · refine (mark_from_one g cap ps (by omega) w hr).mono ?_
    rintro e w' ⟨rfl, hgr, hr'⟩
    exact ⟨rfl, ⟨_, cap, by rw [marks_length], .inr ⟨g, rfl, hg, hT, hr'⟩⟩, fun b ys h hb => h.far hgr (by intro e; have := Option.some.inj e; omega), fun w0 hb0 h0 => hb0.grown hgr hb0.size (fun k e => by cases e; omega)⟩

theorem held_strs {B T n : Nat} {w : World} {v : Value} (h : Ans B T w (marks 1 n) v) (hl : n ≤ 1048576) :
    Calls Tryd.prog 24 #[v, .int .i64 1] w fun e w' => e = .returned (.int .i64 (1 + (n : Int))) ∧ Below w.heap.size w w' := by
  obtain ⟨a, cap, rfl, h⟩ := h
  rw [marks_length]
  rcases h with hx | ⟨g, rfl, hg, hT, hr⟩
  · obtain rfl : n = 0 := by
      have := marks_length 1 n
      rw [hx] at this
      simpa using this.symm
    refine (heldStringS_none a cap 1 w).mono ?_
    rintro e w' ⟨rfl, rfl⟩
    exact ⟨rfl, Below.refl _ _⟩
  · exact held_from_one g cap n (by omega) w hr
end Go.Proofs.YtpdmhpcejmankaaDoor
