/- FnExactOrder: for every list of jobs the program's Order answers as the specification's, and its answer owns its memory; no condition. -/
import Derived.Test.YtgkbmppgconjgaaJbA
import Derived.Test.YtgkbmppgconjgaaTopD
import Derived.Test.YtgkbmppgconjgaaBehA
import Derived.Test.YtgkbmppgconjgaaDfA
import Derived.Test.YtgkbmppgconjgaaTkA
import Derived.Test.YtgkbmppgconjgaaShelf
import Derived.Sort.Grow
import Derived.Deep.RegionHeld3
import Derived.Deep.Draws
import Derived.Test.YtgkbmppgconjgaaAnsA
import Derived.Test.YtgkbmppgconjgaaShelfJ
import Derived.Sort.OwnSortedInts
import Derived.Test.YtgkbmppgconjgaaJbP
import Derived.Test.YtgkbmppgconjgaaLawP
import Derived.Test.YtgkbmppgconjgaaRows
import Derived.Test.YtgkbmppgconjgaaChecked
import Derived.ProofKit
import Derived.OpenShut
import Derived.Carry
namespace Go.Proofs.Ytgkbmppgconjgaa
open Go.ChangeShapes Go.WideShapes Go.ChangeAt Go.RowKit

theorem Jb.len (x : Jb) : x.cells.length = 11 := rfl
/-- Jobs as they lie. -/
def flatJ (xs : List Jb) : List Value := xs.flatMap Jb.cells
theorem flatJ_len (xs : List Jb) : (flatJ xs).length = 11 * xs.length := by
  induction xs with
  | nil => rfl
  | cons n r ih => simp [flatJ, Jb.cells] at ih ⊢; omega
theorem flatJ_get : ∀ (xs : List Jb) (i k : Nat) (h : i < xs.length), k < 11 → (flatJ xs)[i * 11 + k]? = (xs[i].cells)[k]?
  | [], i, k, h, _ => by simp at h
  | n :: r, 0, k, _, hk => by
    simp only [flatJ, List.flatMap_cons, List.getElem_cons_zero, Nat.zero_mul, Nat.zero_add]
    rw [List.getElem?_append_left (by rw [Jb.len]; exact hk)]
  | n :: r, i + 1, k, h, hk => by
    simp only [flatJ, List.flatMap_cons, List.getElem_cons_succ]
    rw [List.getElem?_append_right (by rw [Jb.len]; omega)]
    have := flatJ_get r i k (by simpa using h) hk
    rw [← this]
    congr 1
    rw [Jb.len]
    omega

theorem Sq.some_of {w : World} {a : Option Addr} {xs : List Jb} (h : Sq w a (flatJ xs)) (j : Nat) (hj : j < xs.length) : ∃ p, a = some p := by
  obtain ⟨p, ha, _⟩ := h.cell (j * 11 + 0) _ (flatJ_get xs j 0 hj (by decide))
  exact ⟨p, ha⟩
theorem Sq.job0 {w : World} {p : Addr} {xs : List Jb} {x : Jb} {j : Nat} (h : Sq w (some p) (flatJ xs)) (hx : xs[j]? = some x) : w.cell? (p.add (j * 11)) = some (.int .i64 x.id) := by
  obtain ⟨hj, rfl⟩ := List.getElem?_eq_some_iff.1 hx
  obtain ⟨q, hq, _, c⟩ := h.cell (j * 11 + 0) _ (flatJ_get xs j 0 hj (by decide))
  cases hq
  simpa using c
theorem Sq.jobK {w : World} {p : Addr} {xs : List Jb} {x : Jb} {j : Nat} (h : Sq w (some p) (flatJ xs)) (hx : xs[j]? = some x) (k : Nat) (hk : 0 < k) (u : Value) (hu : x.cells[k]? = some u) : w.cell? ⟨(p.add (j * 11)).block, (p.add (j * 11)).off + k, none⟩ = some u := by
  obtain ⟨hj, rfl⟩ := List.getElem?_eq_some_iff.1 hx
  have hk2 : k < 11 := by have := (List.getElem?_eq_some_iff.1 hu).1; rwa [Jb.len] at this
  obtain ⟨q, hq, _, c⟩ := h.cell (j * 11 + k) u ((flatJ_get xs j k hj hk2).trans hu)
  cases hq
  rw [add_field _ _ _ hk]
  exact c
theorem Beh.job0 {U : World} {p : Addr} {xs : List Jb} {x : Jb} {j : Nat} (h : Sq U (some p) (flatJ xs)) (hx : xs[j]? = some x) : ∀ n : Beh U, n.w.cell? (p.add (j * 11)) = some (.int .i64 x.id) := fun n => (h.below n.low).job0 hx
theorem Beh.jobK {U : World} {p : Addr} {xs : List Jb} {x : Jb} {j : Nat} (h : Sq U (some p) (flatJ xs)) (hx : xs[j]? = some x) (k : Nat) (hk : 0 < k) (u : Value) (hu : x.cells[k]? = some u) : ∀ n : Beh U, n.w.cell? ⟨(p.add (j * 11)).block, (p.add (j * 11)).off + k, none⟩ = some u := fun n => (h.below n.low).jobK hx k hk u hu

/-- Values put one behind the other. -/
def putL (ys : List Value) : Nat → List Value → List Value
  | _, [] => ys
  | m, v :: r => putL (ys.set m v) (m + 1) r
def setL (w : World) (g : Nat) : Nat → List Value → World
  | _, [] => w
  | m, v :: r => setL (w.setCell ⟨g, m, none⟩ v) g (m + 1) r
theorem putL_len (vs : List Value) : ∀ (ys : List Value) (m : Nat), (putL ys m vs).length = ys.length := by
  induction vs with
  | nil => intro ys m; rfl
  | cons v r ih => intro ys m; rw [putL, ih, List.length_set]
theorem putL_out (vs : List Value) : ∀ (ys : List Value) (m i : Nat), i < m ∨ m + vs.length ≤ i → (putL ys m vs)[i]? = ys[i]? := by
  induction vs with
  | nil => intro ys m i _; rfl
  | cons v r ih =>
    intro ys m i h
    simp only [List.length_cons] at h
    rw [putL, ih _ _ _ (by omega), List.getElem?_set_ne (by omega)]
theorem putL_in (vs : List Value) : ∀ (ys : List Value) (m k : Nat), m + vs.length ≤ ys.length → k < vs.length → (putL ys m vs)[m + k]? = vs[k]? := by
  induction vs with
  | nil => intro ys m k _ h; simp at h
  | cons v r ih =>
    intro ys m k h hk
    simp only [List.length_cons] at h hk
    rw [putL]
    cases k with
    | zero => rw [putL_out _ _ _ _ (by omega), Nat.add_zero, List.getElem?_set_self (by omega)]; rfl
    | succ k => rw [show m + (k + 1) = m + 1 + k by omega, ih _ _ _ (by rw [List.length_set]; omega) (by omega)]; rfl
theorem Row.putL {g : Nat} (vs : List Value) : ∀ {w : World} {ys : List Value} (m : Nat), Row w g ys → m + vs.length ≤ ys.length → Row (setL w g m vs) g (putL ys m vs) := by
  induction vs with
  | nil => intro w ys m h _; exact h
  | cons v r ih =>
    intro w ys m h hl
    simp only [List.length_cons] at hl
    exact ih (m + 1) (h.set m (by omega) v) (by rw [List.length_set]; omega)
theorem below_setL {g n : Nat} {A : World} (hg : n ≤ g) (vs : List Value) : ∀ {w : World} (m : Nat), Below n A w → Below n A (setL w g m vs) := by
  induction vs with
  | nil => intro w m h; exact h
  | cons v r ih => intro w m h; exact ih (m + 1) (h.setCell hg v)

/-- The first j jobs lie there already. -/
def PartJ (ys : List Value) (xs : List Jb) (j : Nat) : Prop := ys.length = 11 * xs.length ∧ ∀ i (h : i < xs.length) k, k < 11 → i < j → ys[i * 11 + k]? = (xs[i].cells)[k]?
theorem PartJ.set {ys : List Value} {xs : List Jb} {j : Nat} {x : Jb} (h : PartJ ys xs j) (hx : xs[j]? = some x) : PartJ (Go.Proofs.Ytgkbmppgconjgaa.putL ys (j * 11) x.cells) xs (j + 1) := by
  obtain ⟨hj, rfl⟩ := List.getElem?_eq_some_iff.1 hx
  refine ⟨by rw [putL_len]; exact h.1, fun i hi k hk hij => ?_⟩
  have hl := h.1
  by_cases e : i = j
  · subst e
    exact putL_in _ _ _ _ (by rw [Jb.len]; omega) (by rw [Jb.len]; exact hk)
  · rw [putL_out _ _ _ _ (by rw [Jb.len]; omega)]
    exact h.2 i hi k hk (by omega)
theorem PartJ.all {ys : List Value} {xs : List Jb} {j : Nat} (h : PartJ ys xs j) (hj : xs.length ≤ j) : ys = flatJ xs := by
  apply List.ext_getElem?
  intro m
  by_cases hm : m < 11 * xs.length
  · have h1 := h.2 (m / 11) (by omega) (m % 11) (by omega) (by omega)
    have h2 := flatJ_get xs (m / 11) (m % 11) (by omega) (by omega)
    rw [show m / 11 * 11 + m % 11 = m by omega] at h1 h2
    rw [h1, h2]
  · rw [List.getElem?_eq_none (by rw [h.1]; omega), List.getElem?_eq_none (by rw [flatJ_len]; omega)]

theorem infoJob : (Try.prog.info? 34).map (fun i => (i.zero, i.size, i.bytes)) = some (some (.agg #[.int .i64 0, .int .i64 0, .int .i64 0, .int .i64 0, .int .i64 0, .int .i64 0, .int .i64 0, .int .i64 0, .int .i64 0, .int .i64 0, .int .i64 0]), 11, 88) := by kernel_rfl
/-- 'make([]impl.Job, n)'. -/
theorem make_jobs (n : Nat) (hn : n ≤ 1048576) : ∃ Z : List Value, Z.length = 11 * n ∧ ∀ w : World, (Instr.makeSlice 25 (.int .i64 (n : Int)) (.int .i64 (n : Int))).run Try.prog w = .ok (.slice (some ⟨w.heap.size, 0, none⟩) n n) (w.alloc (.cells Z.toArray 34)) := by
  obtain ⟨i0, hi, hz0, hz1, hz2⟩ := info_parts infoJob
  refine ⟨(madeCells (Value.agg #[.int .i64 0, .int .i64 0, .int .i64 0, .int .i64 0, .int .i64 0, .int .i64 0, .int .i64 0, .int .i64 0, .int .i64 0, .int .i64 0, .int .i64 0]).cells (n * i0.size)).toList, ?_, fun w => ?_⟩
  · rw [hz1]
    simp [madeCells, Value.cells]
    omega
  · have h := run_make (P := Try.prog) (w := w) 25 34 i0 (.agg #[.int .i64 0, .int .i64 0, .int .i64 0, .int .i64 0, .int .i64 0, .int .i64 0, .int .i64 0, .int .i64 0, .int .i64 0, .int .i64 0, .int .i64 0]) Try.underlying25 hi hz0 .i64 .i64 (n : Int) (n : Int) (by omega) (Int.le_refl _) (by rw [hz2]; omega) (by omega)
    simpa using h

set_option maxHeartbeats 4000000 in
theorem toJobS_c (a : Option Addr) (cap : Nat) (xs : List Jb) (hl : xs.length ≤ 1048576) (w : World) (h : Sq w a (flatJ xs)) :
    Calls Try.prog 7 #[.slice a xs.length cap] w fun e w' =>
      ∃ g, e = .returned (.slice (some ⟨g, 0, none⟩) xs.length xs.length) ∧ w.heap.size ≤ g ∧ Row w' g (flatJ xs) ∧ Below w.heap.size w w' := by
  have H : Hid (Sq w a (flatJ xs)) := h
  clear h
  obtain ⟨Z, hZ, hmk⟩ := make_jobs xs.length hl
  go_enter Try.func7, Try.ntmps7
  go_wp2_with fail
  go_loopw [4] (fun i wr => ∃ (j : Nat) (ys : List Value), j ≤ xs.length ∧ i = .int .i64 j ∧ PartJ ys xs j ∧ Row wr w.heap.size ys ∧ Below w.heap.size w wr) (fun i _ => xs.length - (intOf i).toNat)
  case atStart => exact ⟨0, Z, Nat.zero_le _, rfl, ⟨hZ, fun i _ k _ h => by omega⟩, row_fresh w Z 34, by go_grown⟩
  case round =>
    obtain ⟨j, ys, hj, rfl, hp, hr, hb⟩ := hrel
    have HP : Hid (PartJ ys xs j) := hp
    have HR : Hid (Row wr w.heap.size ys) := hr
    have HB : Hid (Below w.heap.size w wr) := hb
    clear hp hr hb hmk hZ
    by_cases hlt : j < xs.length
    · have hi0 : (0 : Int) ≤ (j : Int) := by omega
      have hi1 : (j : Int) < (xs.length : Int) := by omega
      have HX : Hid (xs[j]? = some xs[j]) := List.getElem?_eq_getElem hlt
      obtain ⟨p, rfl⟩ := H.out.some_of j hlt
      generalize xs[j] = x at HX
      have c0 := (H.out.below HB.out).job0 HX.out
      have c1 := (H.out.below HB.out).jobK HX.out 1 (by decide) _ rfl
      have c2 := (H.out.below HB.out).jobK HX.out 2 (by decide) _ rfl
      have c3 := (H.out.below HB.out).jobK HX.out 3 (by decide) _ rfl
      have c4 := (H.out.below HB.out).jobK HX.out 4 (by decide) _ rfl
      have c5 := (H.out.below HB.out).jobK HX.out 5 (by decide) _ rfl
      have c6 := (H.out.below HB.out).jobK HX.out 6 (by decide) _ rfl
      have c7 := (H.out.below HB.out).jobK HX.out 7 (by decide) _ rfl
      have c8 := (H.out.below HB.out).jobK HX.out 8 (by decide) _ rfl
      have c9 := (H.out.below HB.out).jobK HX.out 9 (by decide) _ rfl
      have c10 := (H.out.below HB.out).jobK HX.out 10 (by decide) _ rfl
      go_wp2_with fail
      refine (toJob_c x _).mono ?_
      rintro e w1 ⟨rfl, hb1⟩
      have HB1 : Hid (Below w.heap.size w w1) := below_then HB.out hb1
      have HR1 : Hid (Row w1 w.heap.size ys) := HR.out.below hb1
      have hy : j * 11 + 11 ≤ ys.length := by rw [HP.out.1]; omega
      have HS : Hid (Row (setL w1 w.heap.size (j * 11) x.cells) w.heap.size (putL ys (j * 11) x.cells)) := Row.putL x.cells (j * 11) HR1.out (by rw [Jb.len]; exact hy)
      have HBS : Hid (Below w.heap.size w (setL w1 w.heap.size (j * 11) x.cells)) := below_setL (Nat.le_refl _) _ _ HB1.out
      have d0 := HR1.out.cell (j * 11) _ (List.getElem?_eq_getElem (by omega))
      have f0 := HR1.out.free (j * 11)
      have d1 := HR1.out.cell (j * 11 + 1) _ (List.getElem?_eq_getElem (by omega))
      have f1 := HR1.out.free (j * 11 + 1)
      have d2 := HR1.out.cell (j * 11 + 2) _ (List.getElem?_eq_getElem (by omega))
      have f2 := HR1.out.free (j * 11 + 2)
      have d3 := HR1.out.cell (j * 11 + 3) _ (List.getElem?_eq_getElem (by omega))
      have f3 := HR1.out.free (j * 11 + 3)
      have d4 := HR1.out.cell (j * 11 + 4) _ (List.getElem?_eq_getElem (by omega))
      have f4 := HR1.out.free (j * 11 + 4)
      have d5 := HR1.out.cell (j * 11 + 5) _ (List.getElem?_eq_getElem (by omega))
      have f5 := HR1.out.free (j * 11 + 5)
      have d6 := HR1.out.cell (j * 11 + 6) _ (List.getElem?_eq_getElem (by omega))
      have f6 := HR1.out.free (j * 11 + 6)
      have d7 := HR1.out.cell (j * 11 + 7) _ (List.getElem?_eq_getElem (by omega))
      have f7 := HR1.out.free (j * 11 + 7)
      have d8 := HR1.out.cell (j * 11 + 8) _ (List.getElem?_eq_getElem (by omega))
      have f8 := HR1.out.free (j * 11 + 8)
      have d9 := HR1.out.cell (j * 11 + 9) _ (List.getElem?_eq_getElem (by omega))
      have f9 := HR1.out.free (j * 11 + 9)
      have d10 := HR1.out.cell (j * 11 + 10) _ (List.getElem?_eq_getElem (by omega))
      have f10 := HR1.out.free (j * 11 + 10)
      clear hb1 c0 c1 c2 c3 c4 c5 c6 c7 c8 c9 c10
      go_wp2_with fail
      exact ⟨⟨j + 1, putL ys (j * 11) x.cells, by omega, by go_num, HP.out.set HX.out, HS.out, HBS.out⟩, by simp [intOf]; omega⟩
    · have HE : Hid (ys = flatJ xs) := HP.out.all (by omega)
      go_wp2_with fail
      go_ret
      exact ⟨_, rfl, Nat.le_refl _, by rw [← HE.out]; exact HR.out, HB.out⟩

theorem szJobS_c (a : Option Addr) (n cap : Nat) (hn : n ≤ maxLen) (left : Int) (h0 : 0 ≤ left) (h1 : left ≤ 1048576) (w : World) :
    Calls Try.prog 5 #[.slice a n cap, .int .i64 left] w fun e w' => e = .returned (.int .i64 (if left - n < 0 then -1 else left - n)) ∧ w' = w := by
  unfold maxLen at hn
  by_cases h : left - n < 0
  · go_enter Try.func5, Try.ntmps5
    go_wp2_with fail
    go_ret
    exact ⟨rfl, rfl⟩
  · go_enter Try.func5, Try.ntmps5
    go_wp2_with fail
    go_ret
    exact ⟨rfl, rfl⟩

set_option maxHeartbeats 2000000 in
theorem eqJob_c (j : Jb) (w : World) :
    Calls Try.prog 18 #[.agg #[.int .i64 j.id, .int .i64 j.pr, .int .i64 j.nd, .int .i64 j.na, .int .i64 j.nb, .int .i64 j.nc, .int .i64 j.la, .int .i64 j.lb, .int .i64 j.lc, .int .i64 j.wl, .int .i64 j.lv], .agg #[.int .i64 j.id, .int .i64 j.pr, .int .i64 j.nd, .int .i64 j.na, .int .i64 j.nb, .int .i64 j.nc, .int .i64 j.la, .int .i64 j.lb, .int .i64 j.lc, .int .i64 j.wl, .int .i64 j.lv]] w fun e w' => e = .returned (.bool true) ∧ Below w.heap.size w w' := by
  go_enter Try.func18, Try.ntmps18
  go_wp2_with fail
  generalize hV : (w.alloc (.cells #[.int .i64 j.id, .int .i64 j.pr, .int .i64 j.nd, .int .i64 j.na, .int .i64 j.nb, .int .i64 j.nc, .int .i64 j.la, .int .i64 j.lb, .int .i64 j.lc, .int .i64 j.wl, .int .i64 j.lv] 34)).alloc (.cells #[.int .i64 j.id, .int .i64 j.pr, .int .i64 j.nd, .int .i64 j.na, .int .i64 j.nb, .int .i64 j.nc, .int .i64 j.la, .int .i64 j.lb, .int .i64 j.lc, .int .i64 j.wl, .int .i64 j.lv] 34) = V
  have HA : Hid (Row V w.heap.size [.int .i64 j.id, .int .i64 j.pr, .int .i64 j.nd, .int .i64 j.na, .int .i64 j.nb, .int .i64 j.nc, .int .i64 j.la, .int .i64 j.lb, .int .i64 j.lc, .int .i64 j.wl, .int .i64 j.lv]) := by subst hV; exact (row_fresh w [.int .i64 j.id, .int .i64 j.pr, .int .i64 j.nd, .int .i64 j.na, .int .i64 j.nb, .int .i64 j.nc, .int .i64 j.la, .int .i64 j.lb, .int .i64 j.lc, .int .i64 j.wl, .int .i64 j.lv] 34).below (low_alloc _ _)
  have HA' : Hid (Row V (w.heap.size + 1) [.int .i64 j.id, .int .i64 j.pr, .int .i64 j.nd, .int .i64 j.na, .int .i64 j.nb, .int .i64 j.nc, .int .i64 j.la, .int .i64 j.lb, .int .i64 j.lc, .int .i64 j.wl, .int .i64 j.lv]) := by
    subst hV
    have h := row_fresh (w.alloc (.cells #[.int .i64 j.id, .int .i64 j.pr, .int .i64 j.nd, .int .i64 j.na, .int .i64 j.nb, .int .i64 j.nc, .int .i64 j.la, .int .i64 j.lb, .int .i64 j.lc, .int .i64 j.wl, .int .i64 j.lv] 34)) [.int .i64 j.id, .int .i64 j.pr, .int .i64 j.nd, .int .i64 j.na, .int .i64 j.nb, .int .i64 j.nc, .int .i64 j.la, .int .i64 j.lb, .int .i64 j.lc, .int .i64 j.wl, .int .i64 j.lv] 34
    rw [show (w.alloc (.cells #[.int .i64 j.id, .int .i64 j.pr, .int .i64 j.nd, .int .i64 j.na, .int .i64 j.nb, .int .i64 j.nc, .int .i64 j.la, .int .i64 j.lb, .int .i64 j.lc, .int .i64 j.wl, .int .i64 j.lv] 34)).heap.size = w.heap.size + 1 by simp [go_sem]] at h
    exact h
  have HB : Hid (Below w.heap.size w V) := by subst hV; show Below _ _ _; go_grown
  clear hV
  refine (eqVec_c j.na j.nb j.nc j.na j.nb j.nc _).mono ?_
  rintro e w1 ⟨rfl, hb⟩
  have HB1 : Hid (Below w.heap.size w w1) := below_then HB.out hb
  have HA1 : Hid (Row w1 w.heap.size [.int .i64 j.id, .int .i64 j.pr, .int .i64 j.nd, .int .i64 j.na, .int .i64 j.nb, .int .i64 j.nc, .int .i64 j.la, .int .i64 j.lb, .int .i64 j.lc, .int .i64 j.wl, .int .i64 j.lv]) := HA.out.below hb
  have HA1' : Hid (Row w1 (w.heap.size + 1) [.int .i64 j.id, .int .i64 j.pr, .int .i64 j.nd, .int .i64 j.na, .int .i64 j.nb, .int .i64 j.nc, .int .i64 j.la, .int .i64 j.lb, .int .i64 j.lc, .int .i64 j.wl, .int .i64 j.lv]) := HA'.out.below hb
  clear hb HA HA' HB
  rw [show (j.na == j.na && j.nb == j.nb && j.nc == j.nc) = true by simp]
  have a6 := HA1.out.cell 6 _ rfl
  have b6 := HA1'.out.cell 6 _ rfl
  have a7 := HA1.out.cell 7 _ rfl
  have b7 := HA1'.out.cell 7 _ rfl
  have a8 := HA1.out.cell 8 _ rfl
  have b8 := HA1'.out.cell 8 _ rfl
  go_wp2_with fail
  clear a6 a7 a8 b6 b7 b8
  refine (eqVec_c j.la j.lb j.lc j.la j.lb j.lc _).mono ?_
  rintro e w2 ⟨rfl, hb⟩
  have HB2 : Hid (Below w.heap.size w w2) := below_then HB1.out hb
  have HA2 : Hid (Row w2 w.heap.size [.int .i64 j.id, .int .i64 j.pr, .int .i64 j.nd, .int .i64 j.na, .int .i64 j.nb, .int .i64 j.nc, .int .i64 j.la, .int .i64 j.lb, .int .i64 j.lc, .int .i64 j.wl, .int .i64 j.lv]) := HA1.out.below hb
  have HA2' : Hid (Row w2 (w.heap.size + 1) [.int .i64 j.id, .int .i64 j.pr, .int .i64 j.nd, .int .i64 j.na, .int .i64 j.nb, .int .i64 j.nc, .int .i64 j.la, .int .i64 j.lb, .int .i64 j.lc, .int .i64 j.wl, .int .i64 j.lv]) := HA1'.out.below hb
  clear hb HA1 HA1' HB1
  rw [show (j.la == j.la && j.lb == j.lb && j.lc == j.lc) = true by simp]
  have a9 := HA2.out.cell 9 _ rfl
  have b9 := HA2'.out.cell 9 _ rfl
  have a10 := HA2.out.cell 10 _ rfl
  have b10 := HA2'.out.cell 10 _ rfl
  go_wp2_with fail
  go_ret
  exact ⟨rfl, HB2.out⟩

set_option maxHeartbeats 2000000 in
/-- A list of jobs held against itself. -/
theorem eqJobS_c (a b : Option Addr) (c d : Nat) (xs : List Jb) (hl : xs.length ≤ 1048576) (w : World) (h : Sq w a (flatJ xs)) (h' : Sq w b (flatJ xs)) :
    Calls Try.prog 9 #[.slice a xs.length c, .slice b xs.length d] w fun e w' => e = .returned (.bool true) ∧ Below w.heap.size w w' := by
  have H : Hid (Sq w a (flatJ xs)) := h
  have H' : Hid (Sq w b (flatJ xs)) := h'
  clear h h'
  go_enter Try.func9, Try.ntmps9
  go_wp2_with fail
  go_loopw [5] (fun i wr => ∃ j : Nat, j ≤ xs.length ∧ i = .int .i64 j ∧ Below w.heap.size w wr) (fun i _ => xs.length - (intOf i).toNat)
  case atStart => exact ⟨0, Nat.zero_le _, rfl, Below.refl _ _⟩
  case round =>
    obtain ⟨j, hj, rfl, hb⟩ := hrel
    have HB : Hid (Below w.heap.size w wr) := hb
    clear hb
    by_cases hlt : j < xs.length
    · have hi0 : (0 : Int) ≤ (j : Int) := by omega
      have hi1 : (j : Int) < (xs.length : Int) := by omega
      have HX : Hid (xs[j]? = some xs[j]) := List.getElem?_eq_getElem hlt
      obtain ⟨p, rfl⟩ := H.out.some_of j hlt
      obtain ⟨q, rfl⟩ := H'.out.some_of j hlt
      generalize xs[j] = x at HX
      have hsome := beh_some wr
      have m0 := Beh.job0 (H.out.below HB.out) HX.out
      have n0 := Beh.job0 (H'.out.below HB.out) HX.out
      have m1 := Beh.jobK (H.out.below HB.out) HX.out 1 (by decide) _ rfl
      have n1 := Beh.jobK (H'.out.below HB.out) HX.out 1 (by decide) _ rfl
      have m2 := Beh.jobK (H.out.below HB.out) HX.out 2 (by decide) _ rfl
      have n2 := Beh.jobK (H'.out.below HB.out) HX.out 2 (by decide) _ rfl
      have m3 := Beh.jobK (H.out.below HB.out) HX.out 3 (by decide) _ rfl
      have n3 := Beh.jobK (H'.out.below HB.out) HX.out 3 (by decide) _ rfl
      have m4 := Beh.jobK (H.out.below HB.out) HX.out 4 (by decide) _ rfl
      have n4 := Beh.jobK (H'.out.below HB.out) HX.out 4 (by decide) _ rfl
      have m5 := Beh.jobK (H.out.below HB.out) HX.out 5 (by decide) _ rfl
      have n5 := Beh.jobK (H'.out.below HB.out) HX.out 5 (by decide) _ rfl
      have m6 := Beh.jobK (H.out.below HB.out) HX.out 6 (by decide) _ rfl
      have n6 := Beh.jobK (H'.out.below HB.out) HX.out 6 (by decide) _ rfl
      have m7 := Beh.jobK (H.out.below HB.out) HX.out 7 (by decide) _ rfl
      have n7 := Beh.jobK (H'.out.below HB.out) HX.out 7 (by decide) _ rfl
      have m8 := Beh.jobK (H.out.below HB.out) HX.out 8 (by decide) _ rfl
      have n8 := Beh.jobK (H'.out.below HB.out) HX.out 8 (by decide) _ rfl
      have m9 := Beh.jobK (H.out.below HB.out) HX.out 9 (by decide) _ rfl
      have n9 := Beh.jobK (H'.out.below HB.out) HX.out 9 (by decide) _ rfl
      have m10 := Beh.jobK (H.out.below HB.out) HX.out 10 (by decide) _ rfl
      have n10 := Beh.jobK (H'.out.below HB.out) HX.out 10 (by decide) _ rfl
      have HQ : Hid (∀ W, Calls Try.prog 18 #[.agg #[.int .i64 x.id, .int .i64 x.pr, .int .i64 x.nd, .int .i64 x.na, .int .i64 x.nb, .int .i64 x.nc, .int .i64 x.la, .int .i64 x.lb, .int .i64 x.lc, .int .i64 x.wl, .int .i64 x.lv], .agg #[.int .i64 x.id, .int .i64 x.pr, .int .i64 x.nd, .int .i64 x.na, .int .i64 x.nb, .int .i64 x.nc, .int .i64 x.la, .int .i64 x.lb, .int .i64 x.lc, .int .i64 x.wl, .int .i64 x.lv]] W fun e w' => e = .returned (.bool true) ∧ Below W.heap.size W w') := fun W => eqJob_c x W
      go_wp2_with fail
      refine wp_region_beh (by kernel_rfl) (by kernel_rfl) ?_
      repeat (go_big_quiet_step (first | (go_at_call 18; exact calls_beh (HQ.out _))))
      refine wpQuiet_nil ?_
      rintro ⟨w2, hb2⟩
      have HB4 : Hid (Below w.heap.size w w2) := below_then HB.out hb2
      go_wp2_with fail
      exact ⟨⟨j + 1, by omega, by go_num, HB4.out⟩, by simp [intOf]; omega⟩
    · go_wp2_with fail
      go_ret
      exact ⟨rfl, HB.out⟩
end Go.Proofs.Ytgkbmppgconjgaa

namespace Go.Proofs.Ytgkbmppgconjgaa
open Go.ChangeShapes Go.WideShapes Go.ChangeAt Go.RowKit

def idsJ (xs : List Jb) : List Int := xs.map (·.id)
theorem idsJ_len (xs : List Jb) : (idsJ xs).length = xs.length := by simp [idsJ]
theorem idsJ_next {xs : List Jb} {j : Nat} {x : Jb} (h : xs[j]? = some x) : idsJ (xs.take (j + 1)) = idsJ (xs.take j) ++ [x.id] := by
  rw [List.take_add_one, h, Option.toList_some]
  simp [idsJ]
theorem idsJ_to (xs : List Jb) (j : Nat) (h : j ≤ xs.length) : (idsJ (xs.take j)).length = j := by rw [idsJ_len, List.length_take]; omega
/-- A right queue. -/
def queueB (xs : List Jb) : Bool := decide (xs.length ≤ 60) && (xs.all jobB && decide (idsJ xs).Nodup)

theorem queue_long {xs : List Jb} (h : 60 < xs.length) : queueB xs = false := by simp [queueB]; omega
theorem queue_bad {xs : List Jb} {j : Nat} {x : Jb} (h : xs[j]? = some x) (hx : jobB x = false) : queueB xs = false := by
  have : xs.all jobB = false := by
    rw [List.all_eq_false]
    exact ⟨x, List.mem_of_getElem? h, by simp [hx]⟩
  simp [queueB, this]
theorem queue_good {xs : List Jb} (h : xs.length ≤ 60) (hx : ∀ (k : Nat) (x : Jb), xs[k]? = some x → jobB x = true) : queueB xs = decide (idsJ xs).Nodup := by
  have : xs.all jobB = true := by
    rw [List.all_eq_true]
    intro x hm
    obtain ⟨k, hk⟩ := List.getElem?_of_mem hm
    exact hx k x hk
  simp [queueB, this, h]

set_option maxHeartbeats 4000000 in
theorem implQueueOk_c (a : Option Addr) (c : Nat) (xs : List Jb) (hx : xs.length ≤ 1048576) (w : World) (h : Sq w a (flatJ xs)) :
    Calls Try.prog 8 #[.slice a xs.length c] w fun e w' => e = .returned (.bool (queueB xs)) ∧ Below w.heap.size w w' := by
  have H : Hid (Sq w a (flatJ xs)) := h
  clear h
  by_cases hl : 60 < xs.length
  · have HN : Hid (queueB xs = false) := queue_long hl
    have hd : ((60 : Int) < (xs.length : Int)) := by omega
    go_enter Try.func8, Try.ntmps8
    go_wp2_with fail
    go_ret
    exact ⟨by rw [HN.out]; rfl, Below.refl _ _⟩
  · have hd : ¬ ((60 : Int) < (xs.length : Int)) := by omega
    obtain ⟨Z, hZ, hmk⟩ := make_room xs.length hx
    go_enter Try.func8, Try.ntmps8
    go_wp2_with fail
    have HO0 : Hid ((w.alloc (.cells Z.toArray 3)).ownsRow w.heap.size 3 1 (.slice (some ⟨w.heap.size, 0, none⟩) 0 xs.length) 0 []) := World.ownsRow_made w Z.toArray xs.length (Nat.le_refl _) (by unfold maxLen; omega) (by simp [hZ])
    have HB0 : Hid (Below w.heap.size w (w.alloc (.cells Z.toArray 3))) := low_alloc _ _
    generalize w.alloc (.cells Z.toArray 3) = w0 at HO0 HB0
    clear hmk hZ
    go_loopw [3, 14] (fun o i wr => ∃ j : Nat, j ≤ xs.length ∧ i = .int .i64 j ∧ wr.ownsRow w.heap.size 3 1 o (idsJ (xs.take j)).length (ints (idsJ (xs.take j))) ∧ (∀ (k : Nat) (x : Jb), k < j → xs[k]? = some x → jobB x = true) ∧ Below w.heap.size w wr) (fun _ i _ => xs.length - (intOf i).toNat)
    case atStart => exact ⟨0, Nat.zero_le _, rfl, HO0.out, fun k x h => by omega, HB0.out⟩
    case round =>
      obtain ⟨j, hj, rfl, hown, hg, hb⟩ := hrel
      have HO : Hid (wr.ownsRow w.heap.size 3 1 u3 (idsJ (xs.take j)).length (ints (idsJ (xs.take j)))) := hown
      have HG : Hid (∀ (k : Nat) (x : Jb), k < j → xs[k]? = some x → jobB x = true) := hg
      have HB : Hid (Below w.heap.size w wr) := hb
      clear hown hg hb HO0 HB0
      by_cases hlt : j < xs.length
      · have hj0 : (0 : Int) ≤ (j : Int) := by omega
        have hj1 : (j : Int) < (xs.length : Int) := by omega
        have HX : Hid (xs[j]? = some xs[j]) := List.getElem?_eq_getElem hlt
        obtain ⟨p, rfl⟩ := H.out.some_of j hlt
        generalize xs[j] = x at HX
        have c0 := (H.out.below HB.out).job0 HX.out
        have c1 := (H.out.below HB.out).jobK HX.out 1 (by decide) _ rfl
        have c2 := (H.out.below HB.out).jobK HX.out 2 (by decide) _ rfl
        have c3 := (H.out.below HB.out).jobK HX.out 3 (by decide) _ rfl
        have c4 := (H.out.below HB.out).jobK HX.out 4 (by decide) _ rfl
        have c5 := (H.out.below HB.out).jobK HX.out 5 (by decide) _ rfl
        have c6 := (H.out.below HB.out).jobK HX.out 6 (by decide) _ rfl
        have c7 := (H.out.below HB.out).jobK HX.out 7 (by decide) _ rfl
        have c8 := (H.out.below HB.out).jobK HX.out 8 (by decide) _ rfl
        have c9 := (H.out.below HB.out).jobK HX.out 9 (by decide) _ rfl
        have c10 := (H.out.below HB.out).jobK HX.out 10 (by decide) _ rfl
        go_wp2_with fail
        have B5 : Hid (Below w.heap.size w (wr.alloc (.cells #[.int .i64 x.id, .int .i64 x.pr, .int .i64 x.nd, .int .i64 x.na, .int .i64 x.nb, .int .i64 x.nc, .int .i64 x.la, .int .i64 x.lb, .int .i64 x.lc, .int .i64 x.wl, .int .i64 x.lv] 34))) := behind_alloc HB.out _
        have O5 : Hid ((wr.alloc (.cells #[.int .i64 x.id, .int .i64 x.pr, .int .i64 x.nd, .int .i64 x.na, .int .i64 x.nb, .int .i64 x.nc, .int .i64 x.la, .int .i64 x.lb, .int .i64 x.lc, .int .i64 x.wl, .int .i64 x.lv] 34)).ownsRow w.heap.size 3 1 u3 (idsJ (xs.take j)).length (ints (idsJ (xs.take j)))) := HO.out.alloc _
        have R5 : Hid (Row (wr.alloc (.cells #[.int .i64 x.id, .int .i64 x.pr, .int .i64 x.nd, .int .i64 x.na, .int .i64 x.nb, .int .i64 x.nc, .int .i64 x.la, .int .i64 x.lb, .int .i64 x.lc, .int .i64 x.wl, .int .i64 x.lv] 34)) wr.heap.size [.int .i64 x.id, .int .i64 x.pr, .int .i64 x.nd, .int .i64 x.na, .int .i64 x.nb, .int .i64 x.nc, .int .i64 x.la, .int .i64 x.lb, .int .i64 x.lc, .int .i64 x.wl, .int .i64 x.lv]) := row_fresh wr [.int .i64 x.id, .int .i64 x.pr, .int .i64 x.nd, .int .i64 x.na, .int .i64 x.nb, .int .i64 x.nc, .int .i64 x.la, .int .i64 x.lb, .int .i64 x.lc, .int .i64 x.wl, .int .i64 x.lv] 34
        clear c0 c1 c2 c3 c4 c5 c6 c7 c8 c9 c10
        generalize wr.alloc (.cells #[.int .i64 x.id, .int .i64 x.pr, .int .i64 x.nd, .int .i64 x.na, .int .i64 x.nb, .int .i64 x.nc, .int .i64 x.la, .int .i64 x.lb, .int .i64 x.lc, .int .i64 x.wl, .int .i64 x.lv] 34) = w5 at B5 O5 R5
        refine (implJobOk_c x _).mono ?_
        rintro e w6 ⟨rfl, hb⟩
        have B6 : Hid (Below w.heap.size w w6) := below_then B5.out hb
        have O6 : Hid (w6.ownsRow w.heap.size 3 1 u3 (idsJ (xs.take j)).length (ints (idsJ (xs.take j)))) := owns_below O5.out hb
        have R6 : Hid (Row w6 wr.heap.size [.int .i64 x.id, .int .i64 x.pr, .int .i64 x.nd, .int .i64 x.na, .int .i64 x.nb, .int .i64 x.nc, .int .i64 x.la, .int .i64 x.lb, .int .i64 x.lc, .int .i64 x.wl, .int .i64 x.lv]) := R5.out.below hb
        clear hb B5 O5 R5
        cases hk : jobB x
        · have HN : Hid (queueB xs = false) := queue_bad HX.out hk
          go_wp2_with fail
          go_ret
          exact ⟨by rw [HN.out]; rfl, B6.out⟩
        · have HG1 : Hid (∀ (k : Nat) (x : Jb), k < j + 1 → xs[k]? = some x → jobB x = true) := fun k x' hk' h' => by
            by_cases e : k = j
            · subst e
              rw [HX.out] at h'
              cases h'
              exact hk
            · exact HG.out k x' (by omega) h'
          have HF : Hid (idsJ (xs.take (j + 1)) = idsJ (xs.take j) ++ [x.id]) := idsJ_next HX.out
          have hlj : (idsJ (xs.take j)).length ≤ 100000 := by rw [idsJ_to _ _ hj]; omega
          have r0 := R6.out.cell 0 _ rfl
          clear hk
          go_wp2_with (at_builtin; refine wpl_app1 (B := w) (base := w.heap.size) (xs := idsJ (xs.take j)) (y := x.id) rfl rfl O6.out hlj B6.out (Nat.le_refl _) B6.out.size rfl rfl ?_)
          intro v1 w7 HO7 HB7
          have O8 : Hid (w7.ownsRow w.heap.size 3 1 v1 (idsJ (xs.take (j + 1))).length (ints (idsJ (xs.take (j + 1))))) := by rw [HF.out, List.length_append, List.length_singleton]; exact HO7
          go_wp2_with fail
          exact ⟨⟨j + 1, by omega, by go_num, O8.out, HG1.out, HB7.out⟩, by simp [intOf]; omega⟩
      · obtain rfl : j = xs.length := by omega
        have HN : Hid (queueB xs = decide (idsJ xs).Nodup) := queue_good (by omega) (fun k x h => HG.out k x (List.getElem?_eq_some_iff.1 h).1 h)
        obtain ⟨ga, cap, rfl, hs⟩ := sq_of_owns HO.out
        rw [List.take_length] at hs ⊢
        have HS : Hid (Sq wr ga (ints (idsJ xs))) := hs
        clear hs HO
        go_wp2_with fail
        refine (allDiffer_c ga cap (idsJ xs) (by rw [idsJ_len]; omega) _ HS.out).mono ?_
        rintro e w6 ⟨rfl, hb⟩
        have B6 : Hid (Below w.heap.size w w6) := below_then HB.out hb
        clear hb
        go_wp2_with fail
        go_ret
        exact ⟨by rw [HN.out]; rfl, B6.out⟩

theorem ids_nodup {xs : List Jb} {j : Nat} {x : Jb} (h : xs[j]? = some x) (hd : (idsJ (xs.take j)).Nodup) (hn : ∀ (m : Nat) (y : Jb), m < j → xs[m]? = some y → y.id ≠ x.id) : (idsJ (xs.take (j + 1))).Nodup := by
  rw [idsJ_next h, List.nodup_append]
  refine ⟨hd, by simp, fun a ha b hb => ?_⟩
  simp at hb
  subst hb
  simp only [idsJ, List.mem_map] at ha
  obtain ⟨y, hy, rfl⟩ := ha
  obtain ⟨m, hm⟩ := List.getElem?_of_mem hy
  rw [List.getElem?_take] at hm
  split at hm
  · exact hn m y (by assumption) hm
  · simp at hm
theorem ids_twice {xs : List Jb} {j m : Nat} {x y : Jb} (h : xs[j]? = some x) (hm : xs[m]? = some y) (hlt : m < j) (he : y.id = x.id) : queueB xs = false := by
  have : decide (idsJ xs).Nodup = false := by
    simp
    intro hd
    obtain ⟨h1, rfl⟩ := List.getElem?_eq_some_iff.1 h
    obtain ⟨h2, rfl⟩ := List.getElem?_eq_some_iff.1 hm
    have := List.pairwise_iff_getElem.1 hd m j (by rw [idsJ_len]; exact h2) (by rw [idsJ_len]; exact h1) hlt
    simp [idsJ] at this
    exact this he
  simp [queueB, this]

set_option maxHeartbeats 4000000 in
theorem specQueueOk_c (a : Option Addr) (c : Nat) (xs : List Jb) (hx : xs.length ≤ 1048576) (w : World) (h : Sq w a (flatJ xs)) :
    Calls Try.prog 6 #[.slice a xs.length c] w fun e w' => e = .returned (.bool (queueB xs)) ∧ Below w.heap.size w w' := by
  have H : Hid (Sq w a (flatJ xs)) := h
  clear h
  by_cases hl : 60 < xs.length
  · have HN : Hid (queueB xs = false) := queue_long hl
    have hd : ((60 : Int) < (xs.length : Int)) := by omega
    go_enter Try.func6, Try.ntmps6
    go_wp2_with fail
    go_ret
    exact ⟨by rw [HN.out]; rfl, Below.refl _ _⟩
  · have hd : ¬ ((60 : Int) < (xs.length : Int)) := by omega
    go_enter Try.func6, Try.ntmps6
    go_wp2_with fail
    go_loopw [11] (fun i wr => ∃ j : Nat, j ≤ xs.length ∧ i = .int .i64 j ∧ (idsJ (xs.take j)).Nodup ∧ (∀ (k : Nat) (x : Jb), k < j → xs[k]? = some x → jobB x = true) ∧ Below w.heap.size w wr) (fun i _ => xs.length - (intOf i).toNat)
    case atStart => exact ⟨0, Nat.zero_le _, rfl, by simp [idsJ], fun k x h => by omega, Below.refl _ _⟩
    case round =>
      obtain ⟨j, hj, rfl, hnd, hg, hb⟩ := hrel
      have HD : Hid ((idsJ (xs.take j)).Nodup) := hnd
      have HG : Hid (∀ (k : Nat) (x : Jb), k < j → xs[k]? = some x → jobB x = true) := hg
      have HB : Hid (Below w.heap.size w wr) := hb
      clear hnd hg hb
      by_cases hlt : j < xs.length
      · have hj0 : (0 : Int) ≤ (j : Int) := by omega
        have hj1 : (j : Int) < (xs.length : Int) := by omega
        have HX : Hid (xs[j]? = some xs[j]) := List.getElem?_eq_getElem hlt
        obtain ⟨p, rfl⟩ := H.out.some_of j hlt
        generalize xs[j] = x at HX
        have c0 := (H.out.below HB.out).job0 HX.out
        have c1 := (H.out.below HB.out).jobK HX.out 1 (by decide) _ rfl
        have c2 := (H.out.below HB.out).jobK HX.out 2 (by decide) _ rfl
        have c3 := (H.out.below HB.out).jobK HX.out 3 (by decide) _ rfl
        have c4 := (H.out.below HB.out).jobK HX.out 4 (by decide) _ rfl
        have c5 := (H.out.below HB.out).jobK HX.out 5 (by decide) _ rfl
        have c6 := (H.out.below HB.out).jobK HX.out 6 (by decide) _ rfl
        have c7 := (H.out.below HB.out).jobK HX.out 7 (by decide) _ rfl
        have c8 := (H.out.below HB.out).jobK HX.out 8 (by decide) _ rfl
        have c9 := (H.out.below HB.out).jobK HX.out 9 (by decide) _ rfl
        have c10 := (H.out.below HB.out).jobK HX.out 10 (by decide) _ rfl
        go_wp2_with fail
        have B5 : Hid (Below w.heap.size w (wr.alloc (.cells #[.int .i64 x.id, .int .i64 x.pr, .int .i64 x.nd, .int .i64 x.na, .int .i64 x.nb, .int .i64 x.nc, .int .i64 x.la, .int .i64 x.lb, .int .i64 x.lc, .int .i64 x.wl, .int .i64 x.lv] 34))) := behind_alloc HB.out _
        have R5 : Hid (Row (wr.alloc (.cells #[.int .i64 x.id, .int .i64 x.pr, .int .i64 x.nd, .int .i64 x.na, .int .i64 x.nb, .int .i64 x.nc, .int .i64 x.la, .int .i64 x.lb, .int .i64 x.lc, .int .i64 x.wl, .int .i64 x.lv] 34)) wr.heap.size [.int .i64 x.id, .int .i64 x.pr, .int .i64 x.nd, .int .i64 x.na, .int .i64 x.nb, .int .i64 x.nc, .int .i64 x.la, .int .i64 x.lb, .int .i64 x.lc, .int .i64 x.wl, .int .i64 x.lv]) := row_fresh wr [.int .i64 x.id, .int .i64 x.pr, .int .i64 x.nd, .int .i64 x.na, .int .i64 x.nb, .int .i64 x.nc, .int .i64 x.la, .int .i64 x.lb, .int .i64 x.lc, .int .i64 x.wl, .int .i64 x.lv] 34
        clear c0 c1 c2 c3 c4 c5 c6 c7 c8 c9 c10
        generalize wr.alloc (.cells #[.int .i64 x.id, .int .i64 x.pr, .int .i64 x.nd, .int .i64 x.na, .int .i64 x.nb, .int .i64 x.nc, .int .i64 x.la, .int .i64 x.lb, .int .i64 x.lc, .int .i64 x.wl, .int .i64 x.lv] 34) = w5 at B5 R5
        refine (specJobOk_c x _).mono ?_
        rintro e w6 ⟨rfl, hb⟩
        have B6 : Hid (Below w.heap.size w w6) := below_then B5.out hb
        have R6 : Hid (Row w6 wr.heap.size [.int .i64 x.id, .int .i64 x.pr, .int .i64 x.nd, .int .i64 x.na, .int .i64 x.nb, .int .i64 x.nc, .int .i64 x.la, .int .i64 x.lb, .int .i64 x.lc, .int .i64 x.wl, .int .i64 x.lv]) := R5.out.below hb
        clear hb B5 R5
        cases hk : jobB x
        · have HN : Hid (queueB xs = false) := queue_bad HX.out hk
          go_wp2_with fail
          go_ret
          exact ⟨by rw [HN.out]; rfl, B6.out⟩
        · have HG1 : Hid (∀ (k : Nat) (x : Jb), k < j + 1 → xs[k]? = some x → jobB x = true) := fun k x' hk' h' => by
            by_cases e : k = j
            · subst e
              rw [HX.out] at h'
              cases h'
              exact hk
            · exact HG.out k x' (by omega) h'
          clear hk HB
          go_wp2_with fail
          generalize wr.heap.size = Bx at R6 ⊢
          clear wr
          go_loopw [5] (fun i wr => ∃ m : Nat, m ≤ j ∧ i = .int .i64 m ∧ (∀ (q : Nat) (y : Jb), q < m → xs[q]? = some y → y.id ≠ x.id) ∧ Row wr Bx [.int .i64 x.id, .int .i64 x.pr, .int .i64 x.nd, .int .i64 x.na, .int .i64 x.nb, .int .i64 x.nc, .int .i64 x.la, .int .i64 x.lb, .int .i64 x.lc, .int .i64 x.wl, .int .i64 x.lv] ∧ Below w.heap.size w wr) (fun i _ => j - (intOf i).toNat)
          case atStart => exact ⟨0, Nat.zero_le _, rfl, fun q y h => by omega, R6.out, B6.out⟩
          case round =>
            obtain ⟨m, hm, rfl, hne, hr, hb⟩ := hrel
            have HE : Hid (∀ (q : Nat) (y : Jb), q < m → xs[q]? = some y → y.id ≠ x.id) := hne
            have HR : Hid (Row wr Bx [.int .i64 x.id, .int .i64 x.pr, .int .i64 x.nd, .int .i64 x.na, .int .i64 x.nb, .int .i64 x.nc, .int .i64 x.la, .int .i64 x.lb, .int .i64 x.lc, .int .i64 x.wl, .int .i64 x.lv]) := hr
            have HB : Hid (Below w.heap.size w wr) := hb
            clear hne hr hb B6 R6
            by_cases hmj : m < j
            · have hm0 : (0 : Int) ≤ (m : Int) := by omega
              have hm1 : (m : Int) < (j : Int) := by omega
              have hm2 : (m : Int) < (xs.length : Int) := by omega
              have HY : Hid (xs[m]? = some xs[m]) := List.getElem?_eq_getElem (by omega)
              generalize xs[m] = y at HY
              have hsome := beh_some wr
              have m0 := Beh.job0 (H.out.below HB.out) HY.out
              have m1 := Beh.row HR.out 0 _ rfl
              by_cases he : y.id = x.id
              · have HN : Hid (queueB xs = false) := ids_twice HX.out HY.out hmj he
                have hd : (y.id == x.id) = true := by simpa using he
                clear he
                go_wp2_with fail
                refine wp_region_beh (by kernel_rfl) (by kernel_rfl) ?_
                repeat (go_big_quiet_step (fail))
                refine wpQuiet_nil ?_
                rintro ⟨w2, hb2⟩
                have HB4 : Hid (Below w.heap.size w w2) := below_then HB.out hb2
                go_wp2_with fail
                go_ret
                exact ⟨by rw [HN.out]; rfl, HB4.out⟩
              · have hd : (y.id == x.id) = false := by simpa using he
                have HE1 : Hid (∀ (q : Nat) (y : Jb), q < m + 1 → xs[q]? = some y → y.id ≠ x.id) := fun q y' hq h' => by
                  by_cases e : q = m
                  · subst e
                    rw [HY.out] at h'
                    cases h'
                    exact he
                  · exact HE.out q y' (by omega) h'
                clear he
                go_wp2_with fail
                refine wp_region_beh (by kernel_rfl) (by kernel_rfl) ?_
                repeat (go_big_quiet_step (fail))
                refine wpQuiet_nil ?_
                rintro ⟨w2, hb2⟩
                have HB4 : Hid (Below w.heap.size w w2) := below_then HB.out hb2
                have HR4 : Hid (Row w2 Bx [.int .i64 x.id, .int .i64 x.pr, .int .i64 x.nd, .int .i64 x.na, .int .i64 x.nb, .int .i64 x.nc, .int .i64 x.la, .int .i64 x.lb, .int .i64 x.lc, .int .i64 x.wl, .int .i64 x.lv]) := HR.out.below hb2
                go_wp2_with fail
                exact ⟨⟨m + 1, by omega, by go_num, HE1.out, HR4.out, HB4.out⟩, by simp [intOf]; omega⟩
            · obtain rfl : m = j := by omega
              have HD1 : Hid ((idsJ (xs.take (m + 1))).Nodup) := ids_nodup HX.out HD.out HE.out
              go_wp2_with fail
              exact ⟨⟨m + 1, by omega, by go_num, HD1.out, HG1.out, HB.out⟩, by simp [intOf]; omega⟩
      · obtain rfl : j = xs.length := by omega
        have HN : Hid (queueB xs = true) := by
          show _ = _
          rw [queue_good (by omega) (fun k x h => HG.out k x (List.getElem?_eq_some_iff.1 h).1 h)]
          have := HD.out
          rw [List.take_length] at this
          exact decide_eq_true this
        go_wp2_with fail
        go_ret
        exact ⟨by rw [HN.out]; rfl, HB.out⟩
end Go.Proofs.Ytgkbmppgconjgaa

namespace Go.Proofs.Ytgkbmppgconjgaa

/-- a comes ahead of b. -/
def befB (a b : Jb) : Bool := decide (b.pr < a.pr) || (decide (a.pr = b.pr) && decide (a.id < b.id))
theorem bef_iff (a b : Jb) : befB a b = true ↔ b.pr < a.pr ∨ (a.pr = b.pr ∧ a.id < b.id) := by simp [befB]
theorem bef_not (a b : Jb) : befB a b = false ↔ a.pr < b.pr ∨ (a.pr = b.pr ∧ b.id ≤ a.id) := by
  simp [befB]
  omega
/-- A job put to its place. -/
def insJ (j : Jb) : List Jb → List Jb
  | [] => [j]
  | x :: r => if befB j x then j :: x :: r else x :: insJ j r
def ordS (xs : List Jb) : List Jb := xs.foldl (fun out j => insJ j out) []
def ordTo (xs : List Jb) (k : Nat) : List Jb := ordS (xs.take k)
theorem ordTo_next {xs : List Jb} {k : Nat} {x : Jb} (h : xs[k]? = some x) : ordTo xs (k + 1) = insJ x (ordTo xs k) := by
  unfold ordTo ordS
  rw [List.take_add_one, h, Option.toList_some, List.foldl_append]
  rfl
theorem insJ_perm (j : Jb) (xs : List Jb) : (insJ j xs).Perm (j :: xs) := by
  induction xs with
  | nil => exact List.Perm.refl _
  | cons x r ih =>
    unfold insJ
    split
    · exact List.Perm.refl _
    · exact (List.Perm.cons x ih).trans (List.Perm.swap j x r)
theorem insJ_len (j : Jb) (xs : List Jb) : (insJ j xs).length = xs.length + 1 := by rw [(insJ_perm j xs).length_eq]; rfl
theorem fold_perm (xs : List Jb) : ∀ out : List Jb, (xs.foldl (fun out j => insJ j out) out).Perm (xs ++ out) := by
  induction xs with
  | nil => intro out; exact List.Perm.refl _
  | cons x r ih =>
    intro out
    rw [List.foldl_cons]
    refine (ih _).trans ?_
    refine ((insJ_perm x out).append_left r).trans ?_
    exact List.perm_middle
theorem ordS_perm (xs : List Jb) : (ordS xs).Perm xs := by
  have := fold_perm xs []
  rwa [List.append_nil] at this
theorem ordTo_len (xs : List Jb) (k : Nat) (h : k ≤ xs.length) : (ordTo xs k).length = k := by
  unfold ordTo
  rw [(ordS_perm _).length_eq, List.length_take]
  omega
/-- No later one comes ahead of an earlier one. -/
def Rnk (xs : List Jb) : Prop := xs.Pairwise fun a b => befB b a = false
theorem insJ_rnk (j : Jb) (xs : List Jb) (h : Rnk xs) : Rnk (insJ j xs) := by
  induction xs with
  | nil => exact List.pairwise_singleton _ _
  | cons x r ih =>
    obtain ⟨h1, h2⟩ := List.pairwise_cons.1 h
    unfold insJ
    split
    · rename_i hb
      rw [bef_iff] at hb
      refine List.pairwise_cons.2 ⟨fun y hy => ?_, h⟩
      rcases List.mem_cons.1 hy with rfl | hy
      · rw [bef_not]; omega
      · have := h1 y hy
        rw [bef_not] at this ⊢
        omega
    · rename_i hb
      have hb' : befB j x = false := by simpa using hb
      refine List.pairwise_cons.2 ⟨fun y hy => ?_, ih h2⟩
      rcases List.mem_cons.1 ((insJ_perm j r).mem_iff.1 hy) with rfl | hy
      · exact hb'
      · exact h1 y hy
theorem fold_rnk (xs : List Jb) : ∀ out : List Jb, Rnk out → Rnk (xs.foldl (fun out j => insJ j out) out) := by
  induction xs with
  | nil => intro out h; exact h
  | cons x r ih => intro out h; exact ih _ (insJ_rnk x out h)
theorem ordS_rnk (xs : List Jb) : Rnk (ordS xs) := fold_rnk xs [] .nil

/-- Of jobs with ids of their own there is one order of rank. -/
theorem rnk_one {xs ys : List Jb} (hd : (idsJ xs).Nodup) (hp : ys.Perm xs) (hr : Rnk ys) : ys = ordS xs := by
  refine List.Perm.eq_of_pairwise (le := fun a b => befB b a = false) ?_ hr (ordS_rnk xs) (hp.trans (ordS_perm xs).symm)
  intro a b ha hb h1 h2
  have ha' := hp.mem_iff.1 ha
  have hb' := (ordS_perm xs).mem_iff.1 hb
  rw [bef_not] at h1 h2
  have he : a.id = b.id := by omega
  obtain ⟨i, hi⟩ := List.getElem?_of_mem ha'
  obtain ⟨k, hk⟩ := List.getElem?_of_mem hb'
  obtain ⟨i1, rfl⟩ := List.getElem?_eq_some_iff.1 hi
  obtain ⟨k1, rfl⟩ := List.getElem?_eq_some_iff.1 hk
  have hik : i = k := by
    have hw := List.pairwise_iff_getElem.1 hd
    rcases Nat.lt_trichotomy i k with h | h | h
    · have := hw i k (by rw [idsJ_len]; exact i1) (by rw [idsJ_len]; exact k1) h
      simp [idsJ] at this
      exact absurd he this
    · exact h
    · have := hw k i (by rw [idsJ_len]; exact k1) (by rw [idsJ_len]; exact i1) h
      simp [idsJ] at this
      exact absurd he.symm this
  subst hik
  rfl
/-- What 'Order' answers. -/
def orderR (xs : List Jb) : List Jb := if queueB xs then ordS xs else []
theorem order_len (xs : List Jb) : (orderR xs).length ≤ 60 := by
  unfold orderR
  split
  · rename_i h
    rw [(ordS_perm xs).length_eq]
    simp [queueB] at h
    exact h.1
  · simp
theorem queue_few {xs : List Jb} (h : queueB xs = true) : xs.length ≤ 60 ∧ (idsJ xs).Nodup := by
  simp [queueB] at h
  exact ⟨h.1, h.2.2⟩

/-- What the program's look at two jobs answers. -/
def cfR (a b : Jb) : Int := if b.pr < a.pr then -1 else if a.pr < b.pr then 1 else if a.id < b.id then -1 else if b.id < a.id then 1 else 0
theorem cfR_bef (a b : Jb) : decide (cfR a b < 0) = befB a b := by
  unfold cfR
  cases h : befB a b
  · rw [bef_not] at h
    simp
    repeat' split
    all_goals omega
  · rw [bef_iff] at h
    simp
    repeat' split
    all_goals omega
end Go.Proofs.Ytgkbmppgconjgaa

namespace Go.Proofs.Ytgkbmppgconjgaa
open Go.ChangeShapes Go.WideShapes Go.ChangeAt Go.RowKit Go.Sort

/-- Since W only draws were made, and blocks. -/
def Gr (W w : World) : Prop := ∃ q os, w = grow (W.drewN q) os
theorem Gr.refl (W : World) : Gr W W := ⟨0, #[], by simp [grow, World.drewN]⟩
theorem Gr.alloc {W w : World} (h : Gr W w) (o : Obj) : Gr W (w.alloc o) := by
  obtain ⟨q, os, rfl⟩ := h
  exact ⟨q, os ++ #[o], by rw [alloc_eq_grow, grow_grow]⟩
theorem Gr.drew {W w : World} (h : Gr W w) : Gr W w.drew := by
  obtain ⟨q, os, rfl⟩ := h
  exact ⟨q + 1, os, rfl⟩

theorem Gr.low {W w : World} (h : Gr W w) : Below W.heap.size W w := by
  obtain ⟨q, os, rfl⟩ := h
  exact ⟨rfl, rfl, rfl, by simp [grow, World.drewN], fun i hi => heap_grow_old (W.drewN q) os hi⟩
theorem Gr.trans {A B C : World} (h : Gr A B) (k : Gr B C) : Gr A C := by
  obtain ⟨q, os, rfl⟩ := h
  obtain ⟨q', os', rfl⟩ := k
  exact ⟨q + q', os ++ os', by simp [grow, World.drewN, Nat.add_assoc, Array.append_assoc]⟩

set_option maxHeartbeats 1000000 in
theorem or2_c (g : Nat) (x y : Int) (w : World) (h : Row w g [.int .i64 x, .int .i64 y]) :
    Calls Try.prog 33 #[.slice (some ⟨g, 0, none⟩) 2 2] w fun e w' => e = .returned (.int .i64 (if x = 0 then y else x)) ∧ w' = w := by
  have c0 := h.cell 0 _ rfl
  have c1 := h.cell 1 _ rfl
  by_cases hx : x = 0
  · rw [if_pos hx]
    have hx1 : (x != 0) = false := by simp [hx]
    by_cases hy : y = 0
    · have hy1 : (y != 0) = false := by simp [hy]
      have Hy : Hid (y = 0) := hy
      clear hx hy
      go_enter Try.func33, Try.ntmps33
      go_wp2_with fail
      refine wp_loop_rounds 3 ?_
      rw [rounds_succ]
      go_wp2_with fail
      rw [rounds_succ]
      go_wp2_with fail
      rw [rounds_succ]
      go_wp2_with fail
      go_ret
      exact ⟨by rw [Hy.out]; rfl, rfl⟩
    · have hy1 : (y != 0) = true := by simp [hy]
      clear hx hy
      go_enter Try.func33, Try.ntmps33
      go_wp2_with fail
      refine wp_loop_rounds 2 ?_
      rw [rounds_succ]
      go_wp2_with fail
      rw [rounds_succ]
      go_wp2_with fail
      go_ret
      exact ⟨rfl, rfl⟩
  · rw [if_neg hx]
    have hx1 : (x != 0) = true := by simp [hx]
    clear hx
    go_enter Try.func33, Try.ntmps33
    go_wp2_with fail
    refine wp_loop_rounds 1 ?_
    rw [rounds_succ]
    go_wp2_with fail
    go_ret
    exact ⟨rfl, rfl⟩
theorem cf_or (a b : Jb) : (if Lib.compareInt b.pr a.pr = 0 then Lib.compareInt a.id b.id else Lib.compareInt b.pr a.pr) = cfR a b := by
  unfold Lib.compareInt cfR
  repeat' split
  all_goals first | rfl | omega

set_option maxRecDepth 100000 in
set_option maxHeartbeats 2000000 in
theorem compareRank_c (a b : Jb) (w : World) : Calls Try.prog 22 #[.agg #[.int .i64 a.id, .int .i64 a.pr, .int .i64 a.nd, .int .i64 a.na, .int .i64 a.nb, .int .i64 a.nc, .int .i64 a.la, .int .i64 a.lb, .int .i64 a.lc, .int .i64 a.wl, .int .i64 a.lv], .agg #[.int .i64 b.id, .int .i64 b.pr, .int .i64 b.nd, .int .i64 b.na, .int .i64 b.nb, .int .i64 b.nc, .int .i64 b.la, .int .i64 b.lb, .int .i64 b.lc, .int .i64 b.wl, .int .i64 b.lv]] w fun e w' => e = .returned (.int .i64 (cfR a b)) ∧ Gr w w' := by
  rw [← cf_or]
  have HC : Hid (∀ x y W, Calls Try.prog 34 #[.int .i64 x, .int .i64 y] W fun e w' => e = .returned (.int .i64 (Lib.compareInt x y)) ∧ w' = W) := fun x y W => Try.cmp_Compare_int x y W
  generalize Lib.compareInt = f at HC ⊢
  have HO : Hid (∀ (g : Nat) (W : World), Row W g [.int .i64 (f b.pr a.pr), .int .i64 (f a.id b.id)] → Calls Try.prog 33 #[.slice (some ⟨g, 0, none⟩) 2 2] W fun e w' => e = .returned (.int .i64 (if f b.pr a.pr = 0 then f a.id b.id else f b.pr a.pr)) ∧ w' = W) := fun g W h => or2_c g _ _ W h
  generalize (if f b.pr a.pr = 0 then f a.id b.id else f b.pr a.pr) = r at HO ⊢
  go_enter Try.func22, Try.ntmps22
  go_wp2_with fail
  have HG : Hid (Gr w ((w.alloc (.cells #[.int .i64 a.id, .int .i64 a.pr, .int .i64 a.nd, .int .i64 a.na, .int .i64 a.nb, .int .i64 a.nc, .int .i64 a.la, .int .i64 a.lb, .int .i64 a.lc, .int .i64 a.wl, .int .i64 a.lv] 34)).alloc (.cells #[.int .i64 b.id, .int .i64 b.pr, .int .i64 b.nd, .int .i64 b.na, .int .i64 b.nb, .int .i64 b.nc, .int .i64 b.la, .int .i64 b.lb, .int .i64 b.lc, .int .i64 b.wl, .int .i64 b.lv] 34))) := ((Gr.refl w).alloc _).alloc _
  have HA : Hid (Row ((w.alloc (.cells #[.int .i64 a.id, .int .i64 a.pr, .int .i64 a.nd, .int .i64 a.na, .int .i64 a.nb, .int .i64 a.nc, .int .i64 a.la, .int .i64 a.lb, .int .i64 a.lc, .int .i64 a.wl, .int .i64 a.lv] 34)).alloc (.cells #[.int .i64 b.id, .int .i64 b.pr, .int .i64 b.nd, .int .i64 b.na, .int .i64 b.nb, .int .i64 b.nc, .int .i64 b.la, .int .i64 b.lb, .int .i64 b.lc, .int .i64 b.wl, .int .i64 b.lv] 34)) w.heap.size [.int .i64 a.id, .int .i64 a.pr, .int .i64 a.nd, .int .i64 a.na, .int .i64 a.nb, .int .i64 a.nc, .int .i64 a.la, .int .i64 a.lb, .int .i64 a.lc, .int .i64 a.wl, .int .i64 a.lv]) := (row_fresh w [.int .i64 a.id, .int .i64 a.pr, .int .i64 a.nd, .int .i64 a.na, .int .i64 a.nb, .int .i64 a.nc, .int .i64 a.la, .int .i64 a.lb, .int .i64 a.lc, .int .i64 a.wl, .int .i64 a.lv] 34).below (low_alloc _ _)
  have HB : Hid (Row ((w.alloc (.cells #[.int .i64 a.id, .int .i64 a.pr, .int .i64 a.nd, .int .i64 a.na, .int .i64 a.nb, .int .i64 a.nc, .int .i64 a.la, .int .i64 a.lb, .int .i64 a.lc, .int .i64 a.wl, .int .i64 a.lv] 34)).alloc (.cells #[.int .i64 b.id, .int .i64 b.pr, .int .i64 b.nd, .int .i64 b.na, .int .i64 b.nb, .int .i64 b.nc, .int .i64 b.la, .int .i64 b.lb, .int .i64 b.lc, .int .i64 b.wl, .int .i64 b.lv] 34)) (w.heap.size + 1) [.int .i64 b.id, .int .i64 b.pr, .int .i64 b.nd, .int .i64 b.na, .int .i64 b.nb, .int .i64 b.nc, .int .i64 b.la, .int .i64 b.lb, .int .i64 b.lc, .int .i64 b.wl, .int .i64 b.lv]) := by
    have h := row_fresh (w.alloc (.cells #[.int .i64 a.id, .int .i64 a.pr, .int .i64 a.nd, .int .i64 a.na, .int .i64 a.nb, .int .i64 a.nc, .int .i64 a.la, .int .i64 a.lb, .int .i64 a.lc, .int .i64 a.wl, .int .i64 a.lv] 34)) [.int .i64 b.id, .int .i64 b.pr, .int .i64 b.nd, .int .i64 b.na, .int .i64 b.nb, .int .i64 b.nc, .int .i64 b.la, .int .i64 b.lb, .int .i64 b.lc, .int .i64 b.wl, .int .i64 b.lv] 34
    rw [show (w.alloc (.cells #[.int .i64 a.id, .int .i64 a.pr, .int .i64 a.nd, .int .i64 a.na, .int .i64 a.nb, .int .i64 a.nc, .int .i64 a.la, .int .i64 a.lb, .int .i64 a.lc, .int .i64 a.wl, .int .i64 a.lv] 34)).heap.size = w.heap.size + 1 by simp [go_sem]] at h
    exact h
  generalize (w.alloc (.cells #[.int .i64 a.id, .int .i64 a.pr, .int .i64 a.nd, .int .i64 a.na, .int .i64 a.nb, .int .i64 a.nc, .int .i64 a.la, .int .i64 a.lb, .int .i64 a.lc, .int .i64 a.wl, .int .i64 a.lv] 34)).alloc (.cells #[.int .i64 b.id, .int .i64 b.pr, .int .i64 b.nd, .int .i64 b.na, .int .i64 b.nb, .int .i64 b.nc, .int .i64 b.la, .int .i64 b.lb, .int .i64 b.lc, .int .i64 b.wl, .int .i64 b.lv] 34) = V at HG HA HB
  generalize w.heap.size = A0 at HA HB ⊢
  generalize A0 + 1 = B0 at HB ⊢
  have HK : Hid (∀ W : World, Gr V W → Gr V W ∧ W.cell? ⟨A0, 0, none⟩ = some (.int .i64 a.id) ∧ W.cell? ⟨A0, 1, none⟩ = some (.int .i64 a.pr) ∧ W.cell? ⟨B0, 0, none⟩ = some (.int .i64 b.id) ∧ W.cell? ⟨B0, 1, none⟩ = some (.int .i64 b.pr)) := fun W h => ⟨h, (HA.out.below h.low).cell 0 _ rfl, (HA.out.below h.low).cell 1 _ rfl, (HB.out.below h.low).cell 0 _ rfl, (HB.out.below h.low).cell 1 _ rfl⟩
  have HC2 : Hid (∀ x y W, Gr V W → Calls Try.prog 34 #[.int .i64 x, .int .i64 y] W fun e w' => e = .returned (.int .i64 (f x y)) ∧ Gr V w') := fun x y W h => (HC.out x y W).mono fun _ _ ⟨he, hw⟩ => ⟨he, hw ▸ h⟩
  have HO2 : Hid (∀ W, Gr V W → Calls Try.prog 33 #[.slice (some ⟨W.heap.size, 0, none⟩) 2 2] (W.alloc (.cells #[.int .i64 (f b.pr a.pr), .int .i64 (f a.id b.id)] 3)) fun e w' => e = .returned (.int .i64 r) ∧ Gr V w') := fun W h => (HO.out _ _ (row_fresh W [.int .i64 (f b.pr a.pr), .int .i64 (f a.id b.id)] 3)).mono fun _ _ ⟨he, hw⟩ => ⟨he, hw ▸ h.alloc _⟩
  have G0 := Gr.refl V
  have G1 := (Gr.refl V).drew
  clear HC HO HA HB
  go_region_held3 (fun W => Gr V W ∧ W.cell? ⟨A0, 0, none⟩ = some (.int .i64 a.id) ∧ W.cell? ⟨A0, 1, none⟩ = some (.int .i64 a.pr) ∧ W.cell? ⟨B0, 0, none⟩ = some (.int .i64 b.id) ∧ W.cell? ⟨B0, 1, none⟩ = some (.int .i64 b.pr)) ((go_split_ands; refine HK.out _ ?_; first | (with_reducible assumption) | (exact Gr.alloc (by with_reducible assumption) _) | (exact Gr.drew (by with_reducible assumption))))
    (first
    | (go_at_call 34; refine (HC2.out _ _ _ (And.left (by with_reducible assumption))).mono ?_; rintro e wk ⟨rfl, Gk⟩)
    | (go_at_call 33; refine (HO2.out _ (by with_reducible assumption)).mono ?_; rintro e wk ⟨rfl, Gk⟩))
  all_goals
    go_split_ands
    go_wp2_with fail
    go_ret
    exact ⟨rfl, HG.out.trans Gk⟩
end Go.Proofs.Ytgkbmppgconjgaa

namespace Go.Proofs.Ytgkbmppgconjgaa
open Go.ChangeShapes Go.WideShapes Go.ChangeAt Go.RowKit

/-- A slice of so many jobs in a block from B on and below T (none at all where there is no job). -/
def AnsJ (B T : Nat) (w : World) (n : Nat) (xs : List Value) (v : Value) : Prop := xs.length = 11 * n ∧ ∃ a cap, v = .slice a n cap ∧ (n = 0 ∨ ∃ g, a = some ⟨g, 0, none⟩ ∧ B ≤ g ∧ g < T ∧ Row w g xs)

theorem AnsJ.of_row {w : World} {g n cap : Nat} {xs : List Value} (hx : xs.length = 11 * n) (h : Row w g xs) {B T : Nat} (hB : B ≤ g) (hT : g < T) : AnsJ B T w n xs (.slice (some ⟨g, 0, none⟩) n cap) := ⟨hx, _, cap, rfl, .inr ⟨g, rfl, hB, hT, h⟩⟩
theorem AnsJ.none (B T : Nat) (w : World) (a : Option Addr) (cap : Nat) : AnsJ B T w 0 [] (.slice a 0 cap) := ⟨rfl, a, cap, rfl, .inl rfl⟩

theorem AnsJ.of_owns {w : World} {B n : Nat} {e : TypeId} {v : Value} {xs : List Value} (h : w.ownsRow B e 11 v n xs) : AnsJ B w.heap.size w n xs v := by
  obtain ⟨hlen, h⟩ := h
  refine ⟨by omega, ?_⟩
  rcases h with ⟨rfl, rfl⟩ | ⟨g, cap, cur, rfl, hB, hg, hnc, _, hsz, hx⟩
  · exact ⟨_, 0, rfl, .inl rfl⟩
  · have hlt : g < w.heap.size := by
      rcases Nat.lt_or_ge g w.heap.size with h' | h'
      · exact h'
      · rw [Array.getElem?_eq_none h'] at hg; cases hg
    refine ⟨_, cap, rfl, .inr ⟨g, rfl, hB, hlt, fun i u hu => ?_, fun i => ?_, hlt⟩⟩
    · rw [← hx] at hu
      have hi : cur.toList[i]? = some u := by
        rw [List.getElem?_take] at hu
        split at hu
        · exact hu
        · cases hu
      simp only [World.cell?, hg]
      simpa using hi
    · simp [World.frozen?, hg]

theorem AnsJ.form {B T : Nat} {w : World} {n : Nat} {xs : List Value} {v : Value} (h : AnsJ B T w n xs v) : ∃ a cap, v = .slice a n cap ∧ Sq w a xs := by
  obtain ⟨hx, a, cap, rfl, h⟩ := h
  refine ⟨a, cap, rfl, ?_⟩
  rcases h with rfl | ⟨g, rfl, _, _, hr⟩
  · have : xs = [] := List.length_eq_zero_iff.1 (by omega)
    subst this
    exact ⟨fun i u hu => by simp at hu⟩
  · exact Sq.of_row hr
/-- What keeps its row keeps it. -/
theorem AnsJ.keep {B T : Nat} {w w' : World} {n : Nat} {xs : List Value} {v : Value} (h : AnsJ B T w n xs v) (hk : ∀ g, B ≤ g → g < T → Row w g xs → Row w' g xs) : AnsJ B T w' n xs v := by
  obtain ⟨hx, a, cap, hv, h⟩ := h
  refine ⟨hx, a, cap, hv, ?_⟩
  rcases h with rfl | ⟨g, rfl, hg, hT, hr⟩
  · exact .inl rfl
  · exact .inr ⟨g, rfl, hg, hT, hk g hg hT hr⟩
theorem AnsJ.below {B T : Nat} {w w' : World} {n : Nat} {xs : List Value} {v : Value} (h : AnsJ B T w n xs v) (hb : Below w.heap.size w w') : AnsJ B T w' n xs v := h.keep fun _ _ _ hr => hr.below hb
theorem AnsJ.wide {B B' T T' : Nat} {w : World} {n : Nat} {xs : List Value} {v : Value} (h : AnsJ B T w n xs v) (hB : B' ≤ B) (hT : T ≤ T') : AnsJ B' T' w n xs v := by
  obtain ⟨hx, a, cap, hv, h⟩ := h
  refine ⟨hx, a, cap, hv, ?_⟩
  rcases h with rfl | ⟨g, rfl, hg, hT', hr⟩
  · exact .inl rfl
  · exact .inr ⟨g, rfl, by omega, by omega, hr⟩

/-- The first m cells bear numbers from k on. -/
def UpTo (ys : List Value) (k m : Nat) : Prop := ∀ i, i < m → ys[i]? = some (.int .i64 ((k + i : Nat) : Int))
theorem UpTo.next {ys : List Value} {k j n : Nat} {vs : List Value} (h : UpTo ys k (11 * j)) (hl : ys.length = 11 * n) (hj : j < n) (hv : vs.length = 11) (hvs : ∀ i, i < 11 → vs[i]? = some (.int .i64 ((k + 11 * j + i : Nat) : Int))) : UpTo (putL ys (j * 11) vs) k (11 * (j + 1)) := fun i hi => by
  by_cases e : i < 11 * j
  · rw [putL_out _ _ _ _ (.inl (by omega))]
    exact h i e
  · obtain ⟨q, rfl⟩ : ∃ q, i = j * 11 + q := ⟨i - j * 11, by omega⟩
    rw [putL_in _ _ _ _ (by omega) (by omega), hvs q (by omega)]
    congr 3
    omega
theorem UpTo.all {ys : List Value} {k m : Nat} (h : UpTo ys k m) (hl : ys.length = m) : ys = upFrom k m := by
  apply List.ext_getElem?
  intro i
  by_cases hi : i < m
  · rw [h i hi, upFrom_get k m i hi]
  · rw [List.getElem?_eq_none (by omega), List.getElem?_eq_none (by rw [upFrom_len]; omega)]
theorem grown_setL {w : World} {g : Nat} (vs : List Value) : ∀ {wr : World} (m : Nat), w.grownBy wr (some g) → w.grownBy (setL wr g m vs) (some g) := by
  induction vs with
  | nil => intro wr m h; exact h
  | cons v r ih => intro wr m h; exact ih (m + 1) (Lib.grownBy_setB h _ _)

theorem kv_get (K : Int) (k j i : Nat) (hK : K = ((k + 11 * j : Nat) : Int)) (hi : i < 11) : ([.int .i64 K, .int .i64 (K + 1), .int .i64 (K + 1 + 1), .int .i64 (K + 1 + 1 + 1), .int .i64 (K + 1 + 1 + 1 + 1), .int .i64 (K + 1 + 1 + 1 + 1 + 1), .int .i64 (K + 1 + 1 + 1 + 1 + 1 + 1), .int .i64 (K + 1 + 1 + 1 + 1 + 1 + 1 + 1), .int .i64 (K + 1 + 1 + 1 + 1 + 1 + 1 + 1 + 1), .int .i64 (K + 1 + 1 + 1 + 1 + 1 + 1 + 1 + 1 + 1), .int .i64 (K + 1 + 1 + 1 + 1 + 1 + 1 + 1 + 1 + 1 + 1)] : List Value)[i]? = some (.int .i64 ((k + 11 * j + i : Nat) : Int)) := by
  match i, hi with
  | 0, _ | 1, _ | 2, _ | 3, _ | 4, _ | 5, _ | 6, _ | 7, _ | 8, _ | 9, _ | 10, _ => simp; omega

theorem markJobS_nil (a : Option Addr) (cap k0 : Nat) (w : World) : Calls Try.prog 12 #[.slice a 0 cap, .int .i64 (k0 : Int)] w fun e w' => e = .returned (.int .i64 (k0 : Int)) ∧ w' = w := by
  go_enter Try.func12, Try.ntmps12
  go_wp2_with fail
  go_loopw [1, 5] (fun k i wr => i = .int .i64 0 ∧ k = .int .i64 (k0 : Int) ∧ wr = w) (fun _ _ _ => 0)
  case atStart => exact ⟨rfl, rfl, rfl⟩
  case round =>
    obtain ⟨rfl, rfl, rfl⟩ := hrel
    go_wp2_with fail
    go_ret
    exact ⟨rfl, rfl⟩

set_option maxRecDepth 100000 in
set_option maxHeartbeats 8000000 in
theorem markJobS_c (g cap n k0 : Nat) (xs : List Value) (hx : xs.length = 11 * n) (hl : n ≤ 1048576) (hk : k0 ≤ 4294967296) (w : World) (h : Row w g xs) :
    Calls Try.prog 12 #[.slice (some ⟨g, 0, none⟩) n cap, .int .i64 (k0 : Int)] w fun e w' => e = .returned (.int .i64 ((k0 + 11 * n : Nat) : Int)) ∧ w.grownBy w' (some g) ∧ Row w' g (upFrom k0 (11 * n)) := by
  have H : Hid (Row w g xs) := h
  clear h
  go_enter Try.func12, Try.ntmps12
  go_wp2_with fail
  go_loopw [1, 5] (fun k i wr => ∃ (j : Nat) (ys : List Value), j ≤ n ∧ i = .int .i64 j ∧ k = .int .i64 ((k0 + 11 * j : Nat) : Int) ∧ ys.length = 11 * n ∧ UpTo ys k0 (11 * j) ∧ w.grownBy wr (some g) ∧ Row wr g ys) (fun _ i _ => n - (intOf i).toNat)
  case atStart => exact ⟨0, xs, Nat.zero_le _, rfl, rfl, hx, fun i h => by omega, ⟨rfl, rfl, rfl, Nat.le_refl _, fun _ _ _ => rfl⟩, H.out⟩
  case round =>
    obtain ⟨j, ys, hj, rfl, rfl, hy, hu, hg, hr⟩ := hrel
    have HG : Hid (w.grownBy wr (some g)) := hg
    have HR : Hid (Row wr g ys) := hr
    have HU : Hid (UpTo ys k0 (11 * j)) := hu
    clear hg hr hu
    by_cases hlt : j < n
    · have hi1 : (j : Int) < (n : Int) := by omega
      have hi0 : (0 : Int) ≤ (j : Int) := by omega
      obtain ⟨K, hK⟩ : ∃ K : Int, K = ((k0 + 11 * j : Nat) : Int) := ⟨_, rfl⟩
      rw [← hK]
      have HK : Hid (K = ((k0 + 11 * j : Nat) : Int)) := hK
      have hK0 : 0 ≤ K := by omega
      have hK1 : K ≤ 1000000000000 := by omega
      clear hK
      have HS : Hid (Row (setL wr g (j * 11) [.int .i64 K, .int .i64 (K + 1), .int .i64 (K + 1 + 1), .int .i64 (K + 1 + 1 + 1), .int .i64 (K + 1 + 1 + 1 + 1), .int .i64 (K + 1 + 1 + 1 + 1 + 1), .int .i64 (K + 1 + 1 + 1 + 1 + 1 + 1), .int .i64 (K + 1 + 1 + 1 + 1 + 1 + 1 + 1), .int .i64 (K + 1 + 1 + 1 + 1 + 1 + 1 + 1 + 1), .int .i64 (K + 1 + 1 + 1 + 1 + 1 + 1 + 1 + 1 + 1), .int .i64 (K + 1 + 1 + 1 + 1 + 1 + 1 + 1 + 1 + 1 + 1)]) g (putL ys (j * 11) [.int .i64 K, .int .i64 (K + 1), .int .i64 (K + 1 + 1), .int .i64 (K + 1 + 1 + 1), .int .i64 (K + 1 + 1 + 1 + 1), .int .i64 (K + 1 + 1 + 1 + 1 + 1), .int .i64 (K + 1 + 1 + 1 + 1 + 1 + 1), .int .i64 (K + 1 + 1 + 1 + 1 + 1 + 1 + 1), .int .i64 (K + 1 + 1 + 1 + 1 + 1 + 1 + 1 + 1), .int .i64 (K + 1 + 1 + 1 + 1 + 1 + 1 + 1 + 1 + 1), .int .i64 (K + 1 + 1 + 1 + 1 + 1 + 1 + 1 + 1 + 1 + 1)])) := Row.putL [.int .i64 K, .int .i64 (K + 1), .int .i64 (K + 1 + 1), .int .i64 (K + 1 + 1 + 1), .int .i64 (K + 1 + 1 + 1 + 1), .int .i64 (K + 1 + 1 + 1 + 1 + 1), .int .i64 (K + 1 + 1 + 1 + 1 + 1 + 1), .int .i64 (K + 1 + 1 + 1 + 1 + 1 + 1 + 1), .int .i64 (K + 1 + 1 + 1 + 1 + 1 + 1 + 1 + 1), .int .i64 (K + 1 + 1 + 1 + 1 + 1 + 1 + 1 + 1 + 1), .int .i64 (K + 1 + 1 + 1 + 1 + 1 + 1 + 1 + 1 + 1 + 1)] (j * 11) HR.out (by simp; omega)
      have HGS : Hid (w.grownBy (setL wr g (j * 11) [.int .i64 K, .int .i64 (K + 1), .int .i64 (K + 1 + 1), .int .i64 (K + 1 + 1 + 1), .int .i64 (K + 1 + 1 + 1 + 1), .int .i64 (K + 1 + 1 + 1 + 1 + 1), .int .i64 (K + 1 + 1 + 1 + 1 + 1 + 1), .int .i64 (K + 1 + 1 + 1 + 1 + 1 + 1 + 1), .int .i64 (K + 1 + 1 + 1 + 1 + 1 + 1 + 1 + 1), .int .i64 (K + 1 + 1 + 1 + 1 + 1 + 1 + 1 + 1 + 1), .int .i64 (K + 1 + 1 + 1 + 1 + 1 + 1 + 1 + 1 + 1 + 1)]) (some g)) := grown_setL _ _ HG.out
      have HUS : Hid (UpTo (putL ys (j * 11) [.int .i64 K, .int .i64 (K + 1), .int .i64 (K + 1 + 1), .int .i64 (K + 1 + 1 + 1), .int .i64 (K + 1 + 1 + 1 + 1), .int .i64 (K + 1 + 1 + 1 + 1 + 1), .int .i64 (K + 1 + 1 + 1 + 1 + 1 + 1), .int .i64 (K + 1 + 1 + 1 + 1 + 1 + 1 + 1), .int .i64 (K + 1 + 1 + 1 + 1 + 1 + 1 + 1 + 1), .int .i64 (K + 1 + 1 + 1 + 1 + 1 + 1 + 1 + 1 + 1), .int .i64 (K + 1 + 1 + 1 + 1 + 1 + 1 + 1 + 1 + 1 + 1)]) k0 (11 * (j + 1))) := HU.out.next hy hlt rfl (fun i hi => kv_get K k0 j i HK.out hi)
      have d0 := HR.out.cell (j * 11) _ (List.getElem?_eq_getElem (by omega))
      have f0 := HR.out.free (j * 11)
      generalize ys[j * 11] = y0 at d0
      have d1 := HR.out.cell (j * 11 + 1) _ (List.getElem?_eq_getElem (by omega))
      have f1 := HR.out.free (j * 11 + 1)
      generalize ys[j * 11 + 1] = y1 at d1
      have d2 := HR.out.cell (j * 11 + 2) _ (List.getElem?_eq_getElem (by omega))
      have f2 := HR.out.free (j * 11 + 2)
      generalize ys[j * 11 + 2] = y2 at d2
      have d3 := HR.out.cell (j * 11 + 3) _ (List.getElem?_eq_getElem (by omega))
      have f3 := HR.out.free (j * 11 + 3)
      generalize ys[j * 11 + 3] = y3 at d3
      have d4 := HR.out.cell (j * 11 + 4) _ (List.getElem?_eq_getElem (by omega))
      have f4 := HR.out.free (j * 11 + 4)
      generalize ys[j * 11 + 4] = y4 at d4
      have d5 := HR.out.cell (j * 11 + 5) _ (List.getElem?_eq_getElem (by omega))
      have f5 := HR.out.free (j * 11 + 5)
      generalize ys[j * 11 + 5] = y5 at d5
      have d6 := HR.out.cell (j * 11 + 6) _ (List.getElem?_eq_getElem (by omega))
      have f6 := HR.out.free (j * 11 + 6)
      generalize ys[j * 11 + 6] = y6 at d6
      have d7 := HR.out.cell (j * 11 + 7) _ (List.getElem?_eq_getElem (by omega))
      have f7 := HR.out.free (j * 11 + 7)
      generalize ys[j * 11 + 7] = y7 at d7
      have d8 := HR.out.cell (j * 11 + 8) _ (List.getElem?_eq_getElem (by omega))
      have f8 := HR.out.free (j * 11 + 8)
      generalize ys[j * 11 + 8] = y8 at d8
      have d9 := HR.out.cell (j * 11 + 9) _ (List.getElem?_eq_getElem (by omega))
      have f9 := HR.out.free (j * 11 + 9)
      generalize ys[j * 11 + 9] = y9 at d9
      have d10 := HR.out.cell (j * 11 + 10) _ (List.getElem?_eq_getElem (by omega))
      have f10 := HR.out.free (j * 11 + 10)
      generalize ys[j * 11 + 10] = y10 at d10
      go_wp2_with fail
      exact ⟨⟨j + 1, putL ys (j * 11) [.int .i64 K, .int .i64 (K + 1), .int .i64 (K + 1 + 1), .int .i64 (K + 1 + 1 + 1), .int .i64 (K + 1 + 1 + 1 + 1), .int .i64 (K + 1 + 1 + 1 + 1 + 1), .int .i64 (K + 1 + 1 + 1 + 1 + 1 + 1), .int .i64 (K + 1 + 1 + 1 + 1 + 1 + 1 + 1), .int .i64 (K + 1 + 1 + 1 + 1 + 1 + 1 + 1 + 1), .int .i64 (K + 1 + 1 + 1 + 1 + 1 + 1 + 1 + 1 + 1), .int .i64 (K + 1 + 1 + 1 + 1 + 1 + 1 + 1 + 1 + 1 + 1)], by omega, by go_num, by have := HK.out; congr 1; omega, by rw [putL_len]; exact hy, HUS.out, HGS.out, HS.out⟩, by simp [intOf]; omega⟩
    · obtain rfl : j = n := by omega
      have HE : Hid (ys = upFrom k0 (11 * j)) := HU.out.all hy
      go_wp2_with fail
      go_ret
      exact ⟨rfl, HG.out, by rw [← HE.out]; exact HR.out⟩

theorem mark_ansJ {B T k0 n : Nat} {w : World} {xs : List Value} {v : Value} (h : AnsJ B T w n xs v) (hl : n ≤ 1048576) (hk : k0 ≤ 4294967296) :
    Calls Try.prog 12 #[v, .int .i64 (k0 : Int)] w fun e w' => e = .returned (.int .i64 ((k0 + 11 * n : Nat) : Int)) ∧ AnsJ B T w' n (upFrom k0 (11 * n)) v ∧
      (∀ b ys, Row w b ys → b < B ∨ T ≤ b → Row w' b ys) ∧ (∀ w0 : World, Below w0.heap.size w0 w → w0.heap.size ≤ B → Below w0.heap.size w0 w') := by
  obtain ⟨hx, a, cap, rfl, h⟩ := h
  rcases h with rfl | ⟨g, rfl, hg, hT, hr⟩
  · refine (markJobS_nil a cap k0 w).mono ?_
    rintro e w' ⟨rfl, rfl⟩
    exact ⟨by simp, AnsJ.none _ _ _ _ _, fun _ _ h _ => h, fun _ h _ => h⟩
  · refine (markJobS_c g cap n k0 xs hx hl hk w hr).mono ?_
    rintro e w' ⟨rfl, hgr, hr'⟩
    exact ⟨rfl, AnsJ.of_row (upFrom_len _ _) hr' hg hT, fun b ys h hb => h.far hgr (by intro e; have := Option.some.inj e; omega), fun w0 hb0 h0 => hb0.grown hgr hb0.size (fun k e => by cases e; omega)⟩

theorem heldJobS_nil (a : Option Addr) (cap k0 : Nat) (w : World) : Calls Try.prog 13 #[.slice a 0 cap, .int .i64 (k0 : Int)] w fun e w' => e = .returned (.int .i64 (k0 : Int)) ∧ Below w.heap.size w w' := by
  go_enter Try.func13, Try.ntmps13
  go_wp2_with fail
  go_loopw [1, 5] (fun k i wr => i = .int .i64 0 ∧ k = .int .i64 (k0 : Int) ∧ wr = w) (fun _ _ _ => 0)
  case atStart => exact ⟨rfl, rfl, rfl⟩
  case round =>
    obtain ⟨rfl, rfl, rfl⟩ := hrel
    go_wp2_with fail
    go_ret
    exact ⟨rfl, Below.refl _ _⟩
end Go.Proofs.Ytgkbmppgconjgaa

namespace Go.Proofs.Ytgkbmppgconjgaa
open Go.ChangeShapes Go.WideShapes Go.ChangeAt Go.RowKit Go.Sort Go.Shelf

theorem heap_put {w : World} {g n : Nat} {os : Array Obj} {cur : Array Value} {e : TypeId} {fr : Nat × Nat} (d : Array Value) (hb : w.heap[g]? = some (.cells cur e fr)) :
    (grow (putRow id (Sort.ahead w n) g 0 d) os).heap[g]? = some (.cells (putCells id 0 d cur) e fr) := by
  have hg : g < w.heap.size := (Array.getElem?_eq_some_iff.1 hb).1
  rw [heap_grow_old _ _ (by simpa using hg)]
  simp [putRow, mapBlock, Sort.ahead, Array.getElem?_modify, hb, onCells]
theorem grown_put {w : World} {g n : Nat} {os : Array Obj} (d : Array Value) : w.grownBy (grow (putRow id (Sort.ahead w n) g 0 d) os) (some g) := by
  refine ⟨rfl, rfl, rfl, by simp, fun k hk hne => ?_⟩
  rw [heap_grow_old _ _ (by simpa using hk)]
  have : g ≠ k := fun e => hne (by rw [e])
  simp [putRow, mapBlock, Sort.ahead, Array.getElem?_modify, this]
theorem take_put (cur : Array Value) (ts : List Value) (h : ts.length ≤ cur.size) : (putCells id 0 ts.toArray cur).toList.take ts.length = ts := by
  apply List.ext_getElem?
  intro j
  by_cases hj : j < ts.length
  · rw [List.getElem?_take_of_lt hj, Array.getElem?_toList]
    simp [putCells, hj, show j < cur.size by omega]
  · rw [List.getElem?_take_eq_none (by omega), List.getElem?_eq_none (by omega)]
theorem flatK_jobs [Inhabited Jb] (d : Array Jb) : flatK Jb.cells 11 d = (flatJ d.toList).toArray := by
  apply Array.ext'
  apply List.ext_getElem?
  intro t
  by_cases ht : t < d.size * 11
  · have h1 := flatJ_get d.toList (t / 11) (t % 11) (by simp; omega) (by omega)
    rw [show t / 11 * 11 + t % 11 = t by omega] at h1
    rw [List.toList_toArray, h1]
    have h2 : t / 11 < d.size := by omega
    have h3 : t % 11 < (d[t / 11]'h2).cells.length := by rw [Jb.len]; omega
    simp [flatK, ht, h2, List.getElem?_eq_getElem h3]
  · rw [List.getElem?_eq_none (by simp [flatK]; omega), List.getElem?_eq_none (by simp [flatJ_len]; omega)]
theorem swo_rank : SWO (ltOf cfR) where
  irrefl x := by show decide _ = _; rw [cfR_bef, bef_not]; omega
  trans x y z h1 h2 := by
    change decide _ = _ at h1 h2
    show decide _ = _
    rw [cfR_bef, bef_iff] at *
    omega
  ntrans x y z h1 h2 := by
    change decide _ = _ at h1 h2
    show decide _ = _
    rw [cfR_bef, bef_not] at *
    omega
theorem rnk_of_sorted [Inhabited Jb] {d : Array Jb} (h : SortedIn (ltOf cfR) 0 d.size d) : Rnk d.toList := by
  refine List.pairwise_iff_getElem.2 fun i j hi hj hij => ?_
  have hi' : i < d.size := by simpa using hi
  have hj' : j < d.size := by simpa using hj
  have := h i j (Nat.zero_le _) hij hj'
  change decide _ = _ at this
  rw [cfR_bef] at this
  simpa [hi', hj'] using this

set_option maxHeartbeats 1000000 in
theorem cloneJ_c (q : Addr) (D : Nat) (xs : List Jb) (hl : xs.length ≤ 1048576) (w : World) (h : Sq w (some q) (flatJ xs)) :
    Calls Try.prog 20 #[.slice (some q) xs.length D] w fun e w' => ∃ v, e = .returned v ∧ w'.ownsRow w.heap.size 34 11 v xs.length (flatJ xs) ∧ Below w.heap.size w w' := by
  have H : Hid (Sq w (some q) (flatJ xs)) := h
  clear h
  obtain ⟨i0, hi, hz0, hz1, hz2⟩ := info_parts infoJob
  have hO : Hid ((w.alloc (.cells #[] 34)).ownsRow w.heap.size 34 11 (.slice (some ⟨w.heap.size, 0, none⟩) 0 0) 0 []) := World.ownsRow_made w #[] 0 (Nat.le_refl _) (by decide) rfl
  have hB : Hid (Below w.heap.size w (w.alloc (.cells #[] 34))) := low_alloc _ _
  have heq : ∀ W : World, (binOp .eql 25 (.slice (some q) xs.length D) (.slice none 0 0)).run Try.prog W = .ok (.bool false) W := fun W => by
    simp only [binOp]
    simp [run_equal_slice_nil W 25 34 (some q) xs.length D Try.underlying25]
  go_enter Try.func20, Try.ntmps20
  go_wp2_with (at_builtin; refine wpList_append_own _ rfl _ _ 25 rfl w.heap.size 34 i0 (.agg #[.int .i64 0, .int .i64 0, .int .i64 0, .int .i64 0, .int .i64 0, .int .i64 0, .int .i64 0, .int .i64 0, .int .i64 0, .int .i64 0, .int .i64 0]) 11 88 Try.underlying25 hi hz0 hz1 hz2 rfl (by decide) _ _ _ rfl hO.out q xs.length D (flatJ xs) rfl (by rw [flatJ_len]; omega) ?c1 ?c2 ?c3 ?c4 ?c5 ?_)
  case c1 =>
    intro k u hk
    obtain ⟨q', hq, _, hc⟩ := (H.out.below hB.out).cell k u hk
    cases hq
    exact hc
  case c2 =>
    intro u hu
    obtain ⟨n, hn, hu⟩ := List.mem_flatMap.1 hu
    simp only [Jb.cells, List.mem_cons, List.not_mem_nil, or_false] at hu
    rcases hu with rfl | rfl | rfl | rfl | rfl | rfl | rfl | rfl | rfl | rfl | rfl <;> rfl
  case c3 => unfold maxLen; omega
  case c4 => omega
  case c5 => simp
  · intro v1 w6 hown1 hgrow1 _
    have HB6 : Hid (Below w.heap.size w w6) := hB.out.grown hgrow1 (by simp) (fun q hq => (hO.out.lt q hq).1)
    have HO6 : Hid (w6.ownsRow w.heap.size 34 11 v1 xs.length (flatJ xs)) := by
      show World.ownsRow _ _ _ _ _ _ _
      simpa using hown1
    clear hown1 hgrow1
    go_wp2_with fail
    go_ret
    exact ⟨v1, rfl, HO6.out, HB6.out⟩

theorem sortJ_c {w : World} {B : Nat} {v : Value} {xs : List Jb} (hd : (idsJ xs).Nodup) (hn : xs.length ≤ 1048576) (hB : B ≤ w.heap.size) (h : w.ownsRow B 34 11 v xs.length (flatJ xs)) :
    Calls Try.prog 21 #[v, .func (.func 22) #[] #[]] w fun e w' => e = .returned (.tuple #[]) ∧ w'.ownsRow B 34 11 v xs.length (flatJ (ordS xs)) ∧ Below B w w' := by
  haveI : Inhabited Jb := ⟨⟨0, 0, 0, 0, 0, 0, 0, 0, 0, 0, 0⟩⟩
  by_cases h0 : xs.length = 0
  · have hx : xs = [] := List.length_eq_zero_iff.1 h0
    subst hx
    obtain ⟨a, cap, rfl, _⟩ := (AnsJ.of_owns h).form
    refine (AnyF.slices_SortFunc_none Try.sortJ a cap _ w).mono ?_
    rintro e w' ⟨rfl, rfl⟩
    exact ⟨rfl, by simpa [ordS] using h, Below.refl _ _⟩
  · obtain ⟨hlen, hv⟩ := h
    rcases hv with ⟨_, hz⟩ | ⟨g, cap, cur, rfl, hg, hb, h1, h2, h3, h4⟩
    · exact absurd hz h0
    · have hgl : g < w.heap.size := (Array.getElem?_eq_some_iff.1 hb).1
      have hH : HoldsK Jb.cells 11 w g 0 xs.toArray := by
        unfold HoldsK
        rw [flatK_jobs]
        intro j hj
        have hj' : j < (flatJ xs).length := by simpa using hj
        refine ⟨?_, by simp [World.frozen?, hb]⟩
        have hx : (cur.toList.take (xs.length * 11))[j]? = (flatJ xs)[j]? := by rw [h4]
        rw [List.getElem?_take_of_lt (by rw [flatJ_len] at hj'; omega)] at hx
        simp only [World.cell?, hb, Nat.zero_add]
        simp only [Option.isSome_none, Bool.false_eq_true, if_false]
        rw [← Array.getElem?_toList, hx]
        simp [hj']
      have hcmp : CmpLays Try.prog 22 #[] Jb.cells 11 cfR g 0 xs.toArray.size w := fun _ _ _ _ x y => compareRank_c x y _
      refine (AnyQ.slices_SortFunc Try.sortJ 11 Try.isAgg34 Try.sizeOf34 Jb.cells (fun _ => rfl) (fun x u hu => ?_) cfR swo_rank 22 #[] g 0 cap xs.toArray w (enters_of Try.func22 (by kernel_rfl) rfl) hcmp hH hgl (by simp; omega)).mono ?_
      · simp only [Jb.cells, List.mem_cons, List.not_mem_nil, or_false] at hu
        rcases hu with rfl | rfl | rfl | rfl | rfl | rfl | rfl | rfl | rfl | rfl | rfl <;> rfl
      · rintro e w' ⟨rfl, d', n, os, ⟨hp1, _, hp3⟩, hs, rfl⟩
        have hsz : d'.size = xs.length := by simpa using hp1
        have hperm : d'.toList.Perm xs := by
          have e1 : d'.extract 0 xs.toArray.size = d' := by rw [← hp1]; simp
          have e2 : xs.toArray.extract 0 xs.toArray.size = xs.toArray := by simp
          rw [e1, e2] at hp3
          simpa using hp3
        have he : d'.toList = ordS xs := rnk_one hd hperm (rnk_of_sorted (by rw [hp1]; exact hs))
        have hfl : (flatJ (ordS xs)).length = xs.length * 11 := by rw [flatJ_len, (ordS_perm xs).length_eq]; omega
        unfold sortWorldK putRowK
        rw [flatK_jobs, he]
        refine ⟨rfl, ⟨hfl, .inr ⟨g, cap, _, rfl, hg, heap_put _ hb, h1, h2, by simp [putCells, h3], ?_⟩⟩, ?_⟩
        · rw [← hfl]
          exact take_put cur _ (by rw [hfl, h3]; exact Nat.mul_le_mul_right 11 h1)
        · exact (Below.refl B w).grown (grown_put _) hB (fun k e => by cases e; exact hg)

/-- What 'Order' hands back. -/
def RetJ (w : World) (r : List Jb) (e : Ending) (w' : World) : Prop := ∃ v, e = .returned v ∧ AnsJ w.heap.size w'.heap.size w' r.length (flatJ r) v ∧ Below w.heap.size w w'

set_option maxHeartbeats 2000000 in
theorem implOrder_c (q : Addr) (c : Nat) (xs : List Jb) (hx : xs.length ≤ 1048576) (w : World) (h : Sq w (some q) (flatJ xs)) :
    Calls Try.prog 11 #[.slice (some q) xs.length c] w fun e w' => RetJ w (orderR xs) e w' := by
  have H : Hid (Sq w (some q) (flatJ xs)) := h
  clear h
  go_enter Try.func11, Try.ntmps11
  go_wp2_with fail
  refine (implQueueOk_c _ _ xs hx _ H.out).mono ?_
  rintro e w1 ⟨rfl, hb⟩
  have B1 : Hid (Below w.heap.size w w1) := hb
  clear hb
  cases hq : queueB xs
  · have HR : Hid (orderR xs = []) := by show _ = _; simp [orderR, hq]
    clear hq
    go_wp2_with fail
    go_ret
    exact ⟨_, rfl, by rw [HR.out]; exact AnsJ.none _ _ _ _ _, B1.out⟩
  · have HR : Hid (orderR xs = ordS xs) := by show _ = _; simp [orderR, hq]
    have HD : Hid ((idsJ xs).Nodup) := (queue_few hq).2
    clear hq
    go_wp2_with fail
    refine (cloneJ_c q c xs hx _ (H.out.below B1.out)).mono ?_
    rintro e w2 ⟨v, rfl, ho, hb⟩
    have B2 : Hid (Below w.heap.size w w2) := below_then B1.out hb
    have O2 : Hid (w2.ownsRow w.heap.size 34 11 v xs.length (flatJ xs)) := owns_mono ho B1.out.size
    clear ho hb
    go_wp2_with fail
    refine (sortJ_c HD.out hx B2.out.size O2.out).mono ?_
    rintro e w3 ⟨rfl, ho, hb⟩
    have B3 : Hid (Below w.heap.size w w3) := B2.out.trans hb
    have O3 : Hid (w3.ownsRow w.heap.size 34 11 v xs.length (flatJ (ordS xs))) := ho
    clear ho hb
    go_wp2_with fail
    go_ret
    refine ⟨v, rfl, ?_, B3.out⟩
    rw [HR.out, (ordS_perm xs).length_eq]
    exact AnsJ.of_owns O3.out
end Go.Proofs.Ytgkbmppgconjgaa

namespace Go.Proofs.Ytgkbmppgconjgaa
open Go.ChangeShapes Go.WideShapes Go.ChangeAt Go.RowKit

set_option maxHeartbeats 1000000 in
theorem before_c (a b : Jb) (w : World) : Calls Try.prog 19 #[.agg #[.int .i64 a.id, .int .i64 a.pr, .int .i64 a.nd, .int .i64 a.na, .int .i64 a.nb, .int .i64 a.nc, .int .i64 a.la, .int .i64 a.lb, .int .i64 a.lc, .int .i64 a.wl, .int .i64 a.lv], .agg #[.int .i64 b.id, .int .i64 b.pr, .int .i64 b.nd, .int .i64 b.na, .int .i64 b.nb, .int .i64 b.nc, .int .i64 b.la, .int .i64 b.lb, .int .i64 b.lc, .int .i64 b.wl, .int .i64 b.lv]] w fun e w' => e = .returned (.bool (befB a b)) ∧ Below w.heap.size w w' := by
  by_cases h1 : b.pr < a.pr
  · have HN : Hid (befB a b = true) := (bef_iff a b).2 (.inl h1)
    go_enter Try.func19, Try.ntmps19
    go_wp2_with fail
    go_ret
    exact ⟨by rw [HN.out]; rfl, by go_grown⟩
  · by_cases h2 : a.pr = b.pr
    · have HN : Hid (befB a b = decide (a.id < b.id)) := by show _ = _; simp [befB, h2]
      have hd : (a.pr == b.pr) = true := by simpa using h2
      clear h2
      go_enter Try.func19, Try.ntmps19
      go_wp2_with fail
      go_ret
      exact ⟨by rw [HN.out]; rfl, by go_grown⟩
    · have HN : Hid (befB a b = false) := (bef_not a b).2 (.inl (by omega))
      have hd : (a.pr == b.pr) = false := by simpa using h2
      clear h2
      go_enter Try.func19, Try.ntmps19
      go_wp2_with fail
      go_ret
      exact ⟨by rw [HN.out]; rfl, by go_grown⟩

theorem flatJ_snoc (xs : List Jb) (y : Jb) : flatJ (xs ++ [y]) = flatJ xs ++ y.cells := by simp [flatJ]
/-- 'append(s, y)' of one job to a list of the call's own. -/
theorem wpl_appJ {ops : Array Oper} {rest : List Oper} {o : Oper} {a : Act} {Q : Exit → Act → World → Prop} {wr B : World} {base : Nat} {v : Value} {xs : List Jb} {y : Jb} {s x : Operand} (hgd : o.guard = none)
    (ho : o.op = .call { callee := .builtin .append, args := #[s, x], argTypes := #[25, 25] })
    (hown : wr.ownsRow base 34 11 v xs.length (flatJ xs)) (hlen : xs.length ≤ 100000) (hB : Below B.heap.size B wr) (hb1 : B.heap.size ≤ base) (hb2 : base ≤ wr.heap.size)
    (hs : a.eval s = v) (g : Nat) (hg : wr.heap.size = g) (hx : a.eval x = .slice (some ⟨g, 0, none⟩) 1 1)
    (h : ∀ v' w', Hid (w'.ownsRow base 34 11 v' (xs.length + 1) (flatJ (xs ++ [y]))) → Hid (Below B.heap.size B w') → Hid (wr.grownBy w' v.ownBlock) → wpList Try.prog ops Q rest (a.put o.dst v') w') :
    wpList Try.prog ops Q (o :: rest) a (wr.alloc (.cells #[.int .i64 y.id, .int .i64 y.pr, .int .i64 y.nd, .int .i64 y.na, .int .i64 y.nb, .int .i64 y.nc, .int .i64 y.la, .int .i64 y.lb, .int .i64 y.lc, .int .i64 y.wl, .int .i64 y.lv] 34)) := by
  subst hg
  obtain ⟨i0, hi, hz0, hz1, hz2⟩ := info_parts infoJob
  refine wpList_append_own _ hgd s x 25 ho base 34 i0 (.agg #[.int .i64 0, .int .i64 0, .int .i64 0, .int .i64 0, .int .i64 0, .int .i64 0, .int .i64 0, .int .i64 0, .int .i64 0, .int .i64 0, .int .i64 0]) 11 88 Try.underlying25 hi hz0 hz1 hz2 rfl (by decide) v xs.length (flatJ xs) hs (hown.alloc _) ⟨wr.heap.size, 0, none⟩ 1 1 y.cells hx rfl ?_ ?_ ?_ ?_ ?_ ?_
  · intro k u hk
    have := (row_fresh wr [.int .i64 y.id, .int .i64 y.pr, .int .i64 y.nd, .int .i64 y.na, .int .i64 y.nb, .int .i64 y.nc, .int .i64 y.la, .int .i64 y.lb, .int .i64 y.lc, .int .i64 y.wl, .int .i64 y.lv] 34).cell k u hk
    have e : (⟨wr.heap.size, 0, none⟩ : Addr).add k = ⟨wr.heap.size, k, none⟩ := by unfold Addr.add; split <;> simp_all
    rw [e]
    exact this
  · intro u hu
    simp only [Jb.cells, List.mem_cons, List.not_mem_nil, or_false] at hu
    rcases hu with rfl | rfl | rfl | rfl | rfl | rfl | rfl | rfl | rfl | rfl | rfl <;> rfl
  · unfold maxLen; omega
  · omega
  · simp; omega
  · intro v' w' h1 h2 _
    refine h v' w' ?_ ?_ ?_
    · show World.ownsRow _ _ _ _ _ _ _
      rw [flatJ_snoc]
      exact h1
    rotate_left
    · exact ⟨h2.os, h2.tape, h2.output, Nat.le_trans (by simp) h2.size, fun i hi hne => (h2.block i (Nat.lt_of_lt_of_le hi (by simp)) hne).trans ((low_alloc wr _).block i hi)⟩
    · exact (hB.alloc hB.size _).grown h2 (by simp; have := hB.size; omega) (fun q hq => by have := (hown.lt q hq).1; omega)

/-- How far the putting in has come. -/
def InAt (x : Jb) (cur : List Jb) (m : Nat) (d : Bool) (acc : List Jb) : Prop := acc.length ≤ m + 1 ∧ acc ++ (bif d then cur.drop m else insJ x (cur.drop m)) = insJ x cur
theorem InAt.start (x : Jb) (cur : List Jb) : InAt x cur 0 false [] := ⟨by simp, by simp⟩

theorem InAt.on {x y : Jb} {cur acc : List Jb} {m : Nat} (h : InAt x cur m true acc) (hy : cur[m]? = some y) : InAt x cur (m + 1) true (acc ++ [y]) := by
  obtain ⟨h1, h2⟩ := h
  obtain ⟨hm, rfl⟩ := List.getElem?_eq_some_iff.1 hy
  refine ⟨by simp; omega, ?_⟩
  rw [← h2]
  simp only [cond_true]
  rw [List.drop_eq_getElem_cons hm]
  simp
theorem InAt.here {x y : Jb} {cur acc : List Jb} {m : Nat} (h : InAt x cur m false acc) (ha : acc.length ≤ m) (hy : cur[m]? = some y) (hb : befB x y = true) : InAt x cur (m + 1) true (acc ++ [x] ++ [y]) := by
  obtain ⟨h1, h2⟩ := h
  obtain ⟨hm, rfl⟩ := List.getElem?_eq_some_iff.1 hy
  refine ⟨by simp; omega, ?_⟩
  rw [← h2]
  simp only [cond_true, cond_false]
  rw [List.drop_eq_getElem_cons hm, insJ, if_pos hb]
  simp
theorem InAt.past {x y : Jb} {cur acc : List Jb} {m : Nat} (h : InAt x cur m false acc) (hy : cur[m]? = some y) (hb : befB x y = false) : InAt x cur (m + 1) false (acc ++ [y]) := by
  obtain ⟨h1, h2⟩ := h
  obtain ⟨hm, rfl⟩ := List.getElem?_eq_some_iff.1 hy
  refine ⟨by simp; omega, ?_⟩
  rw [← h2]
  simp only [cond_false]
  rw [List.drop_eq_getElem_cons hm, insJ, if_neg (by simp [hb])]
  simp
theorem InAt.end1 {x : Jb} {cur acc : List Jb} (h : InAt x cur cur.length true acc) : acc = insJ x cur := by
  have := h.2
  simpa using this
theorem InAt.end0 {x : Jb} {cur acc : List Jb} (h : InAt x cur cur.length false acc) : acc ++ [x] = insJ x cur := by
  have := h.2
  simpa [insJ] using this

set_option maxHeartbeats 4000000 in
theorem specOrder_c (a : Option Addr) (c : Nat) (xs : List Jb) (hx : xs.length ≤ 1048576) (w : World) (h : Sq w a (flatJ xs)) :
    Calls Try.prog 10 #[.slice a xs.length c] w fun e w' => RetJ w (orderR xs) e w' := by
  have H : Hid (Sq w a (flatJ xs)) := h
  clear h
  go_enter Try.func10, Try.ntmps10
  go_wp2_with fail
  have O0 : Hid ((w.alloc (.cells #[] 34)).ownsRow w.heap.size 34 11 (.slice (some ⟨w.heap.size, 0, none⟩) 0 0) 0 []) := World.ownsRow_made w #[] 0 (Nat.le_refl _) (by decide) rfl
  have B0 : Hid (Below w.heap.size w (w.alloc (.cells #[] 34))) := low_alloc _ _
  generalize w.alloc (.cells #[] 34) = w0 at O0 B0
  refine (specQueueOk_c _ _ xs hx _ (H.out.below B0.out)).mono ?_
  rintro e w1 ⟨rfl, hb⟩
  have B1 : Hid (Below w.heap.size w w1) := below_then B0.out hb
  have O1 : Hid (w1.ownsRow w.heap.size 34 11 (.slice (some ⟨w.heap.size, 0, none⟩) 0 0) 0 []) := owns_below O0.out hb
  clear hb B0 O0
  cases hq : queueB xs
  · have HR : Hid (orderR xs = []) := by show _ = _; simp [orderR, hq]
    clear hq
    go_wp2_with fail
    go_ret
    exact ⟨_, rfl, by rw [HR.out]; exact AnsJ.none _ _ _ _ _, B1.out⟩
  · have HR : Hid (orderR xs = ordS xs) := by show _ = _; simp [orderR, hq]
    have hfew : xs.length ≤ 60 := (queue_few hq).1
    clear hq
    go_wp2_with fail
    go_loopw [3, 17] (fun o i wr => ∃ j : Nat, j ≤ xs.length ∧ i = .int .i64 j ∧ wr.ownsRow w.heap.size 34 11 o (ordTo xs j).length (flatJ (ordTo xs j)) ∧ Below w.heap.size w wr) (fun _ i _ => xs.length - (intOf i).toNat)
    case atStart => exact ⟨0, Nat.zero_le _, rfl, O1.out, B1.out⟩
    case round =>
      obtain ⟨j, hj, rfl, hown, hb⟩ := hrel
      have HO : Hid (wr.ownsRow w.heap.size 34 11 u3 (ordTo xs j).length (flatJ (ordTo xs j))) := hown
      have HB : Hid (Below w.heap.size w wr) := hb
      clear hown hb O1 B1
      by_cases hlt : j < xs.length
      · have hj0 : (0 : Int) ≤ (j : Int) := by omega
        have hj1 : (j : Int) < (xs.length : Int) := by omega
        have HX : Hid (xs[j]? = some xs[j]) := List.getElem?_eq_getElem hlt
        obtain ⟨p, rfl⟩ := H.out.some_of j hlt
        generalize xs[j] = x at HX
        have HN : Hid (ordTo xs (j + 1) = insJ x (ordTo xs j)) := ordTo_next HX.out
        have hcl : (ordTo xs j).length ≤ 60 := by rw [ordTo_len xs j hj]; omega
        obtain ⟨ga, gc, rfl, hsq⟩ := (AnsJ.of_owns HO.out).form
        have HQ : Hid (Sq wr ga (flatJ (ordTo xs j))) := hsq
        clear hsq HO
        generalize ordTo xs j = cur at HN hcl HQ ⊢
        have c0 := (H.out.below HB.out).job0 HX.out
        have c1 := (H.out.below HB.out).jobK HX.out 1 (by decide) _ rfl
        have c2 := (H.out.below HB.out).jobK HX.out 2 (by decide) _ rfl
        have c3 := (H.out.below HB.out).jobK HX.out 3 (by decide) _ rfl
        have c4 := (H.out.below HB.out).jobK HX.out 4 (by decide) _ rfl
        have c5 := (H.out.below HB.out).jobK HX.out 5 (by decide) _ rfl
        have c6 := (H.out.below HB.out).jobK HX.out 6 (by decide) _ rfl
        have c7 := (H.out.below HB.out).jobK HX.out 7 (by decide) _ rfl
        have c8 := (H.out.below HB.out).jobK HX.out 8 (by decide) _ rfl
        have c9 := (H.out.below HB.out).jobK HX.out 9 (by decide) _ rfl
        have c10 := (H.out.below HB.out).jobK HX.out 10 (by decide) _ rfl
        go_wp2_with fail
        clear c0 c1 c2 c3 c4 c5 c6 c7 c8 c9 c10
        obtain ⟨U, hU⟩ : ∃ U, wr.alloc (.cells #[.int .i64 x.id, .int .i64 x.pr, .int .i64 x.nd, .int .i64 x.na, .int .i64 x.nb, .int .i64 x.nc, .int .i64 x.la, .int .i64 x.lb, .int .i64 x.lc, .int .i64 x.wl, .int .i64 x.lv] 34) = U := ⟨_, rfl⟩
        have hUs : U.heap.size = wr.heap.size + 1 := by rw [← hU]; simp [go_sem]
        have R5 : Hid (Row U wr.heap.size [.int .i64 x.id, .int .i64 x.pr, .int .i64 x.nd, .int .i64 x.na, .int .i64 x.nb, .int .i64 x.nc, .int .i64 x.la, .int .i64 x.lb, .int .i64 x.lc, .int .i64 x.wl, .int .i64 x.lv]) := by rw [← hU]; exact row_fresh wr [.int .i64 x.id, .int .i64 x.pr, .int .i64 x.nd, .int .i64 x.na, .int .i64 x.nb, .int .i64 x.nc, .int .i64 x.la, .int .i64 x.lb, .int .i64 x.lc, .int .i64 x.wl, .int .i64 x.lv] 34
        have BU : Hid (Below w.heap.size w U) := by rw [← hU]; exact behind_alloc HB.out _
        have Q5 : Hid (Sq U ga (flatJ cur)) := by rw [← hU]; exact HQ.out.below (low_alloc _ _)
        rw [hU, ← hUs]
        clear hU HQ HB
        have hX0 := R5.out.lt
        generalize wr.heap.size = X0 at R5 hX0 ⊢
        clear hUs wr
        have O6 : Hid ((U.alloc (.cells #[] 34)).ownsRow U.heap.size 34 11 (.slice (some ⟨U.heap.size, 0, none⟩) 0 0) ([] : List Jb).length (flatJ [])) := World.ownsRow_made U #[] 0 (Nat.le_refl _) (by decide) rfl
        have B6 : Hid (Below U.heap.size U (U.alloc (.cells #[] 34))) := low_alloc _ _
        generalize U.alloc (.cells #[] 34) = w6 at O6 B6 ⊢
        go_loopw [6, 7, 24] (fun nx dn i wr => ∃ (m : Nat) (d : Bool) (acc : List Jb), m ≤ cur.length ∧ i = .int .i64 m ∧ dn = .bool d ∧ wr.ownsRow U.heap.size 34 11 nx acc.length (flatJ acc) ∧ (d = false → acc.length ≤ m) ∧ InAt x cur m d acc ∧ Below U.heap.size U wr) (fun _ _ i _ => cur.length - (intOf i).toNat)
        case atStart => exact ⟨0, false, [], Nat.zero_le _, rfl, rfl, O6.out, fun _ => Nat.le_refl _, InAt.start x cur, B6.out⟩
        case round =>
          obtain ⟨m, d, acc, hm, rfl, rfl, hown, hacc, hin, hb⟩ := hrel
          have HO : Hid (wr.ownsRow U.heap.size 34 11 u6 acc.length (flatJ acc)) := hown
          have HI : Hid (InAt x cur m d acc) := hin
          have HB : Hid (Below U.heap.size U wr) := hb
          have ha1 : acc.length ≤ m + 1 := hin.1
          have HAc : Hid (d = false → acc.length ≤ m) := hacc
          have hUw : U.heap.size ≤ wr.heap.size := hb.size
          clear hown hin hb hacc O6 B6
          by_cases hml : m < cur.length
          · have hm0 : (0 : Int) ≤ (m : Int) := by omega
            have hm1 : (m : Int) < (cur.length : Int) := by omega
            have HY : Hid (cur[m]? = some cur[m]) := List.getElem?_eq_getElem hml
            obtain ⟨p2, rfl⟩ := Q5.out.some_of m hml
            generalize cur[m] = y at HY
            have c0 := (Q5.out.below HB.out).job0 HY.out
            have c1 := (Q5.out.below HB.out).jobK HY.out 1 (by decide) _ rfl
            have c2 := (Q5.out.below HB.out).jobK HY.out 2 (by decide) _ rfl
            have c3 := (Q5.out.below HB.out).jobK HY.out 3 (by decide) _ rfl
            have c4 := (Q5.out.below HB.out).jobK HY.out 4 (by decide) _ rfl
            have c5 := (Q5.out.below HB.out).jobK HY.out 5 (by decide) _ rfl
            have c6 := (Q5.out.below HB.out).jobK HY.out 6 (by decide) _ rfl
            have c7 := (Q5.out.below HB.out).jobK HY.out 7 (by decide) _ rfl
            have c8 := (Q5.out.below HB.out).jobK HY.out 8 (by decide) _ rfl
            have c9 := (Q5.out.below HB.out).jobK HY.out 9 (by decide) _ rfl
            have c10 := (Q5.out.below HB.out).jobK HY.out 10 (by decide) _ rfl
            have hX2 : X0 < wr.heap.size := by omega
            have hX1 : X0 ≠ wr.heap.size := by omega
            have hacl : acc.length ≤ 100000 := by omega
            have r0 := (R5.out.below HB.out).cell 0 _ rfl
            have r1 := (R5.out.below HB.out).cell 1 _ rfl
            have r2 := (R5.out.below HB.out).cell 2 _ rfl
            have r3 := (R5.out.below HB.out).cell 3 _ rfl
            have r4 := (R5.out.below HB.out).cell 4 _ rfl
            have r5 := (R5.out.below HB.out).cell 5 _ rfl
            have r6 := (R5.out.below HB.out).cell 6 _ rfl
            have r7 := (R5.out.below HB.out).cell 7 _ rfl
            have r8 := (R5.out.below HB.out).cell 8 _ rfl
            have r9 := (R5.out.below HB.out).cell 9 _ rfl
            have r10 := (R5.out.below HB.out).cell 10 _ rfl
            have O7 : Hid ((wr.alloc (.cells #[.int .i64 y.id, .int .i64 y.pr, .int .i64 y.nd, .int .i64 y.na, .int .i64 y.nb, .int .i64 y.nc, .int .i64 y.la, .int .i64 y.lb, .int .i64 y.lc, .int .i64 y.wl, .int .i64 y.lv] 34)).ownsRow U.heap.size 34 11 u6 acc.length (flatJ acc)) := HO.out.alloc _
            have B7 : Hid (Below U.heap.size U (wr.alloc (.cells #[.int .i64 y.id, .int .i64 y.pr, .int .i64 y.nd, .int .i64 y.na, .int .i64 y.nb, .int .i64 y.nc, .int .i64 y.la, .int .i64 y.lb, .int .i64 y.lc, .int .i64 y.wl, .int .i64 y.lv] 34))) := behind_alloc HB.out _
            cases d
            · go_wp2_with fail
              clear r0 r1 r2 r3 r4 r5 r6 r7 r8 r9 r10 c0 c1 c2 c3 c4 c5 c6 c7 c8 c9 c10
              have Y7 : Hid (Row (wr.alloc (.cells #[.int .i64 y.id, .int .i64 y.pr, .int .i64 y.nd, .int .i64 y.na, .int .i64 y.nb, .int .i64 y.nc, .int .i64 y.la, .int .i64 y.lb, .int .i64 y.lc, .int .i64 y.wl, .int .i64 y.lv] 34)) wr.heap.size [.int .i64 y.id, .int .i64 y.pr, .int .i64 y.nd, .int .i64 y.na, .int .i64 y.nb, .int .i64 y.nc, .int .i64 y.la, .int .i64 y.lb, .int .i64 y.lc, .int .i64 y.wl, .int .i64 y.lv]) := row_fresh wr [.int .i64 y.id, .int .i64 y.pr, .int .i64 y.nd, .int .i64 y.na, .int .i64 y.nb, .int .i64 y.nc, .int .i64 y.la, .int .i64 y.lb, .int .i64 y.lc, .int .i64 y.wl, .int .i64 y.lv] 34
              generalize wr.alloc (.cells #[.int .i64 y.id, .int .i64 y.pr, .int .i64 y.nd, .int .i64 y.na, .int .i64 y.nb, .int .i64 y.nc, .int .i64 y.la, .int .i64 y.lb, .int .i64 y.lc, .int .i64 y.wl, .int .i64 y.lv] 34) = w7 at O7 B7 Y7
              refine (before_c x y _).mono ?_
              rintro e w8 ⟨rfl, hb⟩
              have O8 : Hid (w8.ownsRow U.heap.size 34 11 u6 acc.length (flatJ acc)) := owns_below O7.out hb
              have B8 : Hid (Below U.heap.size U w8) := below_then B7.out hb
              have Y8 : Hid (Row w8 wr.heap.size [.int .i64 y.id, .int .i64 y.pr, .int .i64 y.nd, .int .i64 y.na, .int .i64 y.nb, .int .i64 y.nc, .int .i64 y.la, .int .i64 y.lb, .int .i64 y.lc, .int .i64 y.wl, .int .i64 y.lv]) := Y7.out.below hb
              have X8 : Hid (Row w8 X0 [.int .i64 x.id, .int .i64 x.pr, .int .i64 x.nd, .int .i64 x.na, .int .i64 x.nb, .int .i64 x.nc, .int .i64 x.la, .int .i64 x.lb, .int .i64 x.lc, .int .i64 x.wl, .int .i64 x.lv]) := R5.out.below B8.out
              clear hb O7 B7 Y7
              have hU8 : U.heap.size ≤ w8.heap.size := B8.out.size
              cases hbf : befB x y
              · have HI1 : Hid (InAt x cur (m + 1) false (acc ++ [y])) := HI.out.past HY.out hbf
                clear hbf
                have s0 := Y8.out.cell 0 _ rfl
                have s1 := Y8.out.cell 1 _ rfl
                have s2 := Y8.out.cell 2 _ rfl
                have s3 := Y8.out.cell 3 _ rfl
                have s4 := Y8.out.cell 4 _ rfl
                have s5 := Y8.out.cell 5 _ rfl
                have s6 := Y8.out.cell 6 _ rfl
                have s7 := Y8.out.cell 7 _ rfl
                have s8 := Y8.out.cell 8 _ rfl
                have s9 := Y8.out.cell 9 _ rfl
                have s10 := Y8.out.cell 10 _ rfl
                go_wp2_with (at_builtin; refine wpl_appJ (wr := w8) (B := U) (base := U.heap.size) (xs := acc) (y := y) rfl rfl O8.out hacl B8.out (Nat.le_refl _) hU8 rfl _ rfl rfl ?_)
                intro v1 w9 HO9 HB9 HG9
                clear s0 s1 s2 s3 s4 s5 s6 s7 s8 s9 s10
                go_wp2_with fail
                exact ⟨⟨m + 1, false, acc ++ [y], by omega, by go_num, rfl, by rw [List.length_append, List.length_singleton]; exact HO9.out, fun _ => by have := HAc.out (by trivial); simp; omega, HI1.out, HB9.out⟩, by simp [intOf]; omega⟩
              · have HI1 : Hid (InAt x cur (m + 1) true (acc ++ [x, y])) := by show InAt _ _ _ _ _; simpa using HI.out.here (HAc.out (by trivial)) HY.out hbf
                clear hbf
                have s0 := X8.out.cell 0 _ rfl
                have s1 := X8.out.cell 1 _ rfl
                have s2 := X8.out.cell 2 _ rfl
                have s3 := X8.out.cell 3 _ rfl
                have s4 := X8.out.cell 4 _ rfl
                have s5 := X8.out.cell 5 _ rfl
                have s6 := X8.out.cell 6 _ rfl
                have s7 := X8.out.cell 7 _ rfl
                have s8 := X8.out.cell 8 _ rfl
                have s9 := X8.out.cell 9 _ rfl
                have s10 := X8.out.cell 10 _ rfl
                go_wp2_with (at_builtin; refine wpl_appJ (wr := w8) (B := U) (base := U.heap.size) (xs := acc) (y := x) rfl rfl O8.out hacl B8.out (Nat.le_refl _) hU8 rfl _ rfl rfl ?_)
                intro v1 w9 HO9 HB9 HG9
                clear s0 s1 s2 s3 s4 s5 s6 s7 s8 s9 s10
                have Y9 : Hid (Row w9 wr.heap.size [.int .i64 y.id, .int .i64 y.pr, .int .i64 y.nd, .int .i64 y.na, .int .i64 y.nb, .int .i64 y.nc, .int .i64 y.la, .int .i64 y.lb, .int .i64 y.lc, .int .i64 y.wl, .int .i64 y.lv]) := Y8.out.far HG9.out (by intro e; have := (HO.out.lt _ e.symm).2; omega)
                have O9 : Hid (w9.ownsRow U.heap.size 34 11 v1 (acc ++ [x]).length (flatJ (acc ++ [x]))) := by rw [List.length_append, List.length_singleton]; exact HO9
                have hU9 : U.heap.size ≤ w9.heap.size := HB9.out.size
                have hac2 : (acc ++ [x]).length ≤ 100000 := by simp; omega
                have s0 := Y9.out.cell 0 _ rfl
                have s1 := Y9.out.cell 1 _ rfl
                have s2 := Y9.out.cell 2 _ rfl
                have s3 := Y9.out.cell 3 _ rfl
                have s4 := Y9.out.cell 4 _ rfl
                have s5 := Y9.out.cell 5 _ rfl
                have s6 := Y9.out.cell 6 _ rfl
                have s7 := Y9.out.cell 7 _ rfl
                have s8 := Y9.out.cell 8 _ rfl
                have s9 := Y9.out.cell 9 _ rfl
                have s10 := Y9.out.cell 10 _ rfl
                clear HO9 HG9 Y8 X8 O8 B8 hU8
                go_wp2_with (at_builtin; refine wpl_appJ (wr := w9) (B := U) (base := U.heap.size) (xs := acc ++ [x]) (y := y) rfl rfl O9.out hac2 HB9.out (Nat.le_refl _) hU9 rfl _ rfl rfl ?_)
                intro v2 w10 HO10 HB10 HG10
                clear s0 s1 s2 s3 s4 s5 s6 s7 s8 s9 s10
                go_wp2_with fail
                exact ⟨⟨m + 1, true, acc ++ [x, y], by omega, by go_num, rfl, by simpa using HO10.out, fun h => absurd h (by decide), HI1.out, HB10.out⟩, by simp [intOf]; omega⟩
            · have HI1 : Hid (InAt x cur (m + 1) true (acc ++ [y])) := HI.out.on HY.out
              have hU7 : U.heap.size ≤ (wr.alloc (.cells #[.int .i64 y.id, .int .i64 y.pr, .int .i64 y.nd, .int .i64 y.na, .int .i64 y.nb, .int .i64 y.nc, .int .i64 y.la, .int .i64 y.lb, .int .i64 y.lc, .int .i64 y.wl, .int .i64 y.lv] 34)).heap.size := B7.out.size
              clear r0 r1 r2 r3 r4 r5 r6 r7 r8 r9 r10
              go_wp2_with (at_builtin; refine wpl_appJ (wr := wr.alloc (.cells #[.int .i64 y.id, .int .i64 y.pr, .int .i64 y.nd, .int .i64 y.na, .int .i64 y.nb, .int .i64 y.nc, .int .i64 y.la, .int .i64 y.lb, .int .i64 y.lc, .int .i64 y.wl, .int .i64 y.lv] 34)) (B := U) (base := U.heap.size) (xs := acc) (y := y) rfl rfl O7.out hacl B7.out (Nat.le_refl _) hU7 rfl (wr.heap.size + 1) (by simp [go_sem]) rfl ?_)
              intro v1 w9 HO9 HB9 HG9
              clear c0 c1 c2 c3 c4 c5 c6 c7 c8 c9 c10
              go_wp2_with fail
              exact ⟨⟨m + 1, true, acc ++ [y], by omega, by go_num, rfl, by rw [List.length_append, List.length_singleton]; exact HO9.out, fun h => absurd h (by decide), HI1.out, HB9.out⟩, by simp [intOf]; omega⟩
          · obtain rfl : m = cur.length := by omega
            have hacl : acc.length ≤ 100000 := by omega
            cases d
            · have HE : Hid (acc ++ [x] = ordTo xs (j + 1)) := by show _ = _; rw [HN.out]; exact HI.out.end0
              have r0 := (R5.out.below HB.out).cell 0 _ rfl
              have r1 := (R5.out.below HB.out).cell 1 _ rfl
              have r2 := (R5.out.below HB.out).cell 2 _ rfl
              have r3 := (R5.out.below HB.out).cell 3 _ rfl
              have r4 := (R5.out.below HB.out).cell 4 _ rfl
              have r5 := (R5.out.below HB.out).cell 5 _ rfl
              have r6 := (R5.out.below HB.out).cell 6 _ rfl
              have r7 := (R5.out.below HB.out).cell 7 _ rfl
              have r8 := (R5.out.below HB.out).cell 8 _ rfl
              have r9 := (R5.out.below HB.out).cell 9 _ rfl
              have r10 := (R5.out.below HB.out).cell 10 _ rfl
              go_wp2_with (at_builtin; refine wpl_appJ (wr := wr) (B := U) (base := U.heap.size) (xs := acc) (y := x) rfl rfl HO.out hacl HB.out (Nat.le_refl _) hUw rfl _ rfl rfl ?_)
              intro v1 w9 HO9 HB9 HG9
              clear r0 r1 r2 r3 r4 r5 r6 r7 r8 r9 r10
              have O9 : Hid (w9.ownsRow w.heap.size 34 11 v1 (ordTo xs (j + 1)).length (flatJ (ordTo xs (j + 1)))) := by
                rw [← HE.out, List.length_append, List.length_singleton]
                exact owns_mono HO9.out BU.out.size
              have B9 : Hid (Below w.heap.size w w9) := below_then BU.out HB9.out
              go_wp2_with fail
              exact ⟨⟨j + 1, by omega, by go_num, O9.out, B9.out⟩, by simp [intOf]; omega⟩
            · have HE : Hid (acc = ordTo xs (j + 1)) := by show _ = _; rw [HN.out]; exact HI.out.end1
              have O9 : Hid (wr.ownsRow w.heap.size 34 11 u6 (ordTo xs (j + 1)).length (flatJ (ordTo xs (j + 1)))) := by
                rw [← HE.out]
                exact owns_mono HO.out BU.out.size
              have B9 : Hid (Below w.heap.size w wr) := below_then BU.out HB.out
              go_wp2_with fail
              exact ⟨⟨j + 1, by omega, by go_num, O9.out, B9.out⟩, by simp [intOf]; omega⟩
      · obtain rfl : j = xs.length := by omega
        go_wp2_with fail
        go_ret
        refine ⟨u3, rfl, ?_, HB.out⟩
        rw [HR.out]
        have := AnsJ.of_owns HO.out
        rw [ordTo, List.take_length] at this
        exact this
end Go.Proofs.Ytgkbmppgconjgaa

namespace Go.Proofs.Ytgkbmppgconjgaa
open Go.ChangeShapes Go.WideShapes Go.ChangeAt Go.RowKit

theorem plus_cell {w : World} {g k0 n j q : Nat} {K K' : Int} (h : Row w g (upFrom k0 (11 * n))) (hj : j < n) (hq : q < 11) (hK : K = ((k0 + 11 * j : Nat) : Int)) (hK' : K' = K + q) : w.cell? ⟨g, j * 11 + q, none⟩ = some (.int .i64 K') := by
  rw [h.cell (j * 11 + q) _ (upFrom_get k0 (11 * n) (j * 11 + q) (by omega))]
  congr 2
  omega
set_option maxRecDepth 100000 in
set_option maxHeartbeats 8000000 in
theorem heldJobS_c (g cap k0 n : Nat) (hl : n ≤ 1048576) (hk : k0 ≤ 4294967296) (w : World) (h : Row w g (upFrom k0 (11 * n))) :
    Calls Try.prog 13 #[.slice (some ⟨g, 0, none⟩) n cap, .int .i64 (k0 : Int)] w fun e w' => e = .returned (.int .i64 ((k0 + 11 * n : Nat) : Int)) ∧ Below w.heap.size w w' := by
  have H : Hid (Row w g (upFrom k0 (11 * n))) := h
  clear h
  go_enter Try.func13, Try.ntmps13
  go_wp2_with fail
  go_loopw [1, 5] (fun k i wr => ∃ j : Nat, j ≤ n ∧ i = .int .i64 j ∧ k = .int .i64 ((k0 + 11 * j : Nat) : Int) ∧ Below w.heap.size w wr) (fun _ i _ => n - (intOf i).toNat)
  case atStart => exact ⟨0, Nat.zero_le _, rfl, rfl, Below.refl _ _⟩
  case round =>
    obtain ⟨j, hj, rfl, rfl, hb⟩ := hrel
    have HB : Hid (Below w.heap.size w wr) := hb
    have HR : Hid (Row wr g (upFrom k0 (11 * n))) := H.out.below hb
    clear hb
    by_cases hlt : j < n
    · have hi1 : (j : Int) < (n : Int) := by omega
      have hi0 : (0 : Int) ≤ (j : Int) := by omega
      obtain ⟨K, hK⟩ : ∃ K : Int, K = ((k0 + 11 * j : Nat) : Int) := ⟨_, rfl⟩
      rw [← hK]
      have HK : Hid (K = ((k0 + 11 * j : Nat) : Int)) := hK
      have hK0 : 0 ≤ K := by omega
      have hK1 : K ≤ 1000000000000 := by omega
      clear hK
      have d0 : wr.cell? ⟨g, j * 11, none⟩ = some (.int .i64 K) := plus_cell (q := 0) HR.out hlt (by decide) HK.out (by omega)
      have d1 : wr.cell? ⟨g, j * 11 + 1, none⟩ = some (.int .i64 (K + 1)) := plus_cell HR.out hlt (by decide) HK.out (by omega)
      have d2 : wr.cell? ⟨g, j * 11 + 2, none⟩ = some (.int .i64 (K + 1 + 1)) := plus_cell HR.out hlt (by decide) HK.out (by omega)
      have d3 : wr.cell? ⟨g, j * 11 + 3, none⟩ = some (.int .i64 (K + 1 + 1 + 1)) := plus_cell HR.out hlt (by decide) HK.out (by omega)
      have d4 : wr.cell? ⟨g, j * 11 + 4, none⟩ = some (.int .i64 (K + 1 + 1 + 1 + 1)) := plus_cell HR.out hlt (by decide) HK.out (by omega)
      have d5 : wr.cell? ⟨g, j * 11 + 5, none⟩ = some (.int .i64 (K + 1 + 1 + 1 + 1 + 1)) := plus_cell HR.out hlt (by decide) HK.out (by omega)
      have d6 : wr.cell? ⟨g, j * 11 + 6, none⟩ = some (.int .i64 (K + 1 + 1 + 1 + 1 + 1 + 1)) := plus_cell HR.out hlt (by decide) HK.out (by omega)
      have d7 : wr.cell? ⟨g, j * 11 + 7, none⟩ = some (.int .i64 (K + 1 + 1 + 1 + 1 + 1 + 1 + 1)) := plus_cell HR.out hlt (by decide) HK.out (by omega)
      have d8 : wr.cell? ⟨g, j * 11 + 8, none⟩ = some (.int .i64 (K + 1 + 1 + 1 + 1 + 1 + 1 + 1 + 1)) := plus_cell HR.out hlt (by decide) HK.out (by omega)
      have d9 : wr.cell? ⟨g, j * 11 + 9, none⟩ = some (.int .i64 (K + 1 + 1 + 1 + 1 + 1 + 1 + 1 + 1 + 1)) := plus_cell HR.out hlt (by decide) HK.out (by omega)
      have d10 : wr.cell? ⟨g, j * 11 + 10, none⟩ = some (.int .i64 (K + 1 + 1 + 1 + 1 + 1 + 1 + 1 + 1 + 1 + 1)) := plus_cell HR.out hlt (by decide) HK.out (by omega)
      go_wp2_with fail
      exact ⟨⟨j + 1, by omega, by go_num, by have := HK.out; congr 1; omega, HB.out⟩, by simp [intOf]; omega⟩
    · obtain rfl : j = n := by omega
      go_wp2_with fail
      go_ret
      exact ⟨rfl, HB.out⟩

theorem held_ansJ {B T k0 n : Nat} {w : World} {v : Value} (h : AnsJ B T w n (upFrom k0 (11 * n)) v) (hl : n ≤ 1048576) (hk : k0 ≤ 4294967296) :
    Calls Try.prog 13 #[v, .int .i64 (k0 : Int)] w fun e w' => e = .returned (.int .i64 ((k0 + 11 * n : Nat) : Int)) ∧ Below w.heap.size w w' := by
  obtain ⟨hx, a, cap, rfl, h⟩ := h
  rcases h with rfl | ⟨g, rfl, hg, hT, hr⟩
  · exact heldJobS_nil a cap k0 w
  · exact heldJobS_c g cap k0 n hl hk w hr

/-- Two answers are held against each other. -/
theorem eq_ansJ {B B' T T' : Nat} {w : World} {xs : List Jb} {v v' : Value} (h : AnsJ B T w xs.length (flatJ xs) v) (h' : AnsJ B' T' w xs.length (flatJ xs) v') (hl : xs.length ≤ 1048576) :
    Calls Try.prog 9 #[v, v'] w fun e w' => e = .returned (.bool true) ∧ Below w.heap.size w w' := by
  obtain ⟨a, cap, rfl, h1⟩ := h.form
  obtain ⟨a', cap', rfl, h2⟩ := h'.form
  exact eqJobS_c a a' cap cap' xs hl w h1 h2
end Go.Proofs.Ytgkbmppgconjgaa

namespace Go.Proofs.Ytgkbmppgconjgaa
open Go.ChangeShapes Go.WideShapes Go.ChangeAt Go.RowKit Go.Joins Go.Deep

set_option maxRecDepth 100000 in
set_option maxHeartbeats 1000000 in
theorem jobC_opened {H : Type} {enc : TypeId × Value → H} {W : World} {base fuel : Nat} {spare : Nat → Bool} {held : Bool} {cs : List Value} {x : DataW H × List MemPlace} (hl11 : cs.length = 11)
    (h : DataW.trod enc Try.prog W base spare held fuel 39 cs = some x) : ∃ j : Jb, cs = j.cells := by
  obtain ⟨xs, k, _, _, hl, hxl, hg⟩ := DataW.trod_struct Try.underlying39 h
  match cs, hl11, xs, hxl with
  | [v0, v1, v2, v3, v4, v5, v6, v7, v8, v9, v10], _, [x0, x1, x2, x3, x4, x5, x6], _ =>
    have g0 : DataW.trod enc Try.prog W base spare held k 3 [v0] = some x0 := by simpa [cellsInt1, cellsVec3] using hg 0 _ rfl
    have g1 : DataW.trod enc Try.prog W base spare held k 3 [v1] = some x1 := by simpa [cellsInt1, cellsVec3] using hg 1 _ rfl
    have g2 : DataW.trod enc Try.prog W base spare held k 3 [v2] = some x2 := by simpa [cellsInt1, cellsVec3] using hg 2 _ rfl
    have g3 : DataW.trod enc Try.prog W base spare held k 37 [v3, v4, v5] = some x3 := by simpa [cellsInt1, cellsVec3] using hg 3 _ rfl
    have g4 : DataW.trod enc Try.prog W base spare held k 37 [v6, v7, v8] = some x4 := by simpa [cellsInt1, cellsVec3] using hg 4 _ rfl
    have g5 : DataW.trod enc Try.prog W base spare held k 3 [v9] = some x5 := by simpa [cellsInt1, cellsVec3] using hg 5 _ rfl
    have g6 : DataW.trod enc Try.prog W base spare held k 3 [v10] = some x6 := by simpa [cellsInt1, cellsVec3] using hg 6 _ rfl
    obtain ⟨i0, e0, _, _⟩ := DataW.trod_int Try.underlying3 g0
    obtain ⟨i1, e1, _, _⟩ := DataW.trod_int Try.underlying3 g1
    obtain ⟨i2, e2, _, _⟩ := DataW.trod_int Try.underlying3 g2
    obtain ⟨a, b, c, rfl, rfl, rfl⟩ := vec_cells g3
    obtain ⟨a', b', c', rfl, rfl, rfl⟩ := vec_cells g4
    obtain ⟨i5, e5, _, _⟩ := DataW.trod_int Try.underlying3 g5
    obtain ⟨i6, e6, _, _⟩ := DataW.trod_int Try.underlying3 g6
    simp at e0 e1 e2 e5 e6
    subst e0 e1 e2 e5 e6
    exact ⟨⟨i0, i1, i2, a, b, c, a', b', c', i5, i6⟩, rfl⟩

set_option maxRecDepth 100000 in
/-- Jobs that came in. -/
theorem jobs_opened {H : Type} {enc : TypeId × Value → H} {W : World} {fuel : Nat} {held : Bool} {v : Value} {x : DataW H × List MemPlace}
    (h : DataW.trod enc Try.prog W 0 (fun _ => true) held fuel 22 [v] = some x) : ∃ a xs cap, v = .slice a xs.length cap ∧ xs.length ≤ maxLen ∧ Sq W a (flatJ xs) := by
  rcases open_slice Try.underlying22 h with ⟨hcs, _⟩ | ⟨a, len, cap, m, n, D, Pl, hcs, _, hl, hm, hmm, _, hx⟩
  · simp at hcs
    subst hcs
    exact ⟨none, [], 0, rfl, Nat.zero_le _, ⟨fun i u hu => by simp [flatJ] at hu⟩⟩
  · simp at hcs
    subst hcs
    simp only [if_true] at hmm
    have each : ∀ i, i < len → ∃ nd : Jb, ∀ k, k < 11 → W.cell? ((a.add (i * 11)).add k) = nd.cells[k]? := fun i hi => by
      obtain ⟨cs, h1, h2⟩ := hx i (by omega)
      rw [cellsJob11] at h1
      obtain ⟨_, hlen, hcell⟩ := World.cells?_some h1
      obtain ⟨nd, rfl⟩ := jobC_opened (by first | exact hlen | simpa using hlen) h2
      exact ⟨nd, fun k hk => by simpa using hcell k hk⟩
    obtain ⟨xs, hxl, hxs⟩ := exists_list len _ each
    refine ⟨some a, xs, cap, by rw [hxl], by omega, ⟨fun q u hu => ?_⟩⟩
    have hq : q < 11 * len := by
      have := (List.getElem?_eq_some_iff.1 hu).1
      rw [flatJ_len, hxl] at this
      exact this
    have hg := flatJ_get xs (q / 11) (q % 11) (by omega) (by omega)
    have hc := hxs (q / 11) (by omega) (q % 11) (by omega)
    rw [show q / 11 * 11 + q % 11 = q by omega, hu] at hg
    rw [add_add, show q / 11 * 11 + q % 11 = q by omega, ← hg] at hc
    refine ⟨a, rfl, ?_, hc⟩
    have := World.block_lt_of_cell? _ _ hc
    rwa [block_add] at this
end Go.Proofs.Ytgkbmppgconjgaa

namespace Go.Proofs.Ytgkbmppgconjgaa
namespace LawOrder
open Go.ChangeShapes Go.WideShapes Go.ChangeAt Go.RowKit Go.Joins

set_option maxHeartbeats 8000000 in
theorem walk (a : Option Addr) (c : Nat) (xs : List Jb) (hx : xs.length ≤ maxLen) (w : World) (h : Sq w a (flatJ xs)) :
    Calls Try.prog 4 #[.slice a xs.length c] w fun e w' => e = .returned (.bool true) ∧ Below w.heap.size w w' := by
  have H : Hid (Sq w a (flatJ xs)) := h
  have Hx : Hid (xs.length ≤ maxLen) := hx
  clear h hx
  go_enter Try.func4, Try.ntmps4
  go_wp2_with fail
  refine (szJobS_c a xs.length c Hx.out 1048576 (by omega) (by omega) _).mono ?_
  rintro e w1 ⟨rfl, rfl⟩
  by_cases h2 : (1048576 : Int) - xs.length < 0
  · rw [if_pos h2]
    clear h2
    go_wp2_with fail
    go_ret
    exact ⟨rfl, Below.refl _ _⟩
  · rw [if_neg h2]
    have hx2 : xs.length ≤ 1048576 := by omega
    go_wp2_with fail
    refine (toJobS_c a c xs hx2 _ H.out).mono ?_
    rintro e w2 ⟨g, rfl, hg, hr, hb⟩
    have HB2 : Hid (Below w1.heap.size w1 w2) := hb
    have HR2 : Hid (Row w2 g (flatJ xs)) := hr
    clear hb hr
    go_wp2_with fail
    refine (specOrder_c _ _ xs hx2 _ (Sq.of_row HR2.out)).mono ?_
    rintro e w3 ⟨v0, rfl, hans, hb⟩
    have hrl : (orderR xs).length ≤ 1048576 := by have := order_len xs; omega
    have HB3 : Hid (Below w1.heap.size w1 w3) := below_then HB2.out hb
    obtain ⟨r, hR⟩ : ∃ r, orderR xs = r := ⟨_, rfl⟩
    rw [hR] at hrl hans
    have HR : Hid (orderR xs = r) := hR
    have P3 : Hid (AnsJ w2.heap.size w3.heap.size w3 r.length (flatJ r) v0) := hans
    have h12 : w1.heap.size ≤ w2.heap.size := HB2.out.size
    clear hb HB2 HR2 hR hans
    go_wp2_with fail
    refine (toJobS_c a c xs hx2 _ (H.out.below HB3.out)).mono ?_
    rintro e w4 ⟨g4, rfl, hg4, hr, hb⟩
    have HB4 : Hid (Below w1.heap.size w1 w4) := below_then HB3.out hb
    have P4 : Hid (AnsJ w2.heap.size w3.heap.size w4 r.length (flatJ r) v0) := P3.out.below hb
    have HX4 : Hid (Row w4 g4 (flatJ xs)) := hr
    have h13 : w1.heap.size ≤ w3.heap.size := HB3.out.size
    have h44 : g4 < w4.heap.size := hr.lt
    clear hb hr HB3 P3
    go_wp2_with fail
    refine (implOrder_c _ _ xs hx2 _ (Sq.of_row HX4.out)).mono ?_
    rintro e w5 ⟨v1, rfl, hans, hb⟩
    rw [HR.out] at hans
    have HB5 : Hid (Below w1.heap.size w1 w5) := below_then HB4.out hb
    have P5 : Hid (AnsJ w2.heap.size w3.heap.size w5 r.length (flatJ r) v0) := P4.out.below hb
    have G5 : Hid (AnsJ w4.heap.size w5.heap.size w5 r.length (flatJ r) v1) := hans
    have HX5 : Hid (Row w5 g4 (flatJ xs)) := HX4.out.below hb
    have h14 : w1.heap.size ≤ w4.heap.size := HB4.out.size
    clear hb hans HB4 P4 HX4
    go_wp2_with fail
    refine (eq_ansJ G5.out P5.out hrl).mono ?_
    rintro e w6 ⟨rfl, hb⟩
    have HB6 : Hid (Below w1.heap.size w1 w6) := below_then HB5.out hb
    have P6 : Hid (AnsJ w2.heap.size w3.heap.size w6 r.length (flatJ r) v0) := P5.out.below hb
    have G6 : Hid (AnsJ w4.heap.size w5.heap.size w6 r.length (flatJ r) v1) := G5.out.below hb
    have HX6 : Hid (Row w6 g4 (flatJ xs)) := HX5.out.below hb
    clear hb HB5 P5 G5 HX5
    go_wp2_with fail
    refine (toJobS_c a c xs hx2 _ (H.out.below HB6.out)).mono ?_
    rintro e w7 ⟨g7, rfl, hg7, hr, hb⟩
    have HB7 : Hid (Below w1.heap.size w1 w7) := below_then HB6.out hb
    have P7 : Hid (AnsJ w2.heap.size w3.heap.size w7 r.length (flatJ r) v0) := P6.out.below hb
    have G7 : Hid (AnsJ w4.heap.size w5.heap.size w7 r.length (flatJ r) v1) := G6.out.below hb
    have HX7 : Hid (Row w7 g4 (flatJ xs)) := HX6.out.below hb
    have HZ7 : Hid (Row w7 g7 (flatJ xs)) := hr
    clear hb hr HB6 P6 G6 HX6
    go_wp2_with fail
    refine (eqJobS_c _ _ _ _ xs hx2 _ (Sq.of_row HX7.out) (Sq.of_row HZ7.out)).mono ?_
    rintro e w8 ⟨rfl, hb⟩
    have HB8 : Hid (Below w1.heap.size w1 w8) := below_then HB7.out hb
    have P8 : Hid (AnsJ w2.heap.size w3.heap.size w8 r.length (flatJ r) v0) := P7.out.below hb
    have G8 : Hid (AnsJ w4.heap.size w5.heap.size w8 r.length (flatJ r) v1) := G7.out.below hb
    have HX8 : Hid (Row w8 g4 (flatJ xs)) := HX7.out.below hb
    clear hb HB7 P7 G7 HX7 HZ7
    go_wp2_with fail
    refine (mark_ansJ (k0 := 1) (B := g4) (T := g4 + 1) (AnsJ.of_row (cap := xs.length) (flatJ_len xs) HX8.out (Nat.le_refl _) (Nat.lt_succ_self _)) hx2 (by omega)).mono ?_
    rintro e w9 ⟨rfl, _, hk, hbw⟩
    have HB9 : Hid (Below w1.heap.size w1 w9) := hbw w1 HB8.out (by omega)
    have P9 : Hid (AnsJ w2.heap.size w3.heap.size w9 r.length (flatJ r) v0) := P8.out.keep fun g _ h1 hr => hk g _ hr (.inl (by omega))
    have G9 : Hid (AnsJ w4.heap.size w5.heap.size w9 r.length (flatJ r) v1) := G8.out.keep fun g h1 _ hr => hk g _ hr (.inr (by omega))
    clear hk hbw HB8 P8 G8 HX8
    generalize hM : 1 + 11 * xs.length = M
    have hM0 : (0 : Int) ≤ (M : Int) := by omega
    go_wp2_with fail
    refine (eq_ansJ G9.out P9.out hrl).mono ?_
    rintro e wa ⟨rfl, hb⟩
    have HBa : Hid (Below w1.heap.size w1 wa) := below_then HB9.out hb
    have Pa : Hid (AnsJ w2.heap.size w3.heap.size wa r.length (flatJ r) v0) := P9.out.below hb
    have Ga : Hid (AnsJ w4.heap.size w5.heap.size wa r.length (flatJ r) v1) := G9.out.below hb
    clear hb HB9 P9 G9 hM hM0
    go_wp2_with fail
    refine (mark_ansJ (k0 := 1) Ga.out hrl (by omega)).mono ?_
    rintro e wb ⟨rfl, hG, hk, hbw⟩
    have HBb : Hid (Below w1.heap.size w1 wb) := hbw w1 HBa.out h14
    have Gb : Hid (AnsJ w4.heap.size w5.heap.size wb r.length (upFrom 1 (11 * r.length)) v1) := hG
    have Pb : Hid (AnsJ w2.heap.size w3.heap.size wb r.length (flatJ r) v0) := Pa.out.keep fun g _ h1 hr => hk g _ hr (.inl (by omega))
    clear hG hk hbw HBa Pa Ga
    have HH : Hid (∀ W : World, AnsJ w4.heap.size w5.heap.size W r.length (upFrom 1 (11 * r.length)) v1 → Calls Try.prog 13 #[v1, .int .i64 1] W fun e w' => e = .returned (.int .i64 ((1 + 11 * r.length : Nat) : Int)) ∧ Below W.heap.size W w') := fun W h => held_ansJ (k0 := 1) h hrl (by omega)
    generalize hK : 1 + 11 * r.length = K at HH ⊢
    have hK0 : (0 : Int) ≤ (K : Int) := by omega
    clear hK
    go_wp2_with fail
    refine (HH.out _ Gb.out).mono ?_
    rintro e wc ⟨rfl, hb⟩
    have HBc : Hid (Below w1.heap.size w1 wc) := below_then HBb.out hb
    have Pc : Hid (AnsJ w2.heap.size w3.heap.size wc r.length (flatJ r) v0) := Pb.out.below hb
    have Gc : Hid (AnsJ w4.heap.size w5.heap.size wc r.length (upFrom 1 (11 * r.length)) v1) := Gb.out.below hb
    clear hb HBb Pb Gb
    go_wp2_with fail
    refine (toJobS_c a c xs hx2 _ (H.out.below HBc.out)).mono ?_
    rintro e wd ⟨gd, rfl, hgd, hr, hb⟩
    have HBd : Hid (Below w1.heap.size w1 wd) := below_then HBc.out hb
    have Pd : Hid (AnsJ w2.heap.size w3.heap.size wd r.length (flatJ r) v0) := Pc.out.below hb
    have Gd : Hid (AnsJ w4.heap.size w5.heap.size wd r.length (upFrom 1 (11 * r.length)) v1) := Gc.out.below hb
    have HZd : Hid (Row wd gd (flatJ xs)) := hr
    clear hb hr HBc Pc Gc
    go_wp2_with fail
    refine (implOrder_c _ _ xs hx2 _ (Sq.of_row HZd.out)).mono ?_
    rintro e we ⟨v2, rfl, hans, hb⟩
    rw [HR.out] at hans
    have HBe : Hid (Below w1.heap.size w1 we) := below_then HBd.out hb
    have Pe : Hid (AnsJ w2.heap.size w3.heap.size we r.length (flatJ r) v0) := Pd.out.below hb
    have Ge : Hid (AnsJ w4.heap.size w5.heap.size we r.length (upFrom 1 (11 * r.length)) v1) := Gd.out.below hb
    have He : Hid (AnsJ wd.heap.size we.heap.size we r.length (flatJ r) v2) := hans
    clear hb hans HBd Pd Gd HZd
    go_wp2_with fail
    refine (eq_ansJ He.out Pe.out hrl).mono ?_
    rintro e wf ⟨rfl, hb⟩
    have HBf : Hid (Below w1.heap.size w1 wf) := below_then HBe.out hb
    have Gf : Hid (AnsJ w4.heap.size w5.heap.size wf r.length (upFrom 1 (11 * r.length)) v1) := Ge.out.below hb
    clear hb HBe Pe Ge He
    go_wp2_with fail
    refine (HH.out _ Gf.out).mono ?_
    rintro e wg ⟨rfl, hb⟩
    have HBg : Hid (Below w1.heap.size w1 wg) := below_then HBf.out hb
    clear hb HBf Gf
    go_wp2_with fail
    go_ret
    exact ⟨rfl, HBg.out⟩

set_option maxRecDepth 100000 in
theorem lifted (os : Os) (started : os.Started) (H : Type) (enc : TypeId × Value → H) :
    ReturnsInHanded {} Try.checked os 4 .any (Rows.fnExactOrderSpec.pre6 enc Try.prog Try.f4 Rows.fnExactOrderRow.domain false) (Rows.fnExactOrderSpec.post enc Try.prog Try.f4 false true false false) := by
  refine returnsInHanded_of_change (C := Try.checked) own started (by kernel_rfl) Try.func4
    (ChangeSpec.witness6 (enc := enc) (C := Try.checked) false ⟨#[], #[.slice none 0 0], []⟩ 8 (by kernel_rfl) (by kernel_rfl) (by kernel_rfl) (by kernel_rfl)) ?_
  intro W base args ds gs before hval0 hW _ _
  have hval : ∀ (j : Nat) t v, Try.f4.params[j]? = some t → args[j]? = some v → Value.okWide Try.prog W .any base t v := hval0
  have hW' := hW
  obtain ⟨p, q, hA0, hV, rfl, _, _⟩ := hW
  have hA : DataW.TrodAll enc Try.prog W 0 (fun _ => true) true Try.f4.params.toList args.toList ds p := hA0
  rw [Try.params4] at hA hval
  obtain ⟨v0, d0, rfl, rfl, h0⟩ := trodAll_one hA
  obtain ⟨rfl, rfl⟩ := trodVars_none hV
  have h1' := h0
  obtain ⟨fuel, hfuel⟩ := h1'
  obtain ⟨f1, n1, m1, rfl⟩ := okWide_slice Try.underlying22 (hval 0 22 v0 rfl rfl)
  obtain ⟨f, xs, m, hxv, hx, hs2⟩ := jobs_opened (v := .slice f1 n1 m1) hfuel
  obtain ⟨rfl, rfl, rfl⟩ : f1 = f ∧ n1 = xs.length ∧ m1 = m := by simpa using hxv
  clear hA0 hval0
  simp only [List.append_nil] at hW'
  refine (walk f1 m1 xs hx W hs2).mono fun e W' ⟨he, hg⟩ => ?_
  subst he
  have hlt : ∀ x ∈ p, x.block < W.heap.size := fun x hx => by simpa using hW'.lt x hx
  have harg := Below.trod laidOutAll (by kernel_rfl) (of_decide_eq_true (by kernel_rfl)) h0 hg hlt
  exact ⟨_, rfl, _, _, _, [], _, [], hW', trodAll_mk1 (shut_bool Try.underlying4 _), trodAll_mk1 harg, rfl, hg.frame _, fun h => by cases h⟩
end LawOrder

/-- For every list of jobs: the law returns true, and the list reads as it did. -/
theorem fnExactOrder_holds : Rows.FnExactOrderSaid :=
  OpenClaim.holds_of_wide 4 Try.f4 rfl rfl rfl rfl rfl rfl rfl ⟨rfl, rfl, rfl, rfl, rfl⟩ rfl rfl rfl rfl rfl (by kernel_rfl) Try.func4 (by kernel_rfl)
    (of_decide_eq_true (by kernel_rfl)) (by unfold Func.isWrapper; rw [if_neg (of_decide_eq_false (by kernel_rfl))]; exact ⟨rfl, rfl⟩)
    (fun os started H enc _ => LawOrder.lifted os started H enc)
#print axioms fnExactOrder_holds
end Go.Proofs.Ytgkbmppgconjgaa
