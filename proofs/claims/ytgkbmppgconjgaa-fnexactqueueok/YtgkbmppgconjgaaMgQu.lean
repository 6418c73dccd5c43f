/- FnExactQueueOk: for every list of jobs the program's QueueOk answers as the specification's, and the list reads as it did; no condition. -/
import Derived.Test.YtgkbmppgconjgaaJbA
import Derived.Test.YtgkbmppgconjgaaTopD
import Derived.Test.YtgkbmppgconjgaaBehA
import Derived.Test.YtgkbmppgconjgaaDfA
import Derived.Test.YtgkbmppgconjgaaTkA
import Derived.Test.YtgkbmppgconjgaaJbP
import Derived.Test.YtgkbmppgconjgaaLawP
import Derived.Test.YtgkbmppgconjgaaRows
import Derived.Test.YtgkbmppgconjgaaChecked
import Derived.ProofKit
import Derived.OpenShut
import Derived.Carry
namespace Go.Proofs.Ytgkbmppgconjgaa
open Go.ChangeShapes Go.WideShapes Go.ChangeAt Go.RowKit

theorem Jb.len (x : Jb) : x.cells.length = 11 := rfl
/-- Jobs as they lie. -/
def flatJ (xs : List Jb) : List Value := xs.flatMap Jb.cells
theorem flatJ_len (xs : List Jb) : (flatJ xs).length = 11 * xs.length := by
  induction xs with
  | nil => rfl
  | cons n r ih => simp [flatJ, Jb.cells] at ih ⊢; omega
theorem flatJ_get : ∀ (xs : List Jb) (i k : Nat) (h : i < xs.length), k < 11 → (flatJ xs)[i * 11 + k]? = (xs[i].cells)[k]?
  | [], i, k, h, _ => by simp at h
  | n :: r, 0, k, _, hk => by
    simp only [flatJ, List.flatMap_cons, List.getElem_cons_zero, Nat.zero_mul, Nat.zero_add]
    rw [List.getElem?_append_left (by rw [Jb.len]; exact hk)]
  | n :: r, i + 1, k, h, hk => by
    simp only [flatJ, List.flatMap_cons, List.getElem_cons_succ]
    rw [List.getElem?_append_right (by rw [Jb.len]; omega)]
    have := flatJ_get r i k (by simpa using h) hk
    rw [← this]
    congr 1
    rw [Jb.len]
    omega

theorem Sq.some_of {w : World} {a : Option Addr} {xs : List Jb} (h : Sq w a (flatJ xs)) (j : Nat) (hj : j < xs.length) : ∃ p, a = some p := by
  obtain ⟨p, ha, _⟩ := h.cell (j * 11 + 0) _ (flatJ_get xs j 0 hj (by decide))
  exact ⟨p, ha⟩
theorem Sq.job0 {w : World} {p : Addr} {xs : List Jb} {x : Jb} {j : Nat} (h : Sq w (some p) (flatJ xs)) (hx : xs[j]? = some x) : w.cell? (p.add (j * 11)) = some (.int .i64 x.id) := by
  obtain ⟨hj, rfl⟩ := List.getElem?_eq_some_iff.1 hx
  obtain ⟨q, hq, _, c⟩ := h.cell (j * 11 + 0) _ (flatJ_get xs j 0 hj (by decide))
  cases hq
  simpa using c
theorem Sq.jobK {w : World} {p : Addr} {xs : List Jb} {x : Jb} {j : Nat} (h : Sq w (some p) (flatJ xs)) (hx : xs[j]? = some x) (k : Nat) (hk : 0 < k) (u : Value) (hu : x.cells[k]? = some u) : w.cell? ⟨(p.add (j * 11)).block, (p.add (j * 11)).off + k, none⟩ = some u := by
  obtain ⟨hj, rfl⟩ := List.getElem?_eq_some_iff.1 hx
  have hk2 : k < 11 := by have := (List.getElem?_eq_some_iff.1 hu).1; rwa [Jb.len] at this
  obtain ⟨q, hq, _, c⟩ := h.cell (j * 11 + k) u ((flatJ_get xs j k hj hk2).trans hu)
  cases hq
  rw [add_field _ _ _ hk]
  exact c
theorem Beh.job0 {U : World} {p : Addr} {xs : List Jb} {x : Jb} {j : Nat} (h : Sq U (some p) (flatJ xs)) (hx : xs[j]? = some x) : ∀ n : Beh U, n.w.cell? (p.add (j * 11)) = some (.int .i64 x.id) := fun n => (h.below n.low).job0 hx
theorem Beh.jobK {U : World} {p : Addr} {xs : List Jb} {x : Jb} {j : Nat} (h : Sq U (some p) (flatJ xs)) (hx : xs[j]? = some x) (k : Nat) (hk : 0 < k) (u : Value) (hu : x.cells[k]? = some u) : ∀ n : Beh U, n.w.cell? ⟨(p.add (j * 11)).block, (p.add (j * 11)).off + k, none⟩ = some u := fun n => (h.below n.low).jobK hx k hk u hu

/-- Values put one behind the other. -/
def putL (ys : List Value) : Nat → List Value → List Value
  | _, [] => ys
  | m, v :: r => putL (ys.set m v) (m + 1) r
def setL (w : World) (g : Nat) : Nat → List Value → World
  | _, [] => w
  | m, v :: r => setL (w.setCell ⟨g, m, none⟩ v) g (m + 1) r
theorem putL_len (vs : List Value) : ∀ (ys : List Value) (m : Nat), (putL ys m vs).length = ys.length := by
  induction vs with
  | nil => intro ys m; rfl
  | cons v r ih => intro ys m; rw [putL, ih, List.length_set]
theorem putL_out (vs : List Value) : ∀ (ys : List Value) (m i : Nat), i < m ∨ m + vs.length ≤ i → (putL ys m vs)[i]? = ys[i]? := by
  induction vs with
  | nil => intro ys m i _; rfl
  | cons v r ih =>
    intro ys m i h
    simp only [List.length_cons] at h
    rw [putL, ih _ _ _ (by omega), List.getElem?_set_ne (by omega)]
theorem putL_in (vs : List Value) : ∀ (ys : List Value) (m k : Nat), m + vs.length ≤ ys.length → k < vs.length → (putL ys m vs)[m + k]? = vs[k]? := by
  induction vs with
  | nil => intro ys m k _ h; simp at h
  | cons v r ih =>
    intro ys m k h hk
    simp only [List.length_cons] at h hk
    rw [putL]
    cases k with
    | zero => rw [putL_out _ _ _ _ (by omega), Nat.add_zero, List.getElem?_set_self (by omega)]; rfl
    | succ k => rw [show m + (k + 1) = m + 1 + k by omega, ih _ _ _ (by rw [List.length_set]; omega) (by omega)]; rfl
theorem Row.putL {g : Nat} (vs : List Value) : ∀ {w : World} {ys : List Value} (m : Nat), Row w g ys → m + vs.length ≤ ys.length → Row (setL w g m vs) g (putL ys m vs) := by
  induction vs with
  | nil => intro w ys m h _; exact h
  | cons v r ih =>
    intro w ys m h hl
    simp only [List.length_cons] at hl
    exact ih (m + 1) (h.set m (by omega) v) (by rw [List.length_set]; omega)
theorem below_setL {g n : Nat} {A : World} (hg : n ≤ g) (vs : List Value) : ∀ {w : World} (m : Nat), Below n A w → Below n A (setL w g m vs) := by
  induction vs with
  | nil => intro w m h; exact h
  | cons v r ih => intro w m h; exact ih (m + 1) (h.setCell hg v)

/-- The first j jobs lie there already. -/
def PartJ (ys : List Value) (xs : List Jb) (j : Nat) : Prop := ys.length = 11 * xs.length ∧ ∀ i (h : i < xs.length) k, k < 11 → i < j → ys[i * 11 + k]? = (xs[i].cells)[k]?
theorem PartJ.set {ys : List Value} {xs : List Jb} {j : Nat} {x : Jb} (h : PartJ ys xs j) (hx : xs[j]? = some x) : PartJ (Go.Proofs.Ytgkbmppgconjgaa.putL ys (j * 11) x.cells) xs (j + 1) := by
  obtain ⟨hj, rfl⟩ := List.getElem?_eq_some_iff.1 hx
  refine ⟨by rw [putL_len]; exact h.1, fun i hi k hk hij => ?_⟩
  have hl := h.1
  by_cases e : i = j
  · subst e
    exact putL_in _ _ _ _ (by rw [Jb.len]; omega) (by rw [Jb.len]; exact hk)
  · rw [putL_out _ _ _ _ (by rw [Jb.len]; omega)]
    exact h.2 i hi k hk (by omega)
theorem PartJ.all {ys : List Value} {xs : List Jb} {j : Nat} (h : PartJ ys xs j) (hj : xs.length ≤ j) : ys = flatJ xs := by
  apply List.ext_getElem?
  intro m
  by_cases hm : m < 11 * xs.length
  · have h1 := h.2 (m / 11) (by omega) (m % 11) (by omega) (by omega)
    have h2 := flatJ_get xs (m / 11) (m % 11) (by omega) (by omega)
    rw [show m / 11 * 11 + m % 11 = m by omega] at h1 h2
    rw [h1, h2]
  · rw [List.getElem?_eq_none (by rw [h.1]; omega), List.getElem?_eq_none (by rw [flatJ_len]; omega)]

theorem infoJob : (Try.prog.info? 34).map (fun i => (i.zero, i.size, i.bytes)) = some (some (.agg #[.int .i64 0, .int .i64 0, .int .i64 0, .int .i64 0, .int .i64 0, .int .i64 0, .int .i64 0, .int .i64 0, .int .i64 0, .int .i64 0, .int .i64 0]), 11, 88) := by kernel_rfl
/-- 'make([]impl.Job, n)'. -/
theorem make_jobs (n : Nat) (hn : n ≤ 1048576) : ∃ Z : List Value, Z.length = 11 * n ∧ ∀ w : World, (Instr.makeSlice 25 (.int .i64 (n : Int)) (.int .i64 (n : Int))).run Try.prog w = .ok (.slice (some ⟨w.heap.size, 0, none⟩) n n) (w.alloc (.cells Z.toArray 34)) := by
  obtain ⟨i0, hi, hz0, hz1, hz2⟩ := info_parts infoJob
  refine ⟨(madeCells (Value.agg #[.int .i64 0, .int .i64 0, .int .i64 0, .int .i64 0, .int .i64 0, .int .i64 0, .int .i64 0, .int .i64 0, .int .i64 0, .int .i64 0, .int .i64 0]).cells (n * i0.size)).toList, ?_, fun w => ?_⟩
  · rw [hz1]
    simp [madeCells, Value.cells]
    omega
  · have h := run_make (P := Try.prog) (w := w) 25 34 i0 (.agg #[.int .i64 0, .int .i64 0, .int .i64 0, .int .i64 0, .int .i64 0, .int .i64 0, .int .i64 0, .int .i64 0, .int .i64 0, .int .i64 0, .int .i64 0]) Try.underlying25 hi hz0 .i64 .i64 (n : Int) (n : Int) (by omega) (Int.le_refl _) (by rw [hz2]; omega) (by omega)
    simpa using h

set_option maxHeartbeats 4000000 in
theorem toJobS_c (a : Option Addr) (cap : Nat) (xs : List Jb) (hl : xs.length ≤ 1048576) (w : World) (h : Sq w a (flatJ xs)) :
    Calls Try.prog 7 #[.slice a xs.length cap] w fun e w' =>
      ∃ g, e = .returned (.slice (some ⟨g, 0, none⟩) xs.length xs.length) ∧ w.heap.size ≤ g ∧ Row w' g (flatJ xs) ∧ Below w.heap.size w w' := by
  have H : Hid (Sq w a (flatJ xs)) := h
  clear h
  obtain ⟨Z, hZ, hmk⟩ := make_jobs xs.length hl
  go_enter Try.func7, Try.ntmps7
  go_wp2_with fail
  go_loopw [4] (fun i wr => ∃ (j : Nat) (ys : List Value), j ≤ xs.length ∧ i = .int .i64 j ∧ PartJ ys xs j ∧ Row wr w.heap.size ys ∧ Below w.heap.size w wr) (fun i _ => xs.length - (intOf i).toNat)
  case atStart => exact ⟨0, Z, Nat.zero_le _, rfl, ⟨hZ, fun i _ k _ h => by omega⟩, row_fresh w Z 34, by go_grown⟩
  case round =>
    obtain ⟨j, ys, hj, rfl, hp, hr, hb⟩ := hrel
    have HP : Hid (PartJ ys xs j) := hp
    have HR : Hid (Row wr w.heap.size ys) := hr
    have HB : Hid (Below w.heap.size w wr) := hb
    clear hp hr hb hmk hZ
    by_cases hlt : j < xs.length
    · have hi0 : (0 : Int) ≤ (j : Int) := by omega
      have hi1 : (j : Int) < (xs.length : Int) := by omega
      have HX : Hid (xs[j]? = some xs[j]) := List.getElem?_eq_getElem hlt
      obtain ⟨p, rfl⟩ := H.out.some_of j hlt
      generalize xs[j] = x at HX
      have c0 := (H.out.below HB.out).job0 HX.out
      have c1 := (H.out.below HB.out).jobK HX.out 1 (by decide) _ rfl
      have c2 := (H.out.below HB.out).jobK HX.out 2 (by decide) _ rfl
      have c3 := (H.out.below HB.out).jobK HX.out 3 (by decide) _ rfl
      have c4 := (H.out.below HB.out).jobK HX.out 4 (by decide) _ rfl
      have c5 := (H.out.below HB.out).jobK HX.out 5 (by decide) _ rfl
      have c6 := (H.out.below HB.out).jobK HX.out 6 (by decide) _ rfl
      have c7 := (H.out.below HB.out).jobK HX.out 7 (by decide) _ rfl
      have c8 := (H.out.below HB.out).jobK HX.out 8 (by decide) _ rfl
      have c9 := (H.out.below HB.out).jobK HX.out 9 (by decide) _ rfl
      have c10 := (H.out.below HB.out).jobK HX.out 10 (by decide) _ rfl
      go_wp2_with fail
      refine (toJob_c x _).mono ?_
      rintro e w1 ⟨rfl, hb1⟩
      have HB1 : Hid (Below w.heap.size w w1) := below_then HB.out hb1
      have HR1 : Hid (Row w1 w.heap.size ys) := HR.out.below hb1
      have hy : j * 11 + 11 ≤ ys.length := by rw [HP.out.1]; omega
      have HS : Hid (Row (setL w1 w.heap.size (j * 11) x.cells) w.heap.size (putL ys (j * 11) x.cells)) := Row.putL x.cells (j * 11) HR1.out (by rw [Jb.len]; exact hy)
      have HBS : Hid (Below w.heap.size w (setL w1 w.heap.size (j * 11) x.cells)) := below_setL (Nat.le_refl _) _ _ HB1.out
      have d0 := HR1.out.cell (j * 11) _ (List.getElem?_eq_getElem (by omega))
      have f0 := HR1.out.free (j * 11)
      have d1 := HR1.out.cell (j * 11 + 1) _ (List.getElem?_eq_getElem (by omega))
      have f1 := HR1.out.free (j * 11 + 1)
      have d2 := HR1.out.cell (j * 11 + 2) _ (List.getElem?_eq_getElem (by omega))
      have f2 := HR1.out.free (j * 11 + 2)
      have d3 := HR1.out.cell (j * 11 + 3) _ (List.getElem?_eq_getElem (by omega))
      have f3 := HR1.out.free (j * 11 + 3)
      have d4 := HR1.out.cell (j * 11 + 4) _ (List.getElem?_eq_getElem (by omega))
      have f4 := HR1.out.free (j * 11 + 4)
      have d5 := HR1.out.cell (j * 11 + 5) _ (List.getElem?_eq_getElem (by omega))
      have f5 := HR1.out.free (j * 11 + 5)
      have d6 := HR1.out.cell (j * 11 + 6) _ (List.getElem?_eq_getElem (by omega))
      have f6 := HR1.out.free (j * 11 + 6)
      have d7 := HR1.out.cell (j * 11 + 7) _ (List.getElem?_eq_getElem (by omega))
      have f7 := HR1.out.free (j * 11 + 7)
      have d8 := HR1.out.cell (j * 11 + 8) _ (List.getElem?_eq_getElem (by omega))
      have f8 := HR1.out.free (j * 11 + 8)
      have d9 := HR1.out.cell (j * 11 + 9) _ (List.getElem?_eq_getElem (by omega))
      have f9 := HR1.out.free (j * 11 + 9)
      have d10 := HR1.out.cell (j * 11 + 10) _ (List.getElem?_eq_getElem (by omega))
      have f10 := HR1.out.free (j * 11 + 10)
      clear hb1 c0 c1 c2 c3 c4 c5 c6 c7 c8 c9 c10
      go_wp2_with fail
      exact ⟨⟨j + 1, putL ys (j * 11) x.cells, by omega, by go_num, HP.out.set HX.out, HS.out, HBS.out⟩, by simp [intOf]; omega⟩
    · have HE : Hid (ys = flatJ xs) := HP.out.all (by omega)
      go_wp2_with fail
      go_ret
      exact ⟨_, rfl, Nat.le_refl _, by rw [← HE.out]; exact HR.out, HB.out⟩

theorem szJobS_c (a : Option Addr) (n cap : Nat) (hn : n ≤ maxLen) (left : Int) (h0 : 0 ≤ left) (h1 : left ≤ 1048576) (w : World) :
    Calls Try.prog 5 #[.slice a n cap, .int .i64 left] w fun e w' => e = .returned (.int .i64 (if left - n < 0 then -1 else left - n)) ∧ w' = w := by
  unfold maxLen at hn
  by_cases h : left - n < 0
  · go_enter Try.func5, Try.ntmps5
    go_wp2_with fail
    go_ret
    exact ⟨rfl, rfl⟩
  · go_enter Try.func5, Try.ntmps5
    go_wp2_with fail
    go_ret
    exact ⟨rfl, rfl⟩

set_option maxHeartbeats 2000000 in
theorem eqJob_c (j : Jb) (w : World) :
    Calls Try.prog 18 #[.agg #[.int .i64 j.id, .int .i64 j.pr, .int .i64 j.nd, .int .i64 j.na, .int .i64 j.nb, .int .i64 j.nc, .int .i64 j.la, .int .i64 j.lb, .int .i64 j.lc, .int .i64 j.wl, .int .i64 j.lv], .agg #[.int .i64 j.id, .int .i64 j.pr, .int .i64 j.nd, .int .i64 j.na, .int .i64 j.nb, .int .i64 j.nc, .int .i64 j.la, .int .i64 j.lb, .int .i64 j.lc, .int .i64 j.wl, .int .i64 j.lv]] w fun e w' => e = .returned (.bool true) ∧ Below w.heap.size w w' := by
  go_enter Try.func18, Try.ntmps18
  go_wp2_with fail
  generalize hV : (w.alloc (.cells #[.int .i64 j.id, .int .i64 j.pr, .int .i64 j.nd, .int .i64 j.na, .int .i64 j.nb, .int .i64 j.nc, .int .i64 j.la, .int .i64 j.lb, .int .i64 j.lc, .int .i64 j.wl, .int .i64 j.lv] 34)).alloc (.cells #[.int .i64 j.id, .int .i64 j.pr, .int .i64 j.nd, .int .i64 j.na, .int .i64 j.nb, .int .i64 j.nc, .int .i64 j.la, .int .i64 j.lb, .int .i64 j.lc, .int .i64 j.wl, .int .i64 j.lv] 34) = V
  have HA : Hid (Row V w.heap.size [.int .i64 j.id, .int .i64 j.pr, .int .i64 j.nd, .int .i64 j.na, .int .i64 j.nb, .int .i64 j.nc, .int .i64 j.la, .int .i64 j.lb, .int .i64 j.lc, .int .i64 j.wl, .int .i64 j.lv]) := by subst hV; exact (row_fresh w [.int .i64 j.id, .int .i64 j.pr, .int .i64 j.nd, .int .i64 j.na, .int .i64 j.nb, .int .i64 j.nc, .int .i64 j.la, .int .i64 j.lb, .int .i64 j.lc, .int .i64 j.wl, .int .i64 j.lv] 34).below (low_alloc _ _)
  have HA' : Hid (Row V (w.heap.size + 1) [.int .i64 j.id, .int .i64 j.pr, .int .i64 j.nd, .int .i64 j.na, .int .i64 j.nb, .int .i64 j.nc, .int .i64 j.la, .int .i64 j.lb, .int .i64 j.lc, .int .i64 j.wl, .int .i64 j.lv]) := by
    subst hV
    have h := row_fresh (w.alloc (.cells #[.int .i64 j.id, .int .i64 j.pr, .int .i64 j.nd, .int .i64 j.na, .int .i64 j.nb, .int .i64 j.nc, .int .i64 j.la, .int .i64 j.lb, .int .i64 j.lc, .int .i64 j.wl, .int .i64 j.lv] 34)) [.int .i64 j.id, .int .i64 j.pr, .int .i64 j.nd, .int .i64 j.na, .int .i64 j.nb, .int .i64 j.nc, .int .i64 j.la, .int .i64 j.lb, .int .i64 j.lc, .int .i64 j.wl, .int .i64 j.lv] 34
    rw [show (w.alloc (.cells #[.int .i64 j.id, .int .i64 j.pr, .int .i64 j.nd, .int .i64 j.na, .int .i64 j.nb, .int .i64 j.nc, .int .i64 j.la, .int .i64 j.lb, .int .i64 j.lc, .int .i64 j.wl, .int .i64 j.lv] 34)).heap.size = w.heap.size + 1 by simp [go_sem]] at h
    exact h
  have HB : Hid (Below w.heap.size w V) := by subst hV; show Below _ _ _; go_grown
  clear hV
  refine (eqVec_c j.na j.nb j.nc j.na j.nb j.nc _).mono ?_
  rintro e w1 ⟨rfl, hb⟩
  have HB1 : Hid (Below w.heap.size w w1) := below_then HB.out hb
  have HA1 : Hid (Row w1 w.heap.size [.int .i64 j.id, .int .i64 j.pr, .int .i64 j.nd, .int .i64 j.na, .int .i64 j.nb, .int .i64 j.nc, .int .i64 j.la, .int .i64 j.lb, .int .i64 j.lc, .int .i64 j.wl, .int .i64 j.lv]) := HA.out.below hb
  have HA1' : Hid (Row w1 (w.heap.size + 1) [.int .i64 j.id, .int .i64 j.pr, .int .i64 j.nd, .int .i64 j.na, .int .i64 j.nb, .int .i64 j.nc, .int .i64 j.la, .int .i64 j.lb, .int .i64 j.lc, .int .i64 j.wl, .int .i64 j.lv]) := HA'.out.below hb
  clear hb HA HA' HB
  rw [show (j.na == j.na && j.nb == j.nb && j.nc == j.nc) = true by simp]
  have a6 := HA1.out.cell 6 _ rfl
  have b6 := HA1'.out.cell 6 _ rfl
  have a7 := HA1.out.cell 7 _ rfl
  have b7 := HA1'.out.cell 7 _ rfl
  have a8 := HA1.out.cell 8 _ rfl
  have b8 := HA1'.out.cell 8 _ rfl
  go_wp2_with fail
  clear a6 a7 a8 b6 b7 b8
  refine (eqVec_c j.la j.lb j.lc j.la j.lb j.lc _).mono ?_
  rintro e w2 ⟨rfl, hb⟩
  have HB2 : Hid (Below w.heap.size w w2) := below_then HB1.out hb
  have HA2 : Hid (Row w2 w.heap.size [.int .i64 j.id, .int .i64 j.pr, .int .i64 j.nd, .int .i64 j.na, .int .i64 j.nb, .int .i64 j.nc, .int .i64 j.la, .int .i64 j.lb, .int .i64 j.lc, .int .i64 j.wl, .int .i64 j.lv]) := HA1.out.below hb
  have HA2' : Hid (Row w2 (w.heap.size + 1) [.int .i64 j.id, .int .i64 j.pr, .int .i64 j.nd, .int .i64 j.na, .int .i64 j.nb, .int .i64 j.nc, .int .i64 j.la, .int .i64 j.lb, .int .i64 j.lc, .int .i64 j.wl, .int .i64 j.lv]) := HA1'.out.below hb
  clear hb HA1 HA1' HB1
  rw [show (j.la == j.la && j.lb == j.lb && j.lc == j.lc) = true by simp]
  have a9 := HA2.out.cell 9 _ rfl
  have b9 := HA2'.out.cell 9 _ rfl
  have a10 := HA2.out.cell 10 _ rfl
  have b10 := HA2'.out.cell 10 _ rfl
  go_wp2_with fail
  go_ret
  exact ⟨rfl, HB2.out⟩

set_option maxHeartbeats 2000000 in
/-- A list of jobs held against itself. -/
theorem eqJobS_c (a b : Option Addr) (c d : Nat) (xs : List Jb) (hl : xs.length ≤ 1048576) (w : World) (h : Sq w a (flatJ xs)) (h' : Sq w b (flatJ xs)) :
    Calls Try.prog 9 #[.slice a xs.length c, .slice b xs.length d] w fun e w' => e = .returned (.bool true) ∧ Below w.heap.size w w' := by
  have H : Hid (Sq w a (flatJ xs)) := h
  have H' : Hid (Sq w b (flatJ xs)) := h'
  clear h h'
  go_enter Try.func9, Try.ntmps9
  go_wp2_with fail
  go_loopw [5] (fun i wr => ∃ j : Nat, j ≤ xs.length ∧ i = .int .i64 j ∧ Below w.heap.size w wr) (fun i _ => xs.length - (intOf i).toNat)
  case atStart => exact ⟨0, Nat.zero_le _, rfl, Below.refl _ _⟩
  case round =>
    obtain ⟨j, hj, rfl, hb⟩ := hrel
    have HB : Hid (Below w.heap.size w wr) := hb
    clear hb
    by_cases hlt : j < xs.length
    · have hi0 : (0 : Int) ≤ (j : Int) := by omega
      have hi1 : (j : Int) < (xs.length : Int) := by omega
      have HX : Hid (xs[j]? = some xs[j]) := List.getElem?_eq_getElem hlt
      obtain ⟨p, rfl⟩ := H.out.some_of j hlt
      obtain ⟨q, rfl⟩ := H'.out.some_of j hlt
      generalize xs[j] = x at HX
      have hsome := beh_some wr
      have m0 := Beh.job0 (H.out.below HB.out) HX.out
      have n0 := Beh.job0 (H'.out.below HB.out) HX.out
      have m1 := Beh.jobK (H.out.below HB.out) HX.out 1 (by decide) _ rfl
      have n1 := Beh.jobK (H'.out.below HB.out) HX.out 1 (by decide) _ rfl
      have m2 := Beh.jobK (H.out.below HB.out) HX.out 2 (by decide) _ rfl
      have n2 := Beh.jobK (H'.out.below HB.out) HX.out 2 (by decide) _ rfl
      have m3 := Beh.jobK (H.out.below HB.out) HX.out 3 (by decide) _ rfl
      have n3 := Beh.jobK (H'.out.below HB.out) HX.out 3 (by decide) _ rfl
      have m4 := Beh.jobK (H.out.below HB.out) HX.out 4 (by decide) _ rfl
      have n4 := Beh.jobK (H'.out.below HB.out) HX.out 4 (by decide) _ rfl
      have m5 := Beh.jobK (H.out.below HB.out) HX.out 5 (by decide) _ rfl
      have n5 := Beh.jobK (H'.out.below HB.out) HX.out 5 (by decide) _ rfl
      have m6 := Beh.jobK (H.out.below HB.out) HX.out 6 (by decide) _ rfl
      have n6 := Beh.jobK (H'.out.below HB.out) HX.out 6 (by decide) _ rfl
      have m7 := Beh.jobK (H.out.below HB.out) HX.out 7 (by decide) _ rfl
      have n7 := Beh.jobK (H'.out.below HB.out) HX.out 7 (by decide) _ rfl
      have m8 := Beh.jobK (H.out.below HB.out) HX.out 8 (by decide) _ rfl
      have n8 := Beh.jobK (H'.out.below HB.out) HX.out 8 (by decide) _ rfl
      have m9 := Beh.jobK (H.out.below HB.out) HX.out 9 (by decide) _ rfl
      have n9 := Beh.jobK (H'.out.below HB.out) HX.out 9 (by decide) _ rfl
      have m10 := Beh.jobK (H.out.below HB.out) HX.out 10 (by decide) _ rfl
      have n10 := Beh.jobK (H'.out.below HB.out) HX.out 10 (by decide) _ rfl
      have HQ : Hid (∀ W, Calls Try.prog 18 #[.agg #[.int .i64 x.id, .int .i64 x.pr, .int .i64 x.nd, .int .i64 x.na, .int .i64 x.nb, .int .i64 x.nc, .int .i64 x.la, .int .i64 x.lb, .int .i64 x.lc, .int .i64 x.wl, .int .i64 x.lv], .agg #[.int .i64 x.id, .int .i64 x.pr, .int .i64 x.nd, .int .i64 x.na, .int .i64 x.nb, .int .i64 x.nc, .int .i64 x.la, .int .i64 x.lb, .int .i64 x.lc, .int .i64 x.wl, .int .i64 x.lv]] W fun e w' => e = .returned (.bool true) ∧ Below W.heap.size W w') := fun W => eqJob_c x W
      go_wp2_with fail
      refine wp_region_beh (by kernel_rfl) (by kernel_rfl) ?_
      repeat (go_big_quiet_step (first | (go_at_call 18; exact calls_beh (HQ.out _))))
      refine wpQuiet_nil ?_
      rintro ⟨w2, hb2⟩
      have HB4 : Hid (Below w.heap.size w w2) := below_then HB.out hb2
      go_wp2_with fail
      exact ⟨⟨j + 1, by omega, by go_num, HB4.out⟩, by simp [intOf]; omega⟩
    · go_wp2_with fail
      go_ret
      exact ⟨rfl, HB.out⟩
end Go.Proofs.Ytgkbmppgconjgaa

namespace Go.Proofs.Ytgkbmppgconjgaa
open Go.ChangeShapes Go.WideShapes Go.ChangeAt Go.RowKit

def idsJ (xs : List Jb) : List Int := xs.map (·.id)
theorem idsJ_len (xs : List Jb) : (idsJ xs).length = xs.length := by simp [idsJ]
theorem idsJ_next {xs : List Jb} {j : Nat} {x : Jb} (h : xs[j]? = some x) : idsJ (xs.take (j + 1)) = idsJ (xs.take j) ++ [x.id] := by
  rw [List.take_add_one, h, Option.toList_some]
  simp [idsJ]
theorem idsJ_to (xs : List Jb) (j : Nat) (h : j ≤ xs.length) : (idsJ (xs.take j)).length = j := by rw [idsJ_len, List.length_take]; omega
/-- A right queue. -/
def queueB (xs : List Jb) : Bool := decide (xs.length ≤ 60) && (xs.all jobB && decide (idsJ xs).Nodup)

theorem queue_long {xs : List Jb} (h : 60 < xs.length) : queueB xs = false := by simp [queueB]; omega
theorem queue_bad {xs : List Jb} {j : Nat} {x : Jb} (h : xs[j]? = some x) (hx : jobB x = false) : queueB xs = false := by
  have : xs.all jobB = false := by
    rw [List.all_eq_false]
    exact ⟨x, List.mem_of_getElem? h, by simp [hx]⟩
  simp [queueB, this]
theorem queue_good {xs : List Jb} (h : xs.length ≤ 60) (hx : ∀ (k : Nat) (x : Jb), xs[k]? = some x → jobB x = true) : queueB xs = decide (idsJ xs).Nodup := by
  have : xs.all jobB = true := by
    rw [List.all_eq_true]
    intro x hm
    obtain ⟨k, hk⟩ := List.getElem?_of_mem hm
    exact hx k x hk
  simp [queueB, this, h]

set_option maxHeartbeats 4000000 in
theorem implQueueOk_c (a : Option Addr) (c : Nat) (xs : List Jb) (hx : xs.length ≤ 1048576) (w : World) (h : Sq w a (flatJ xs)) :
    Calls Try.prog 8 #[.slice a xs.length c] w fun e w' => e = .returned (.bool (queueB xs)) ∧ Below w.heap.size w w' := by
  have H : Hid (Sq w a (flatJ xs)) := h
  clear h
  by_cases hl : 60 < xs.length
  · have HN : Hid (queueB xs = false) := queue_long hl
    have hd : ((60 : Int) < (xs.length : Int)) := by omega
    go_enter Try.func8, Try.ntmps8
    go_wp2_with fail
    go_ret
    exact ⟨by rw [HN.out]; rfl, Below.refl _ _⟩
  · have hd : ¬ ((60 : Int) < (xs.length : Int)) := by omega
    obtain ⟨Z, hZ, hmk⟩ := make_room xs.length hx
    go_enter Try.func8, Try.ntmps8
    go_wp2_with fail
    have HO0 : Hid ((w.alloc (.cells Z.toArray 3)).ownsRow w.heap.size 3 1 (.slice (some ⟨w.heap.size, 0, none⟩) 0 xs.length) 0 []) := World.ownsRow_made w Z.toArray xs.length (Nat.le_refl _) (by unfold maxLen; omega) (by simp [hZ])
    have HB0 : Hid (Below w.heap.size w (w.alloc (.cells Z.toArray 3))) := low_alloc _ _
    generalize w.alloc (.cells Z.toArray 3) = w0 at HO0 HB0
    clear hmk hZ
    go_loopw [3, 14] (fun o i wr => ∃ j : Nat, j ≤ xs.length ∧ i = .int .i64 j ∧ wr.ownsRow w.heap.size 3 1 o (idsJ (xs.take j)).length (ints (idsJ (xs.take j))) ∧ (∀ (k : Nat) (x : Jb), k < j → xs[k]? = some x → jobB x = true) ∧ Below w.heap.size w wr) (fun _ i _ => xs.length - (intOf i).toNat)
    case atStart => exact ⟨0, Nat.zero_le _, rfl, HO0.out, fun k x h => by omega, HB0.out⟩
    case round =>
      obtain ⟨j, hj, rfl, hown, hg, hb⟩ := hrel
      have HO : Hid (wr.ownsRow w.heap.size 3 1 u3 (idsJ (xs.take j)).length (ints (idsJ (xs.take j)))) := hown
      have HG : Hid (∀ (k : Nat) (x : Jb), k < j → xs[k]? = some x → jobB x = true) := hg
      have HB : Hid (Below w.heap.size w wr) := hb
      clear hown hg hb HO0 HB0
      by_cases hlt : j < xs.length
      · have hj0 : (0 : Int) ≤ (j : Int) := by omega
        have hj1 : (j : Int) < (xs.length : Int) := by omega
        have HX : Hid (xs[j]? = some xs[j]) := List.getElem?_eq_getElem hlt
        obtain ⟨p, rfl⟩ := H.out.some_of j hlt
        generalize xs[j] = x at HX
        have c0 := (H.out.below HB.out).job0 HX.out
        have c1 := (H.out.below HB.out).jobK HX.out 1 (by decide) _ rfl
        have c2 := (H.out.below HB.out).jobK HX.out 2 (by decide) _ rfl
        have c3 := (H.out.below HB.out).jobK HX.out 3 (by decide) _ rfl
        have c4 := (H.out.below HB.out).jobK HX.out 4 (by decide) _ rfl
        have c5 := (H.out.below HB.out).jobK HX.out 5 (by decide) _ rfl
        have c6 := (H.out.below HB.out).jobK HX.out 6 (by decide) _ rfl
        have c7 := (H.out.below HB.out).jobK HX.out 7 (by decide) _ rfl
        have c8 := (H.out.below HB.out).jobK HX.out 8 (by decide) _ rfl
        have c9 := (H.out.below HB.out).jobK HX.out 9 (by decide) _ rfl
        have c10 := (H.out.below HB.out).jobK HX.out 10 (by decide) _ rfl
        go_wp2_with fail
        have B5 : Hid (Below w.heap.size w (wr.alloc (.cells #[.int .i64 x.id, .int .i64 x.pr, .int .i64 x.nd, .int .i64 x.na, .int .i64 x.nb, .int .i64 x.nc, .int .i64 x.la, .int .i64 x.lb, .int .i64 x.lc, .int .i64 x.wl, .int .i64 x.lv] 34))) := behind_alloc HB.out _
        have O5 : Hid ((wr.alloc (.cells #[.int .i64 x.id, .int .i64 x.pr, .int .i64 x.nd, .int .i64 x.na, .int .i64 x.nb, .int .i64 x.nc, .int .i64 x.la, .int .i64 x.lb, .int .i64 x.lc, .int .i64 x.wl, .int .i64 x.lv] 34)).ownsRow w.heap.size 3 1 u3 (idsJ (xs.take j)).length (ints (idsJ (xs.take j)))) := HO.out.alloc _
        have R5 : Hid (Row (wr.alloc (.cells #[.int .i64 x.id, .int .i64 x.pr, .int .i64 x.nd, .int .i64 x.na, .int .i64 x.nb, .int .i64 x.nc, .int .i64 x.la, .int .i64 x.lb, .int .i64 x.lc, .int .i64 x.wl, .int .i64 x.lv] 34)) wr.heap.size [.int .i64 x.id, .int .i64 x.pr, .int .i64 x.nd, .int .i64 x.na, .int .i64 x.nb, .int .i64 x.nc, .int .i64 x.la, .int .i64 x.lb, .int .i64 x.lc, .int .i64 x.wl, .int .i64 x.lv]) := row_fresh wr [.int .i64 x.id, .int .i64 x.pr, .int .i64 x.nd, .int .i64 x.na, .int .i64 x.nb, .int .i64 x.nc, .int .i64 x.la, .int .i64 x.lb, .int .i64 x.lc, .int .i64 x.wl, .int .i64 x.lv] 34
        clear c0 c1 c2 c3 c4 c5 c6 c7 c8 c9 c10
        generalize wr.alloc (.cells #[.int .i64 x.id, .int .i64 x.pr, .int .i64 x.nd, .int .i64 x.na, .int .i64 x.nb, .int .i64 x.nc, .int .i64 x.la, .int .i64 x.lb, .int .i64 x.lc, .int .i64 x.wl, .int .i64 x.lv] 34) = w5 at B5 O5 R5
        refine (implJobOk_c x _).mono ?_
        rintro e w6 ⟨rfl, hb⟩
        have B6 : Hid (Below w.heap.size w w6) := below_then B5.out hb
        have O6 : Hid (w6.ownsRow w.heap.size 3 1 u3 (idsJ (xs.take j)).length (ints (idsJ (xs.take j)))) := owns_below O5.out hb
        have R6 : Hid (Row w6 wr.heap.size [.int .i64 x.id, .int .i64 x.pr, .int .i64 x.nd, .int .i64 x.na, .int .i64 x.nb, .int .i64 x.nc, .int .i64 x.la, .int .i64 x.lb, .int .i64 x.lc, .int .i64 x.wl, .int .i64 x.lv]) := R5.out.below hb
        clear hb B5 O5 R5
        cases hk : jobB x
        · have HN : Hid (queueB xs = false) := queue_bad HX.out hk
          go_wp2_with fail
          go_ret
          exact ⟨by rw [HN.out]; rfl, B6.out⟩
        · have HG1 : Hid (∀ (k : Nat) (x : Jb), k < j + 1 → xs[k]? = some x → jobB x = true) := fun k x' hk' h' => by
            by_cases e : k = j
            · subst e
              rw [HX.out] at h'
              cases h'
              exact hk
            · exact HG.out k x' (by omega) h'
          have HF : Hid (idsJ (xs.take (j + 1)) = idsJ (xs.take j) ++ [x.id]) := idsJ_next HX.out
          have hlj : (idsJ (xs.take j)).length ≤ 100000 := by rw [idsJ_to _ _ hj]; omega
          have r0 := R6.out.cell 0 _ rfl
          clear hk
          go_wp2_with (at_builtin; refine wpl_app1 (B := w) (base := w.heap.size) (xs := idsJ (xs.take j)) (y := x.id) rfl rfl O6.out hlj B6.out (Nat.le_refl _) B6.out.size rfl rfl ?_)
          intro v1 w7 HO7 HB7
          have O8 : Hid (w7.ownsRow w.heap.size 3 1 v1 (idsJ (xs.take (j + 1))).length (ints (idsJ (xs.take (j + 1))))) := by rw [HF.out, List.length_append, List.length_singleton]; exact HO7
          go_wp2_with fail
          exact ⟨⟨j + 1, by omega, by go_num, O8.out, HG1.out, HB7.out⟩, by simp [intOf]; omega⟩
      · obtain rfl : j = xs.length := by omega
        have HN : Hid (queueB xs = decide (idsJ xs).Nodup) := queue_good (by omega) (fun k x h => HG.out k x (List.getElem?_eq_some_iff.1 h).1 h)
        obtain ⟨ga, cap, rfl, hs⟩ := sq_of_owns HO.out
        rw [List.take_length] at hs ⊢
        have HS : Hid (Sq wr ga (ints (idsJ xs))) := hs
        clear hs HO
        go_wp2_with fail
        refine (allDiffer_c ga cap (idsJ xs) (by rw [idsJ_len]; omega) _ HS.out).mono ?_
        rintro e w6 ⟨rfl, hb⟩
        have B6 : Hid (Below w.heap.size w w6) := below_then HB.out hb
        clear hb
        go_wp2_with fail
        go_ret
        exact ⟨by rw [HN.out]; rfl, B6.out⟩

theorem ids_nodup {xs : List Jb} {j : Nat} {x : Jb} (h : xs[j]? = some x) (hd : (idsJ (xs.take j)).Nodup) (hn : ∀ (m : Nat) (y : Jb), m < j → xs[m]? = some y → y.id ≠ x.id) : (idsJ (xs.take (j + 1))).Nodup := by
  rw [idsJ_next h, List.nodup_append]
  refine ⟨hd, by simp, fun a ha b hb => ?_⟩
  simp at hb
  subst hb
  simp only [idsJ, List.mem_map] at ha
  obtain ⟨y, hy, rfl⟩ := ha
  obtain ⟨m, hm⟩ := List.getElem?_of_mem hy
  rw [List.getElem?_take] at hm
  split at hm
  · exact hn m y (by assumption) hm
  · simp at hm
theorem ids_twice {xs : List Jb} {j m : Nat} {x y : Jb} (h : xs[j]? = some x) (hm : xs[m]? = some y) (hlt : m < j) (he : y.id = x.id) : queueB xs = false := by
  have : decide (idsJ xs).Nodup = false := by
    simp
    intro hd
    obtain ⟨h1, rfl⟩ := List.getElem?_eq_some_iff.1 h
    obtain ⟨h2, rfl⟩ := List.getElem?_eq_some_iff.1 hm
    have := List.pairwise_iff_getElem.1 hd m j (by rw [idsJ_len]; exact h2) (by rw [idsJ_len]; exact h1) hlt
    simp [idsJ] at this
    exact this he
  simp [queueB, this]

set_option maxHeartbeats 4000000 in
theorem specQueueOk_c (a : Option Addr) (c : Nat) (xs : List Jb) (hx : xs.length ≤ 1048576) (w : World) (h : Sq w a (flatJ xs)) :
    Calls Try.prog 6 #[.slice a xs.length c] w fun e w' => e = .returned (.bool (queueB xs)) ∧ Below w.heap.size w w' := by
  have H : Hid (Sq w a (flatJ xs)) := h
  clear h
  by_cases hl : 60 < xs.length
  · have HN : Hid (queueB xs = false) := queue_long hl
    have hd : ((60 : Int) < (xs.length : Int)) := by omega
    go_enter Try.func6, Try.ntmps6
    go_wp2_with fail
    go_ret
    exact ⟨by rw [HN.out]; rfl, Below.refl _ _⟩
  · have hd : ¬ ((60 : Int) < (xs.length : Int)) := by omega
    go_enter Try.func6, Try.ntmps6
    go_wp2_with fail
    go_loopw [11] (fun i wr => ∃ j : Nat, j ≤ xs.length ∧ i = .int .i64 j ∧ (idsJ (xs.take j)).Nodup ∧ (∀ (k : Nat) (x : Jb), k < j → xs[k]? = some x → jobB x = true) ∧ Below w.heap.size w wr) (fun i _ => xs.length - (intOf i).toNat)
    case atStart => exact ⟨0, Nat.zero_le _, rfl, by simp [idsJ], fun k x h => by omega, Below.refl _ _⟩
    case round =>
      obtain ⟨j, hj, rfl, hnd, hg, hb⟩ := hrel
      have HD : Hid ((idsJ (xs.take j)).Nodup) := hnd
      have HG : Hid (∀ (k : Nat) (x : Jb), k < j → xs[k]? = some x → jobB x = true) := hg
      have HB : Hid (Below w.heap.size w wr) := hb
      clear hnd hg hb
      by_cases hlt : j < xs.length
      · have hj0 : (0 : Int) ≤ (j : Int) := by omega
        have hj1 : (j : Int) < (xs.length : Int) := by omega
        have HX : Hid (xs[j]? = some xs[j]) := List.getElem?_eq_getElem hlt
        obtain ⟨p, rfl⟩ := H.out.some_of j hlt
        generalize xs[j] = x at HX
        have c0 := (H.out.below HB.out).job0 HX.out
        have c1 := (H.out.below HB.out).jobK HX.out 1 (by decide) _ rfl
        have c2 := (H.out.below HB.out).jobK HX.out 2 (by decide) _ rfl
        have c3 := (H.out.below HB.out).jobK HX.out 3 (by decide) _ rfl
        have c4 := (H.out.below HB.out).jobK HX.out 4 (by decide) _ rfl
        have c5 := (H.out.below HB.out).jobK HX.out 5 (by decide) _ rfl
        have c6 := (H.out.below HB.out).jobK HX.out 6 (by decide) _ rfl
        have c7 := (H.out.below HB.out).jobK HX.out 7 (by decide) _ rfl
        have c8 := (H.out.below HB.out).jobK HX.out 8 (by decide) _ rfl
        have c9 := (H.out.below HB.out).jobK HX.out 9 (by decide) _ rfl
        have c10 := (H.out.below HB.out).jobK HX.out 10 (by decide) _ rfl
        go_wp2_with fail
        have B5 : Hid (Below w.heap.size w (wr.alloc (.cells #[.int .i64 x.id, .int .i64 x.pr, .int .i64 x.nd, .int .i64 x.na, .int .i64 x.nb, .int .i64 x.nc, .int .i64 x.la, .int .i64 x.lb, .int .i64 x.lc, .int .i64 x.wl, .int .i64 x.lv] 34))) := behind_alloc HB.out _
        have R5 : Hid (Row (wr.alloc (.cells #[.int .i64 x.id, .int .i64 x.pr, .int .i64 x.nd, .int .i64 x.na, .int .i64 x.nb, .int .i64 x.nc, .int .i64 x.la, .int .i64 x.lb, .int .i64 x.lc, .int .i64 x.wl, .int .i64 x.lv] 34)) wr.heap.size [.int .i64 x.id, .int .i64 x.pr, .int .i64 x.nd, .int .i64 x.na, .int .i64 x.nb, .int .i64 x.nc, .int .i64 x.la, .int .i64 x.lb, .int .i64 x.lc, .int .i64 x.wl, .int .i64 x.lv]) := row_fresh wr [.int .i64 x.id, .int .i64 x.pr, .int .i64 x.nd, .int .i64 x.na, .int .i64 x.nb, .int .i64 x.nc, .int .i64 x.la, .int .i64 x.lb, .int .i64 x.lc, .int .i64 x.wl, .int .i64 x.lv] 34
        clear c0 c1 c2 c3 c4 c5 c6 c7 c8 c9 c10
        generalize wr.alloc (.cells #[.int .i64 x.id, .int .i64 x.pr, .int .i64 x.nd, .int .i64 x.na, .int .i64 x.nb, .int .i64 x.nc, .int .i64 x.la, .int .i64 x.lb, .int .i64 x.lc, .int .i64 x.wl, .int .i64 x.lv] 34) = w5 at B5 R5
        refine (specJobOk_c x _).mono ?_
        rintro e w6 ⟨rfl, hb⟩
        have B6 : Hid (Below w.heap.size w w6) := below_then B5.out hb
        have R6 : Hid (Row w6 wr.heap.size [.int .i64 x.id, .int .i64 x.pr, .int .i64 x.nd, .int .i64 x.na, .int .i64 x.nb, .int .i64 x.nc, .int .i64 x.la, .int .i64 x.lb, .int .i64 x.lc, .int .i64 x.wl, .int .i64 x.lv]) := R5.out.below hb
        clear hb B5 R5
        cases hk : jobB x
        · have HN : Hid (queueB xs = false) := queue_bad HX.out hk
          go_wp2_with fail
          go_ret
          exact ⟨by rw [HN.out]; rfl, B6.out⟩
        · have HG1 : Hid (∀ (k : Nat) (x : Jb), k < j + 1 → xs[k]? = some x → jobB x = true) := fun k x' hk' h' => by
            by_cases e : k = j
            · subst e
              rw [HX.out] at h'
              cases h'
              exact hk
            · exact HG.out k x' (by omega) h'
          clear hk HB
          go_wp2_with fail
          generalize wr.heap.size = Bx at R6 ⊢
          clear wr
          go_loopw [5] (fun i wr => ∃ m : Nat, m ≤ j ∧ i = .int .i64 m ∧ (∀ (q : Nat) (y : Jb), q < m → xs[q]? = some y → y.id ≠ x.id) ∧ Row wr Bx [.int .i64 x.id, .int .i64 x.pr, .int .i64 x.nd, .int .i64 x.na, .int .i64 x.nb, .int .i64 x.nc, .int .i64 x.la, .int .i64 x.lb, .int .i64 x.lc, .int .i64 x.wl, .int .i64 x.lv] ∧ Below w.heap.size w wr) (fun i _ => j - (intOf i).toNat)
          case atStart => exact ⟨0, Nat.zero_le _, rfl, fun q y h => by omega, R6.out, B6.out⟩
          case round =>
            obtain ⟨m, hm, rfl, hne, hr, hb⟩ := hrel
            have HE : Hid (∀ (q : Nat) (y : Jb), q < m → xs[q]? = some y → y.id ≠ x.id) := hne
            have HR : Hid (Row wr Bx [.int .i64 x.id, .int .i64 x.pr, .int .i64 x.nd, .int .i64 x.na, .int .i64 x.nb, .int .i64 x.nc, .int .i64 x.la, .int .i64 x.lb, .int .i64 x.lc, .int .i64 x.wl, .int .i64 x.lv]) := hr
            have HB : Hid (Below w.heap.size w wr) := hb
            clear hne hr hb B6 R6
            by_cases hmj : m < j
            · have hm0 : (0 : Int) ≤ (m : Int) := by omega
              have hm1 : (m : Int) < (j : Int) := by omega
              have hm2 : (m : Int) < (xs.length : Int) := by omega
              have HY : Hid (xs[m]? = some xs[m]) := List.getElem?_eq_getElem (by omega)
              generalize xs[m] = y at HY
              have hsome := beh_some wr
              have m0 := Beh.job0 (H.out.below HB.out) HY.out
              have m1 := Beh.row HR.out 0 _ rfl
              by_cases he : y.id = x.id
              · have HN : Hid (queueB xs = false) := ids_twice HX.out HY.out hmj he
                have hd : (y.id == x.id) = true := by simpa using he
                clear he
                go_wp2_with fail
                refine wp_region_beh (by kernel_rfl) (by kernel_rfl) ?_
                repeat (go_big_quiet_step (fail))
                refine wpQuiet_nil ?_
                rintro ⟨w2, hb2⟩
                have HB4 : Hid (Below w.heap.size w w2) := below_then HB.out hb2
                go_wp2_with fail
                go_ret
                exact ⟨by rw [HN.out]; rfl, HB4.out⟩
              · have hd : (y.id == x.id) = false := by simpa using he
                have HE1 : Hid (∀ (q : Nat) (y : Jb), q < m + 1 → xs[q]? = some y → y.id ≠ x.id) := fun q y' hq h' => by
                  by_cases e : q = m
                  · subst e
                    rw [HY.out] at h'
                    cases h'
                    exact he
                  · exact HE.out q y' (by omega) h'
                clear he
                go_wp2_with fail
                refine wp_region_beh (by kernel_rfl) (by kernel_rfl) ?_
                repeat (go_big_quiet_step (fail))
                refine wpQuiet_nil ?_
                rintro ⟨w2, hb2⟩
                have HB4 : Hid (Below w.heap.size w w2) := below_then HB.out hb2
                have HR4 : Hid (Row w2 Bx [.int .i64 x.id, .int .i64 x.pr, .int .i64 x.nd, .int .i64 x.na, .int .i64 x.nb, .int .i64 x.nc, .int .i64 x.la, .int .i64 x.lb, .int .i64 x.lc, .int .i64 x.wl, .int .i64 x.lv]) := HR.out.below hb2
                go_wp2_with fail
                exact ⟨⟨m + 1, by omega, by go_num, HE1.out, HR4.out, HB4.out⟩, by simp [intOf]; omega⟩
            · obtain rfl : m = j := by omega
              have HD1 : Hid ((idsJ (xs.take (m + 1))).Nodup) := ids_nodup HX.out HD.out HE.out
              go_wp2_with fail
              exact ⟨⟨m + 1, by omega, by go_num, HD1.out, HG1.out, HB.out⟩, by simp [intOf]; omega⟩
      · obtain rfl : j = xs.length := by omega
        have HN : Hid (queueB xs = true) := by
          show _ = _
          rw [queue_good (by omega) (fun k x h => HG.out k x (List.getElem?_eq_some_iff.1 h).1 h)]
          have := HD.out
          rw [List.take_length] at this
          exact decide_eq_true this
        go_wp2_with fail
        go_ret
        exact ⟨by rw [HN.out]; rfl, HB.out⟩
end Go.Proofs.Ytgkbmppgconjgaa

namespace Go.Proofs.Ytgkbmppgconjgaa
open Go.ChangeShapes Go.WideShapes Go.ChangeAt Go.RowKit Go.Joins Go.Deep

set_option maxRecDepth 100000 in
set_option maxHeartbeats 1000000 in
theorem jobC_opened {H : Type} {enc : TypeId × Value → H} {W : World} {base fuel : Nat} {spare : Nat → Bool} {held : Bool} {cs : List Value} {x : DataW H × List MemPlace} (hl11 : cs.length = 11)
    (h : DataW.trod enc Try.prog W base spare held fuel 39 cs = some x) : ∃ j : Jb, cs = j.cells := by
  obtain ⟨xs, k, _, _, hl, hxl, hg⟩ := DataW.trod_struct Try.underlying39 h
  match cs, hl11, xs, hxl with
  | [v0, v1, v2, v3, v4, v5, v6, v7, v8, v9, v10], _, [x0, x1, x2, x3, x4, x5, x6], _ =>
    have g0 : DataW.trod enc Try.prog W base spare held k 3 [v0] = some x0 := by simpa [cellsInt1, cellsVec3] using hg 0 _ rfl
    have g1 : DataW.trod enc Try.prog W base spare held k 3 [v1] = some x1 := by simpa [cellsInt1, cellsVec3] using hg 1 _ rfl
    have g2 : DataW.trod enc Try.prog W base spare held k 3 [v2] = some x2 := by simpa [cellsInt1, cellsVec3] using hg 2 _ rfl
    have g3 : DataW.trod enc Try.prog W base spare held k 37 [v3, v4, v5] = some x3 := by simpa [cellsInt1, cellsVec3] using hg 3 _ rfl
    have g4 : DataW.trod enc Try.prog W base spare held k 37 [v6, v7, v8] = some x4 := by simpa [cellsInt1, cellsVec3] using hg 4 _ rfl
    have g5 : DataW.trod enc Try.prog W base spare held k 3 [v9] = some x5 := by simpa [cellsInt1, cellsVec3] using hg 5 _ rfl
    have g6 : DataW.trod enc Try.prog W base spare held k 3 [v10] = some x6 := by simpa [cellsInt1, cellsVec3] using hg 6 _ rfl
    obtain ⟨i0, e0, _, _⟩ := DataW.trod_int Try.underlying3 g0
    obtain ⟨i1, e1, _, _⟩ := DataW.trod_int Try.underlying3 g1
    obtain ⟨i2, e2, _, _⟩ := DataW.trod_int Try.underlying3 g2
    obtain ⟨a, b, c, rfl, rfl, rfl⟩ := vec_cells g3
    obtain ⟨a', b', c', rfl, rfl, rfl⟩ := vec_cells g4
    obtain ⟨i5, e5, _, _⟩ := DataW.trod_int Try.underlying3 g5
    obtain ⟨i6, e6, _, _⟩ := DataW.trod_int Try.underlying3 g6
    simp at e0 e1 e2 e5 e6
    subst e0 e1 e2 e5 e6
    exact ⟨⟨i0, i1, i2, a, b, c, a', b', c', i5, i6⟩, rfl⟩

set_option maxRecDepth 100000 in
/-- Jobs that came in. -/
theorem jobs_opened {H : Type} {enc : TypeId × Value → H} {W : World} {fuel : Nat} {held : Bool} {v : Value} {x : DataW H × List MemPlace}
    (h : DataW.trod enc Try.prog W 0 (fun _ => true) held fuel 22 [v] = some x) : ∃ a xs cap, v = .slice a xs.length cap ∧ xs.length ≤ maxLen ∧ Sq W a (flatJ xs) := by
  rcases open_slice Try.underlying22 h with ⟨hcs, _⟩ | ⟨a, len, cap, m, n, D, Pl, hcs, _, hl, hm, hmm, _, hx⟩
  · simp at hcs
    subst hcs
    exact ⟨none, [], 0, rfl, Nat.zero_le _, ⟨fun i u hu => by simp [flatJ] at hu⟩⟩
  · simp at hcs
    subst hcs
    simp only [if_true] at hmm
    have each : ∀ i, i < len → ∃ nd : Jb, ∀ k, k < 11 → W.cell? ((a.add (i * 11)).add k) = nd.cells[k]? := fun i hi => by
      obtain ⟨cs, h1, h2⟩ := hx i (by omega)
      rw [cellsJob11] at h1
      obtain ⟨_, hlen, hcell⟩ := World.cells?_some h1
      obtain ⟨nd, rfl⟩ := jobC_opened (by first | exact hlen | simpa using hlen) h2
      exact ⟨nd, fun k hk => by simpa using hcell k hk⟩
    obtain ⟨xs, hxl, hxs⟩ := exists_list len _ each
    refine ⟨some a, xs, cap, by rw [hxl], by omega, ⟨fun q u hu => ?_⟩⟩
    have hq : q < 11 * len := by
      have := (List.getElem?_eq_some_iff.1 hu).1
      rw [flatJ_len, hxl] at this
      exact this
    have hg := flatJ_get xs (q / 11) (q % 11) (by omega) (by omega)
    have hc := hxs (q / 11) (by omega) (q % 11) (by omega)
    rw [show q / 11 * 11 + q % 11 = q by omega, hu] at hg
    rw [add_add, show q / 11 * 11 + q % 11 = q by omega, ← hg] at hc
    refine ⟨a, rfl, ?_, hc⟩
    have := World.block_lt_of_cell? _ _ hc
    rwa [block_add] at this
end Go.Proofs.Ytgkbmppgconjgaa

namespace Go.Proofs.Ytgkbmppgconjgaa
namespace LawQueueOk
open Go.ChangeShapes Go.WideShapes Go.ChangeAt Go.RowKit Go.Joins

set_option maxHeartbeats 4000000 in
theorem walk (a : Option Addr) (c : Nat) (xs : List Jb) (hx : xs.length ≤ maxLen) (w : World) (h : Sq w a (flatJ xs)) :
    Calls Try.prog 3 #[.slice a xs.length c] w fun e w' => e = .returned (.bool true) ∧ Below w.heap.size w w' := by
  have H : Hid (Sq w a (flatJ xs)) := h
  have Hx : Hid (xs.length ≤ maxLen) := hx
  clear h hx
  go_enter Try.func3, Try.ntmps3
  go_wp2_with fail
  refine (szJobS_c a xs.length c Hx.out 1048576 (by omega) (by omega) _).mono ?_
  rintro e w1 ⟨rfl, rfl⟩
  by_cases h2 : (1048576 : Int) - xs.length < 0
  · rw [if_pos h2]
    clear h2
    go_wp2_with fail
    go_ret
    exact ⟨rfl, Below.refl _ _⟩
  · rw [if_neg h2]
    have hx2 : xs.length ≤ 1048576 := by omega
    go_wp2_with fail
    refine (toJobS_c a c xs hx2 _ H.out).mono ?_
    rintro e w2 ⟨g, rfl, hg, hr, hb⟩
    have HB2 : Hid (Below w1.heap.size w1 w2) := hb
    have HR2 : Hid (Row w2 g (flatJ xs)) := hr
    clear hb hr
    go_wp2_with fail
    refine (specQueueOk_c _ _ xs hx2 _ (Sq.of_row HR2.out)).mono ?_
    rintro e w3 ⟨rfl, hb⟩
    have HB3 : Hid (Below w1.heap.size w1 w3) := below_then HB2.out hb
    clear hb HB2 HR2
    go_wp2_with fail
    refine (toJobS_c a c xs hx2 _ (H.out.below HB3.out)).mono ?_
    rintro e w4 ⟨g4, rfl, hg4, hr, hb⟩
    have HB4 : Hid (Below w1.heap.size w1 w4) := below_then HB3.out hb
    have HR4 : Hid (Row w4 g4 (flatJ xs)) := hr
    clear hb hr HB3
    go_wp2_with fail
    refine (implQueueOk_c _ _ xs hx2 _ (Sq.of_row HR4.out)).mono ?_
    rintro e w5 ⟨rfl, hb⟩
    have HB5 : Hid (Below w1.heap.size w1 w5) := below_then HB4.out hb
    have HR5 : Hid (Row w5 g4 (flatJ xs)) := HR4.out.below hb
    clear hb HB4 HR4
    generalize queueB xs = k
    cases k
    all_goals
      go_wp2_with fail
      refine (toJobS_c a c xs hx2 _ (H.out.below HB5.out)).mono ?_
      rintro e w6 ⟨g6, rfl, hg6, hr, hb⟩
      have HB6 : Hid (Below w1.heap.size w1 w6) := below_then HB5.out hb
      have HR6 : Hid (Row w6 g4 (flatJ xs)) := HR5.out.below hb
      have HQ6 : Hid (Row w6 g6 (flatJ xs)) := hr
      clear hb hr
      go_wp2_with fail
      refine (eqJobS_c _ _ _ _ xs hx2 _ (Sq.of_row HR6.out) (Sq.of_row HQ6.out)).mono ?_
      rintro e w7 ⟨rfl, hb⟩
      have HB7 : Hid (Below w1.heap.size w1 w7) := below_then HB6.out hb
      clear hb
      go_wp2_with fail
      go_ret
      exact ⟨rfl, HB7.out⟩

set_option maxRecDepth 100000 in
theorem lifted (os : Os) (started : os.Started) (H : Type) (enc : TypeId × Value → H) :
    ReturnsInHanded {} Try.checked os 3 .any (Rows.fnExactQueueOkSpec.pre6 enc Try.prog Try.f3 Rows.fnExactQueueOkRow.domain false) (Rows.fnExactQueueOkSpec.post enc Try.prog Try.f3 false true false false) := by
  refine returnsInHanded_of_change (C := Try.checked) own started (by kernel_rfl) Try.func3
    (ChangeSpec.witness6 (enc := enc) (C := Try.checked) false ⟨#[], #[.slice none 0 0], []⟩ 8 (by kernel_rfl) (by kernel_rfl) (by kernel_rfl) (by kernel_rfl)) ?_
  intro W base args ds gs before hval0 hW _ _
  have hval : ∀ (j : Nat) t v, Try.f3.params[j]? = some t → args[j]? = some v → Value.okWide Try.prog W .any base t v := hval0
  have hW' := hW
  obtain ⟨p, q, hA0, hV, rfl, _, _⟩ := hW
  have hA : DataW.TrodAll enc Try.prog W 0 (fun _ => true) true Try.f3.params.toList args.toList ds p := hA0
  rw [Try.params3] at hA hval
  obtain ⟨v0, d0, rfl, rfl, h0⟩ := trodAll_one hA
  obtain ⟨rfl, rfl⟩ := trodVars_none hV
  have h1' := h0
  obtain ⟨fuel, hfuel⟩ := h1'
  obtain ⟨f1, n1, m1, rfl⟩ := okWide_slice Try.underlying22 (hval 0 22 v0 rfl rfl)
  obtain ⟨f, xs, m, hxv, hx, hs2⟩ := jobs_opened (v := .slice f1 n1 m1) hfuel
  obtain ⟨rfl, rfl, rfl⟩ : f1 = f ∧ n1 = xs.length ∧ m1 = m := by simpa using hxv
  clear hA0 hval0
  simp only [List.append_nil] at hW'
  refine (walk f1 m1 xs hx W hs2).mono fun e W' ⟨he, hg⟩ => ?_
  subst he
  have hlt : ∀ x ∈ p, x.block < W.heap.size := fun x hx => by simpa using hW'.lt x hx
  have harg := Below.trod laidOutAll (by kernel_rfl) (of_decide_eq_true (by kernel_rfl)) h0 hg hlt
  exact ⟨_, rfl, _, _, _, [], _, [], hW', trodAll_mk1 (shut_bool Try.underlying4 _), trodAll_mk1 harg, rfl, hg.frame _, fun h => by cases h⟩
end LawQueueOk

/-- For every list of jobs: the law returns true, and the list reads as it did. -/
theorem fnExactQueueOk_holds : Rows.FnExactQueueOkSaid :=
  OpenClaim.holds_of_wide 3 Try.f3 rfl rfl rfl rfl rfl rfl rfl ⟨rfl, rfl, rfl, rfl, rfl⟩ rfl rfl rfl rfl rfl (by kernel_rfl) Try.func3 (by kernel_rfl)
    (of_decide_eq_true (by kernel_rfl)) (by unfold Func.isWrapper; rw [if_neg (of_decide_eq_false (by kernel_rfl))]; exact ⟨rfl, rfl⟩)
    (fun os started H enc _ => LawQueueOk.lifted os started H enc)
#print axioms fnExactQueueOk_holds
end Go.Proofs.Ytgkbmppgconjgaa
