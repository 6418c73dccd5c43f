/- An answer that is a profile, and the box that it is laid into. -/
import Derived.Test.YtdmgcbagijiohaaGreatMzJbA
import Derived.Test.YtdmgcbagijiohaaGreatMgRa
import Derived.Test.YtdmgcbagijiohaaGreatMgRb
import Derived.Test.YtdmgcbagijiohaaGreatMgRi
import Derived.Test.YtdmgcbagijiohaaGreatMgRd
namespace Go.Proofs.YtdmgcbagijiohaaGreat
open Go.ChangeShapes Go.WideShapes Go.ChangeAt Go.RowKit

theorem Jb.len (x : Jb) : x.cells.length = 11 := rfl
/-- Jobs as they lie. -/
def flatJ (xs : List Jb) : List Value := xs.flatMap Jb.cells
theorem flatJ_len (xs : List Jb) : (flatJ xs).length = 11 * xs.length := by
  induction xs with
  | nil => rfl
  | cons n r ih => simp [flatJ, Jb.cells] at ih ⊢; omega
theorem flatJ_get : ∀ (xs : List Jb) (i k : Nat) (h : i < xs.length), k < 11 → (flatJ xs)[i * 11 + k]? = (xs[i].cells)[k]?
  | [], i, k, h, _ => by simp at h
  | n :: r, 0, k, _, hk => by
    simp only [flatJ, List.flatMap_cons, List.getElem_cons_zero, Nat.zero_mul, Nat.zero_add]
    rw [List.getElem?_append_left (by rw [Jb.len]; exact hk)]
  | n :: r, i + 1, k, h, hk => by
    simp only [flatJ, List.flatMap_cons, List.getElem_cons_succ]
    rw [List.getElem?_append_right (by rw [Jb.len]; omega)]
    have := flatJ_get r i k (by simpa using h) hk
    rw [← this]
    congr 1
    rw [Jb.len]
    omega

theorem Sq.some_of {w : World} {a : Option Addr} {xs : List Jb} (h : Sq w a (flatJ xs)) (j : Nat) (hj : j < xs.length) : ∃ p, a = some p := by
  obtain ⟨p, ha, _⟩ := h.cell (j * 11 + 0) _ (flatJ_get xs j 0 hj (by decide))
  exact ⟨p, ha⟩
theorem Sq.job0 {w : World} {p : Addr} {xs : List Jb} {x : Jb} {j : Nat} (h : Sq w (some p) (flatJ xs)) (hx : xs[j]? = some x) : w.cell? (p.add (j * 11)) = some (.int .i64 x.id) := by
  obtain ⟨hj, rfl⟩ := List.getElem?_eq_some_iff.1 hx
  obtain ⟨q, hq, _, c⟩ := h.cell (j * 11 + 0) _ (flatJ_get xs j 0 hj (by decide))
  cases hq
  simpa using c
theorem Sq.jobK {w : World} {p : Addr} {xs : List Jb} {x : Jb} {j : Nat} (h : Sq w (some p) (flatJ xs)) (hx : xs[j]? = some x) (k : Nat) (hk : 0 < k) (u : Value) (hu : x.cells[k]? = some u) : w.cell? ⟨(p.add (j * 11)).block, (p.add (j * 11)).off + k, none⟩ = some u := by
  obtain ⟨hj, rfl⟩ := List.getElem?_eq_some_iff.1 hx
  have hk2 : k < 11 := by have := (List.getElem?_eq_some_iff.1 hu).1; rwa [Jb.len] at this
  obtain ⟨q, hq, _, c⟩ := h.cell (j * 11 + k) u ((flatJ_get xs j k hj hk2).trans hu)
  cases hq
  rw [add_field _ _ _ hk]
  exact c
theorem Beh.job0 {U : World} {p : Addr} {xs : List Jb} {x : Jb} {j : Nat} (h : Sq U (some p) (flatJ xs)) (hx : xs[j]? = some x) : ∀ n : Beh U, n.w.cell? (p.add (j * 11)) = some (.int .i64 x.id) := fun n => (h.below n.low).job0 hx
theorem Beh.jobK {U : World} {p : Addr} {xs : List Jb} {x : Jb} {j : Nat} (h : Sq U (some p) (flatJ xs)) (hx : xs[j]? = some x) (k : Nat) (hk : 0 < k) (u : Value) (hu : x.cells[k]? = some u) : ∀ n : Beh U, n.w.cell? ⟨(p.add (j * 11)).block, (p.add (j * 11)).off + k, none⟩ = some u := fun n => (h.below n.low).jobK hx k hk u hu

/-- Values put one behind the other. -/
def putL (ys : List Value) : Nat → List Value → List Value
  | _, [] => ys
  | m, v :: r => putL (ys.set m v) (m + 1) r
def setL (w : World) (g : Nat) : Nat → List Value → World
  | _, [] => w
  | m, v :: r => setL (w.setCell ⟨g, m, none⟩ v) g (m + 1) r
theorem putL_len (vs : List Value) : ∀ (ys : List Value) (m : Nat), (putL ys m vs).length = ys.length := by
  induction vs with
  | nil => intro ys m; rfl
  | cons v r ih => intro ys m; rw [putL, ih, List.length_set]
theorem putL_out (vs : List Value) : ∀ (ys : List Value) (m i : Nat), i < m ∨ m + vs.length ≤ i → (putL ys m vs)[i]? = ys[i]? := by
  induction vs with
  | nil => intro ys m i _; rfl
  | cons v r ih =>
    intro ys m i h
    simp only [List.length_cons] at h
    rw [putL, ih _ _ _ (by omega), List.getElem?_set_ne (by omega)]
theorem putL_in (vs : List Value) : ∀ (ys : List Value) (m k : Nat), m + vs.length ≤ ys.length → k < vs.length → (putL ys m vs)[m + k]? = vs[k]? := by
  induction vs with
  | nil => intro ys m k _ h; simp at h
  | cons v r ih =>
    intro ys m k h hk
    simp only [List.length_cons] at h hk
    rw [putL]
    cases k with
    | zero => rw [putL_out _ _ _ _ (by omega), Nat.add_zero, List.getElem?_set_self (by omega)]; rfl
    | succ k => rw [show m + (k + 1) = m + 1 + k by omega, ih _ _ _ (by rw [List.length_set]; omega) (by omega)]; rfl
theorem Row.putL {g : Nat} (vs : List Value) : ∀ {w : World} {ys : List Value} (m : Nat), Row w g ys → m + vs.length ≤ ys.length → Row (setL w g m vs) g (putL ys m vs) := by
  induction vs with
  | nil => intro w ys m h _; exact h
  | cons v r ih =>
    intro w ys m h hl
    simp only [List.length_cons] at hl
    exact ih (m + 1) (h.set m (by omega) v) (by rw [List.length_set]; omega)
theorem below_setL {g n : Nat} {A : World} (hg : n ≤ g) (vs : List Value) : ∀ {w : World} (m : Nat), Below n A w → Below n A (setL w g m vs) := by
  induction vs with
  | nil => intro w m h; exact h
  | cons v r ih => intro w m h; exact ih (m + 1) (h.setCell hg v)

/-- The first j jobs lie there already. -/
def PartJ (ys : List Value) (xs : List Jb) (j : Nat) : Prop := ys.length = 11 * xs.length ∧ ∀ i (h : i < xs.length) k, k < 11 → i < j → ys[i * 11 + k]? = (xs[i].cells)[k]?
theorem PartJ.set {ys : List Value} {xs : List Jb} {j : Nat} {x : Jb} (h : PartJ ys xs j) (hx : xs[j]? = some x) : PartJ (Go.Proofs.YtdmgcbagijiohaaGreat.putL ys (j * 11) x.cells) xs (j + 1) := by
  obtain ⟨hj, rfl⟩ := List.getElem?_eq_some_iff.1 hx
  refine ⟨by rw [putL_len]; exact h.1, fun i hi k hk hij => ?_⟩
  have hl := h.1
  by_cases e : i = j
  · subst e
    exact putL_in _ _ _ _ (by rw [Jb.len]; omega) (by rw [Jb.len]; exact hk)
  · rw [putL_out _ _ _ _ (by rw [Jb.len]; omega)]
    exact h.2 i hi k hk (by omega)
theorem PartJ.all {ys : List Value} {xs : List Jb} {j : Nat} (h : PartJ ys xs j) (hj : xs.length ≤ j) : ys = flatJ xs := by
  apply List.ext_getElem?
  intro m
  by_cases hm : m < 11 * xs.length
  · have h1 := h.2 (m / 11) (by omega) (m % 11) (by omega) (by omega)
    have h2 := flatJ_get xs (m / 11) (m % 11) (by omega) (by omega)
    rw [show m / 11 * 11 + m % 11 = m by omega] at h1 h2
    rw [h1, h2]
  · rw [List.getElem?_eq_none (by rw [h.1]; omega), List.getElem?_eq_none (by rw [flatJ_len]; omega)]

theorem infoJob : (Tryz.prog.info? 52).map (fun i => (i.zero, i.size, i.bytes)) = some (some (.agg #[.int .i64 0, .int .i64 0, .int .i64 0, .int .i64 0, .int .i64 0, .int .i64 0, .int .i64 0, .int .i64 0, .int .i64 0, .int .i64 0, .int .i64 0]), 11, 88) := by kernel_rfl
/-- 'make([]impl.Job, n)'. -/
theorem make_jobs (n : Nat) (hn : n ≤ 1048576) : ∃ Z : List Value, Z.length = 11 * n ∧ ∀ w : World, (Instr.makeSlice 66 (.int .i64 (n : Int)) (.int .i64 (n : Int))).run Tryz.prog w = .ok (.slice (some ⟨w.heap.size, 0, none⟩) n n) (w.alloc (.cells Z.toArray 52)) := by
  obtain ⟨i0, hi, hz0, hz1, hz2⟩ := info_parts infoJob
  refine ⟨(madeCells (Value.agg #[.int .i64 0, .int .i64 0, .int .i64 0, .int .i64 0, .int .i64 0, .int .i64 0, .int .i64 0, .int .i64 0, .int .i64 0, .int .i64 0, .int .i64 0]).cells (n * i0.size)).toList, ?_, fun w => ?_⟩
  · rw [hz1]
    simp [madeCells, Value.cells]
    omega
  · have h := run_make (P := Tryz.prog) (w := w) 66 52 i0 (.agg #[.int .i64 0, .int .i64 0, .int .i64 0, .int .i64 0, .int .i64 0, .int .i64 0, .int .i64 0, .int .i64 0, .int .i64 0, .int .i64 0, .int .i64 0]) Tryz.underlying66 hi hz0 .i64 .i64 (n : Int) (n : Int) (by omega) (Int.le_refl _) (by rw [hz2]; omega) (by omega)
    simpa using h



set_option maxHeartbeats 2000000 in
theorem eqJob_c (j : Jb) (w : World) :
    Calls Tryz.prog 127 #[.agg #[.int .i64 j.id, .int .i64 j.pr, .int .i64 j.nd, .int .i64 j.na, .int .i64 j.nb, .int .i64 j.nc, .int .i64 j.la, .int .i64 j.lb, .int .i64 j.lc, .int .i64 j.wl, .int .i64 j.lv], .agg #[.int .i64 j.id, .int .i64 j.pr, .int .i64 j.nd, .int .i64 j.na, .int .i64 j.nb, .int .i64 j.nc, .int .i64 j.la, .int .i64 j.lb, .int .i64 j.lc, .int .i64 j.wl, .int .i64 j.lv]] w fun e w' => e = .returned (.bool true) ∧ Below w.heap.size w w' := by
  go_enter Tryz.func127, Tryz.ntmps127
  go_wp2_with fail
  generalize hV : (w.alloc (.cells #[.int .i64 j.id, .int .i64 j.pr, .int .i64 j.nd, .int .i64 j.na, .int .i64 j.nb, .int .i64 j.nc, .int .i64 j.la, .int .i64 j.lb, .int .i64 j.lc, .int .i64 j.wl, .int .i64 j.lv] 52)).alloc (.cells #[.int .i64 j.id, .int .i64 j.pr, .int .i64 j.nd, .int .i64 j.na, .int .i64 j.nb, .int .i64 j.nc, .int .i64 j.la, .int .i64 j.lb, .int .i64 j.lc, .int .i64 j.wl, .int .i64 j.lv] 52) = V
  have HA : Hid (Row V w.heap.size [.int .i64 j.id, .int .i64 j.pr, .int .i64 j.nd, .int .i64 j.na, .int .i64 j.nb, .int .i64 j.nc, .int .i64 j.la, .int .i64 j.lb, .int .i64 j.lc, .int .i64 j.wl, .int .i64 j.lv]) := by subst hV; exact (row_fresh w [.int .i64 j.id, .int .i64 j.pr, .int .i64 j.nd, .int .i64 j.na, .int .i64 j.nb, .int .i64 j.nc, .int .i64 j.la, .int .i64 j.lb, .int .i64 j.lc, .int .i64 j.wl, .int .i64 j.lv] 52).below (low_alloc _ _)
  have HA' : Hid (Row V (w.heap.size + 1) [.int .i64 j.id, .int .i64 j.pr, .int .i64 j.nd, .int .i64 j.na, .int .i64 j.nb, .int .i64 j.nc, .int .i64 j.la, .int .i64 j.lb, .int .i64 j.lc, .int .i64 j.wl, .int .i64 j.lv]) := by
    subst hV
    have h := row_fresh (w.alloc (.cells #[.int .i64 j.id, .int .i64 j.pr, .int .i64 j.nd, .int .i64 j.na, .int .i64 j.nb, .int .i64 j.nc, .int .i64 j.la, .int .i64 j.lb, .int .i64 j.lc, .int .i64 j.wl, .int .i64 j.lv] 52)) [.int .i64 j.id, .int .i64 j.pr, .int .i64 j.nd, .int .i64 j.na, .int .i64 j.nb, .int .i64 j.nc, .int .i64 j.la, .int .i64 j.lb, .int .i64 j.lc, .int .i64 j.wl, .int .i64 j.lv] 52
    rw [show (w.alloc (.cells #[.int .i64 j.id, .int .i64 j.pr, .int .i64 j.nd, .int .i64 j.na, .int .i64 j.nb, .int .i64 j.nc, .int .i64 j.la, .int .i64 j.lb, .int .i64 j.lc, .int .i64 j.wl, .int .i64 j.lv] 52)).heap.size = w.heap.size + 1 by simp [go_sem]] at h
    exact h
  have HB : Hid (Below w.heap.size w V) := by subst hV; show Below _ _ _; go_grown
  clear hV
  refine (eqVec_c j.na j.nb j.nc j.na j.nb j.nc _).mono ?_
  rintro e w1 ⟨rfl, hb⟩
  have HB1 : Hid (Below w.heap.size w w1) := below_then HB.out hb
  have HA1 : Hid (Row w1 w.heap.size [.int .i64 j.id, .int .i64 j.pr, .int .i64 j.nd, .int .i64 j.na, .int .i64 j.nb, .int .i64 j.nc, .int .i64 j.la, .int .i64 j.lb, .int .i64 j.lc, .int .i64 j.wl, .int .i64 j.lv]) := HA.out.below hb
  have HA1' : Hid (Row w1 (w.heap.size + 1) [.int .i64 j.id, .int .i64 j.pr, .int .i64 j.nd, .int .i64 j.na, .int .i64 j.nb, .int .i64 j.nc, .int .i64 j.la, .int .i64 j.lb, .int .i64 j.lc, .int .i64 j.wl, .int .i64 j.lv]) := HA'.out.below hb
  clear hb HA HA' HB
  rw [show (j.na == j.na && j.nb == j.nb && j.nc == j.nc) = true by simp]
  have a6 := HA1.out.cell 6 _ rfl
  have b6 := HA1'.out.cell 6 _ rfl
  have a7 := HA1.out.cell 7 _ rfl
  have b7 := HA1'.out.cell 7 _ rfl
  have a8 := HA1.out.cell 8 _ rfl
  have b8 := HA1'.out.cell 8 _ rfl
  go_wp2_with fail
  clear a6 a7 a8 b6 b7 b8
  refine (eqVec_c j.la j.lb j.lc j.la j.lb j.lc _).mono ?_
  rintro e w2 ⟨rfl, hb⟩
  have HB2 : Hid (Below w.heap.size w w2) := below_then HB1.out hb
  have HA2 : Hid (Row w2 w.heap.size [.int .i64 j.id, .int .i64 j.pr, .int .i64 j.nd, .int .i64 j.na, .int .i64 j.nb, .int .i64 j.nc, .int .i64 j.la, .int .i64 j.lb, .int .i64 j.lc, .int .i64 j.wl, .int .i64 j.lv]) := HA1.out.below hb
  have HA2' : Hid (Row w2 (w.heap.size + 1) [.int .i64 j.id, .int .i64 j.pr, .int .i64 j.nd, .int .i64 j.na, .int .i64 j.nb, .int .i64 j.nc, .int .i64 j.la, .int .i64 j.lb, .int .i64 j.lc, .int .i64 j.wl, .int .i64 j.lv]) := HA1'.out.below hb
  clear hb HA1 HA1' HB1
  rw [show (j.la == j.la && j.lb == j.lb && j.lc == j.lc) = true by simp]
  have a9 := HA2.out.cell 9 _ rfl
  have b9 := HA2'.out.cell 9 _ rfl
  have a10 := HA2.out.cell 10 _ rfl
  have b10 := HA2'.out.cell 10 _ rfl
  go_wp2_with fail
  go_ret
  exact ⟨rfl, HB2.out⟩

set_option maxHeartbeats 2000000 in
/-- A list of jobs held against itself. -/
theorem eqJobS_c (a b : Option Addr) (c d : Nat) (xs : List Jb) (hl : xs.length ≤ 1048576) (w : World) (h : Sq w a (flatJ xs)) (h' : Sq w b (flatJ xs)) :
    Calls Tryz.prog 75 #[.slice a xs.length c, .slice b xs.length d] w fun e w' => e = .returned (.bool true) ∧ Below w.heap.size w w' := by
  have H : Hid (Sq w a (flatJ xs)) := h
  have H' : Hid (Sq w b (flatJ xs)) := h'
  clear h h'
  go_enter Tryz.func75, Tryz.ntmps75
  go_wp2_with fail
  go_loopw [5] (fun i wr => ∃ j : Nat, j ≤ xs.length ∧ i = .int .i64 j ∧ Below w.heap.size w wr) (fun i _ => xs.length - (intOf i).toNat)
  case atStart => exact ⟨0, Nat.zero_le _, rfl, Below.refl _ _⟩
  case round =>
    obtain ⟨j, hj, rfl, hb⟩ := hrel
    have HB : Hid (Below w.heap.size w wr) := hb
    clear hb
    by_cases hlt : j < xs.length
    · have hi0 : (0 : Int) ≤ (j : Int) := by omega
      have hi1 : (j : Int) < (xs.length : Int) := by omega
      have HX : Hid (xs[j]? = some xs[j]) := List.getElem?_eq_getElem hlt
      obtain ⟨p, rfl⟩ := H.out.some_of j hlt
      obtain ⟨q, rfl⟩ := H'.out.some_of j hlt
      generalize xs[j] = x at HX
      have hsome := beh_some wr
      have m0 := Beh.job0 (H.out.below HB.out) HX.out
      have n0 := Beh.job0 (H'.out.below HB.out) HX.out
      have m1 := Beh.jobK (H.out.below HB.out) HX.out 1 (by decide) _ rfl
      have n1 := Beh.jobK (H'.out.below HB.out) HX.out 1 (by decide) _ rfl
      have m2 := Beh.jobK (H.out.below HB.out) HX.out 2 (by decide) _ rfl
      have n2 := Beh.jobK (H'.out.below HB.out) HX.out 2 (by decide) _ rfl
      have m3 := Beh.jobK (H.out.below HB.out) HX.out 3 (by decide) _ rfl
      have n3 := Beh.jobK (H'.out.below HB.out) HX.out 3 (by decide) _ rfl
      have m4 := Beh.jobK (H.out.below HB.out) HX.out 4 (by decide) _ rfl
      have n4 := Beh.jobK (H'.out.below HB.out) HX.out 4 (by decide) _ rfl
      have m5 := Beh.jobK (H.out.below HB.out) HX.out 5 (by decide) _ rfl
      have n5 := Beh.jobK (H'.out.below HB.out) HX.out 5 (by decide) _ rfl
      have m6 := Beh.jobK (H.out.below HB.out) HX.out 6 (by decide) _ rfl
      have n6 := Beh.jobK (H'.out.below HB.out) HX.out 6 (by decide) _ rfl
      have m7 := Beh.jobK (H.out.below HB.out) HX.out 7 (by decide) _ rfl
      have n7 := Beh.jobK (H'.out.below HB.out) HX.out 7 (by decide) _ rfl
      have m8 := Beh.jobK (H.out.below HB.out) HX.out 8 (by decide) _ rfl
      have n8 := Beh.jobK (H'.out.below HB.out) HX.out 8 (by decide) _ rfl
      have m9 := Beh.jobK (H.out.below HB.out) HX.out 9 (by decide) _ rfl
      have n9 := Beh.jobK (H'.out.below HB.out) HX.out 9 (by decide) _ rfl
      have m10 := Beh.jobK (H.out.below HB.out) HX.out 10 (by decide) _ rfl
      have n10 := Beh.jobK (H'.out.below HB.out) HX.out 10 (by decide) _ rfl
      have HQ : Hid (∀ W, Calls Tryz.prog 127 #[.agg #[.int .i64 x.id, .int .i64 x.pr, .int .i64 x.nd, .int .i64 x.na, .int .i64 x.nb, .int .i64 x.nc, .int .i64 x.la, .int .i64 x.lb, .int .i64 x.lc, .int .i64 x.wl, .int .i64 x.lv], .agg #[.int .i64 x.id, .int .i64 x.pr, .int .i64 x.nd, .int .i64 x.na, .int .i64 x.nb, .int .i64 x.nc, .int .i64 x.la, .int .i64 x.lb, .int .i64 x.lc, .int .i64 x.wl, .int .i64 x.lv]] W fun e w' => e = .returned (.bool true) ∧ Below W.heap.size W w') := fun W => eqJob_c x W
      go_wp2_with fail
      refine wp_region_beh (by kernel_rfl) (by kernel_rfl) ?_
      repeat (go_big_quiet_step (first | (go_at_call 127; exact calls_beh (HQ.out _))))
      refine wpQuiet_nil ?_
      rintro ⟨w2, hb2⟩
      have HB4 : Hid (Below w.heap.size w w2) := below_then HB.out hb2
      go_wp2_with fail
      exact ⟨⟨j + 1, by omega, by go_num, HB4.out⟩, by simp [intOf]; omega⟩
    · go_wp2_with fail
      go_ret
      exact ⟨rfl, HB.out⟩
end Go.Proofs.YtdmgcbagijiohaaGreat

namespace Go.Proofs.YtdmgcbagijiohaaGreat
open Go.ChangeShapes Go.WideShapes Go.ChangeAt Go.RowKit

/-- Since U the answer and its box Z have been made, apart from each other. -/
def BoxR (U W : World) (Z : Nat) (o : Option Rm) (c0 c1 c2 c3 c4 : Value) : Prop :=
  Row W Z [c0, c1, c2, c3, c4] ∧ Below U.heap.size U W ∧ U.heap.size ≤ Z ∧ ∃ B T, RmV B T W o c0 c1 c2 c3 c4 ∧ U.heap.size ≤ B ∧ T ≤ W.heap.size ∧ (Z < B ∨ T ≤ Z)
theorem fin_boxR {U W W2 : World} {X : Nat} {o : Option Rm} {c0 c1 c2 c3 c4 : Value} (hX : Row W X [.slice none 0 0, .slice none 0 0, .slice none 0 0, .slice none 0 0, .slice none 0 0]) (hans : RmV W.heap.size W2.heap.size W2 o c0 c1 c2 c3 c4) (hb : Below W.heap.size W W2) (hV : Below U.heap.size U W2) (hUX : U.heap.size ≤ X) :
    BoxR U (setL W2 X 0 [c0, c1, c2, c3, c4]) X o c0 c1 c2 c3 c4 := by
  have hl := hX.lt
  have hsz : (setL W2 X 0 [c0, c1, c2, c3, c4]).heap.size = W2.heap.size := by simp only [setL, World.size_setCell]
  refine ⟨Row.putL [c0, c1, c2, c3, c4] 0 (hX.below hb) (by simp), below_setL hUX _ _ hV, hUX, W.heap.size, W2.heap.size, hans.keep (fun g ys h1 _ hr => ((((hr.apart X 0 _ (by omega)).apart X 1 _ (by omega)).apart X 2 _ (by omega)).apart X 3 _ (by omega)).apart X 4 _ (by omega)), by omega, ?_, .inl hl⟩
  rw [hsz]
  exact Nat.le_refl _
theorem fin_newR {U W2 : World} {B : Nat} {o : Option Rm} {c0 c1 c2 c3 c4 : Value} {t : TypeId} (hans : RmV B W2.heap.size W2 o c0 c1 c2 c3 c4) (hB : U.heap.size ≤ B) (hV : Below U.heap.size U W2) :
    BoxR U (W2.alloc (.cells #[c0, c1, c2, c3, c4] t)) W2.heap.size o c0 c1 c2 c3 c4 :=
  ⟨row_fresh W2 [c0, c1, c2, c3, c4] t, behind_alloc hV _, hV.size, B, W2.heap.size, hans.below (low_alloc _ _), hB, by simp [go_sem], .inr (Nat.le_refl _)⟩
end Go.Proofs.YtdmgcbagijiohaaGreat

namespace Go.Proofs.YtdmgcbagijiohaaGreat
open Go.ChangeShapes Go.WideShapes Go.ChangeAt Go.RowKit

/-- Since U the answer and its box Z have been made, apart from each other. -/
def Boxd (U W : World) (Z : Nat) (a : Option Addr) (c : Nat) (r : List Nd) : Prop :=
  Row W Z [.slice a r.length c] ∧ AnsP U.heap.size W.heap.size W r.length (flat r) (.slice a r.length c) ∧ Below U.heap.size U W ∧ U.heap.size ≤ Z ∧ ∃ G, AnsP G (G + 1) W r.length (flat r) (.slice a r.length c) ∧ U.heap.size ≤ G ∧ Z ≠ G

theorem AnsP.one {B T : Nat} {w : World} {n Z : Nat} {xs : List Value} {v : Value} (h : AnsP B T w n xs v) (hne : Z < B ∨ T ≤ Z) : ∃ G, AnsP G (G + 1) w n xs v ∧ (B ≤ G ∨ G = Z + 1) ∧ Z ≠ G := by
  obtain ⟨hx, a, cap, hv, h⟩ := h
  rcases h with rfl | ⟨g, rfl, hg, hT, hr⟩
  · exact ⟨Z + 1, ⟨hx, a, cap, hv, .inl rfl⟩, .inr rfl, by omega⟩
  · exact ⟨g, ⟨hx, _, cap, hv, .inr ⟨g, rfl, Nat.le_refl _, Nat.lt_succ_self _, hr⟩⟩, .inl hg, by omega⟩

theorem fin_box {U W W2 : World} {X : Nat} {z : Value} {r : List Nd} {a : Option Addr} {c : Nat} (hX : Row W X [z]) (hans : AnsP W.heap.size W2.heap.size W2 r.length (flat r) (.slice a r.length c)) (hb : Below W.heap.size W W2) (hV : Below U.heap.size U W2) (hUX : U.heap.size ≤ X) :
    Boxd U (W2.setCell ⟨X, 0, none⟩ (.slice a r.length c)) X a c r := by
  have hl := hX.lt
  have h2 := hans.keep (w' := W2.setCell ⟨X, 0, none⟩ (.slice a r.length c)) (fun g h1 _ hr => hr.apart X 0 _ (by omega))
  obtain ⟨G, hG, hBG, hZG⟩ := h2.one (Z := X) (.inl hl)
  exact ⟨(hX.below hb).set 0 (by simp) _, h2.wide (by omega) (by rw [World.size_setCell]; exact Nat.le_refl _), hV.setCell (p := ⟨X, 0, none⟩) hUX _, hUX, G, hG, by omega, hZG⟩

theorem fin_new {U W2 : World} {B : Nat} {r : List Nd} {a : Option Addr} {c : Nat} {t : TypeId} (hans : AnsP B W2.heap.size W2 r.length (flat r) (.slice a r.length c)) (hB : U.heap.size ≤ B) (hV : Below U.heap.size U W2) :
    Boxd U (W2.alloc (.cells #[.slice a r.length c] t)) W2.heap.size a c r := by
  have h2 := hans.below (low_alloc W2 (.cells #[.slice a r.length c] t))
  have hs := hV.size
  obtain ⟨G, hG, hBG, hZG⟩ := h2.one (Z := W2.heap.size) (.inr (Nat.le_refl _))
  exact ⟨row_fresh W2 [.slice a r.length c] t, h2.wide hB (by simp [go_sem]), behind_alloc hV _, hs, G, hG, by omega, hZG⟩
end Go.Proofs.YtdmgcbagijiohaaGreat
