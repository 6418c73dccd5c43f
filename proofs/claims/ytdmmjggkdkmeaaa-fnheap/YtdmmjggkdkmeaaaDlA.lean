/- Lists of dues: as they lie, copied, measured, held against themselves. -/
import Derived.Test.YtdmmjggkdkmeaaaJsA
import Derived.Test.YtdmmjggkdkmeaaaHpA
namespace Go.Proofs.Ytdmmjggkdkmeaaa
open Go.ChangeShapes Go.WideShapes Go.ChangeAt Go.RowKit

def Du.cells (x : Du) : List Value := [.int .i64 x.t, .int .i64 x.n]
theorem toDue_c (j : Du) (w : World) : Calls Try.prog 17 #[.agg #[.int .i64 j.t, .int .i64 j.n]] w fun e w' => e = .returned (.agg #[.int .i64 j.t, .int .i64 j.n]) ∧ Below w.heap.size w w' := by
  go_enter Try.func17, Try.ntmps17
  go_wp2
  go_returns
  exact ⟨rfl, by go_grown⟩
theorem Du.len (x : Du) : x.cells.length = 2 := rfl
/-- Jobs as they lie. -/
def flatD (xs : List Du) : List Value := xs.flatMap Du.cells
theorem flatD_len (xs : List Du) : (flatD xs).length = 2 * xs.length := by
  induction xs with
  | nil => rfl
  | cons n r ih => simp [flatD, Du.cells] at ih ⊢; omega
theorem flatD_get : ∀ (xs : List Du) (i k : Nat) (h : i < xs.length), k < 2 → (flatD xs)[i * 2 + k]? = (xs[i].cells)[k]?
  | [], i, k, h, _ => by simp at h
  | n :: r, 0, k, _, hk => by
    simp only [flatD, List.flatMap_cons, List.getElem_cons_zero, Nat.zero_mul, Nat.zero_add]
    rw [List.getElem?_append_left (by rw [Du.len]; exact hk)]
  | n :: r, i + 1, k, h, hk => by
    simp only [flatD, List.flatMap_cons, List.getElem_cons_succ]
    rw [List.getElem?_append_right (by rw [Du.len]; omega)]
    have := flatD_get r i k (by simpa using h) hk
    rw [← this]
    congr 1
    rw [Du.len]
    omega

theorem Sq.some_ofD {w : World} {a : Option Addr} {xs : List Du} (h : Sq w a (flatD xs)) (j : Nat) (hj : j < xs.length) : ∃ p, a = some p := by
  obtain ⟨p, ha, _⟩ := h.cell (j * 2 + 0) _ (flatD_get xs j 0 hj (by decide))
  exact ⟨p, ha⟩
theorem Sq.due0 {w : World} {p : Addr} {xs : List Du} {x : Du} {j : Nat} (h : Sq w (some p) (flatD xs)) (hx : xs[j]? = some x) : w.cell? (p.add (j * 2)) = some (.int .i64 x.t) := by
  obtain ⟨hj, rfl⟩ := List.getElem?_eq_some_iff.1 hx
  obtain ⟨q, hq, _, c⟩ := h.cell (j * 2 + 0) _ (flatD_get xs j 0 hj (by decide))
  cases hq
  simpa using c
theorem Sq.dueK {w : World} {p : Addr} {xs : List Du} {x : Du} {j : Nat} (h : Sq w (some p) (flatD xs)) (hx : xs[j]? = some x) (k : Nat) (hk : 0 < k) (u : Value) (hu : x.cells[k]? = some u) : w.cell? ⟨(p.add (j * 2)).block, (p.add (j * 2)).off + k, none⟩ = some u := by
  obtain ⟨hj, rfl⟩ := List.getElem?_eq_some_iff.1 hx
  have hk2 : k < 2 := by have := (List.getElem?_eq_some_iff.1 hu).1; rwa [Du.len] at this
  obtain ⟨q, hq, _, c⟩ := h.cell (j * 2 + k) u ((flatD_get xs j k hj hk2).trans hu)
  cases hq
  rw [add_field _ _ _ hk]
  exact c
theorem Beh.due0 {U : World} {p : Addr} {xs : List Du} {x : Du} {j : Nat} (h : Sq U (some p) (flatD xs)) (hx : xs[j]? = some x) : ∀ n : Beh U, n.w.cell? (p.add (j * 2)) = some (.int .i64 x.t) := fun n => (h.below n.low).due0 hx
theorem Beh.dueK {U : World} {p : Addr} {xs : List Du} {x : Du} {j : Nat} (h : Sq U (some p) (flatD xs)) (hx : xs[j]? = some x) (k : Nat) (hk : 0 < k) (u : Value) (hu : x.cells[k]? = some u) : ∀ n : Beh U, n.w.cell? ⟨(p.add (j * 2)).block, (p.add (j * 2)).off + k, none⟩ = some u := fun n => (h.below n.low).dueK hx k hk u hu

/-- The first j jobs lie there already. -/
def PartD (ys : List Value) (xs : List Du) (j : Nat) : Prop := ys.length = 2 * xs.length ∧ ∀ i (h : i < xs.length) k, k < 2 → i < j → ys[i * 2 + k]? = (xs[i].cells)[k]?
theorem PartD.set {ys : List Value} {xs : List Du} {j : Nat} {x : Du} (h : PartD ys xs j) (hx : xs[j]? = some x) : PartD (Go.Proofs.Ytdmmjggkdkmeaaa.putL ys (j * 2) x.cells) xs (j + 1) := by
  obtain ⟨hj, rfl⟩ := List.getElem?_eq_some_iff.1 hx
  refine ⟨by rw [putL_len]; exact h.1, fun i hi k hk hij => ?_⟩
  have hl := h.1
  by_cases e : i = j
  · subst e
    exact putL_in _ _ _ _ (by rw [Du.len]; omega) (by rw [Du.len]; exact hk)
  · rw [putL_out _ _ _ _ (by rw [Du.len]; omega)]
    exact h.2 i hi k hk (by omega)
theorem PartD.all {ys : List Value} {xs : List Du} {j : Nat} (h : PartD ys xs j) (hj : xs.length ≤ j) : ys = flatD xs := by
  apply List.ext_getElem?
  intro m
  by_cases hm : m < 2 * xs.length
  · have h1 := h.2 (m / 2) (by omega) (m % 2) (by omega) (by omega)
    have h2 := flatD_get xs (m / 2) (m % 2) (by omega) (by omega)
    rw [show m / 2 * 2 + m % 2 = m by omega] at h1 h2
    rw [h1, h2]
  · rw [List.getElem?_eq_none (by rw [h.1]; omega), List.getElem?_eq_none (by rw [flatD_len]; omega)]

theorem infoDue : (Try.prog.info? 30).map (fun i => (i.zero, i.size, i.bytes)) = some (some (.agg #[.int .i64 0, .int .i64 0]), 2, 16) := by kernel_rfl
/-- 'make([]impl.Due, n)'. -/
theorem make_dues (n : Nat) (hn : n ≤ 1048576) : ∃ Z : List Value, Z.length = 2 * n ∧ ∀ w : World, (Instr.makeSlice 23 (.int .i64 (n : Int)) (.int .i64 (n : Int))).run Try.prog w = .ok (.slice (some ⟨w.heap.size, 0, none⟩) n n) (w.alloc (.cells Z.toArray 30)) := by
  obtain ⟨i0, hi, hz0, hz1, hz2⟩ := info_parts infoDue
  refine ⟨(madeCells (Value.agg #[.int .i64 0, .int .i64 0]).cells (n * i0.size)).toList, ?_, fun w => ?_⟩
  · rw [hz1]
    simp [madeCells, Value.cells]
    omega
  · have h := run_make (P := Try.prog) (w := w) 23 30 i0 (.agg #[.int .i64 0, .int .i64 0]) Try.underlying23 hi hz0 .i64 .i64 (n : Int) (n : Int) (by omega) (Int.le_refl _) (by rw [hz2]; omega) (by omega)
    simpa using h

set_option maxHeartbeats 4000000 in
theorem toDueS_c (a : Option Addr) (cap : Nat) (xs : List Du) (hl : xs.length ≤ 1048576) (w : World) (h : Sq w a (flatD xs)) :
    Calls Try.prog 20 #[.slice a xs.length cap] w fun e w' =>
      ∃ g, e = .returned (.slice (some ⟨g, 0, none⟩) xs.length xs.length) ∧ w.heap.size ≤ g ∧ Row w' g (flatD xs) ∧ Below w.heap.size w w' := by
  have H : Hid (Sq w a (flatD xs)) := h
  clear h
  obtain ⟨Z, hZ, hmk⟩ := make_dues xs.length hl
  go_enter Try.func20, Try.ntmps20
  go_wp2_with fail
  go_loopw [4] (fun i wr => ∃ (j : Nat) (ys : List Value), j ≤ xs.length ∧ i = .int .i64 j ∧ PartD ys xs j ∧ Row wr w.heap.size ys ∧ Below w.heap.size w wr) (fun i _ => xs.length - (intOf i).toNat)
  case atStart => exact ⟨0, Z, Nat.zero_le _, rfl, ⟨hZ, fun i _ k _ h => by omega⟩, row_fresh w Z 30, by go_grown⟩
  case round =>
    obtain ⟨j, ys, hj, rfl, hp, hr, hb⟩ := hrel
    have HP : Hid (PartD ys xs j) := hp
    have HR : Hid (Row wr w.heap.size ys) := hr
    have HB : Hid (Below w.heap.size w wr) := hb
    clear hp hr hb hmk hZ
    by_cases hlt : j < xs.length
    · have hi0 : (0 : Int) ≤ (j : Int) := by omega
      have hi1 : (j : Int) < (xs.length : Int) := by omega
      have HX : Hid (xs[j]? = some xs[j]) := List.getElem?_eq_getElem hlt
      obtain ⟨p, rfl⟩ := H.out.some_ofD j hlt
      generalize xs[j] = x at HX
      have c0 := (H.out.below HB.out).due0 HX.out
      have c1 := (H.out.below HB.out).dueK HX.out 1 (by decide) _ rfl
      go_wp2_with fail
      refine (toDue_c x _).mono ?_
      rintro e w1 ⟨rfl, hb1⟩
      have HB1 : Hid (Below w.heap.size w w1) := below_then HB.out hb1
      have HR1 : Hid (Row w1 w.heap.size ys) := HR.out.below hb1
      have hy : j * 2 + 2 ≤ ys.length := by rw [HP.out.1]; omega
      have HS : Hid (Row (setL w1 w.heap.size (j * 2) x.cells) w.heap.size (putL ys (j * 2) x.cells)) := Row.putL x.cells (j * 2) HR1.out (by rw [Du.len]; exact hy)
      have HBS : Hid (Below w.heap.size w (setL w1 w.heap.size (j * 2) x.cells)) := below_setL (Nat.le_refl _) _ _ HB1.out
      have d0 := HR1.out.cell (j * 2) _ (List.getElem?_eq_getElem (by omega))
      have f0 := HR1.out.free (j * 2)
      have d1 := HR1.out.cell (j * 2 + 1) _ (List.getElem?_eq_getElem (by omega))
      have f1 := HR1.out.free (j * 2 + 1)
      clear hb1 c0 c1
      go_wp2_with fail
      exact ⟨⟨j + 1, putL ys (j * 2) x.cells, by omega, by go_num, HP.out.set HX.out, HS.out, HBS.out⟩, by simp [intOf]; omega⟩
    · have HE : Hid (ys = flatD xs) := HP.out.all (by omega)
      go_wp2_with fail
      go_ret
      exact ⟨_, rfl, Nat.le_refl _, by rw [← HE.out]; exact HR.out, HB.out⟩

theorem szDueS_c (a : Option Addr) (n cap : Nat) (hn : n ≤ maxLen) (left : Int) (h0 : 0 ≤ left) (h1 : left ≤ 1048576) (w : World) :
    Calls Try.prog 18 #[.slice a n cap, .int .i64 left] w fun e w' => e = .returned (.int .i64 (if left - n < 0 then -1 else left - n)) ∧ w' = w := by
  unfold maxLen at hn
  by_cases h : left - n < 0
  · go_enter Try.func18, Try.ntmps18
    go_wp2_with fail
    go_ret
    exact ⟨rfl, rfl⟩
  · go_enter Try.func18, Try.ntmps18
    go_wp2_with fail
    go_ret
    exact ⟨rfl, rfl⟩

theorem eqDue_c (j : Du) (w : World) :
    Calls Try.prog 28 #[.agg #[.int .i64 j.t, .int .i64 j.n], .agg #[.int .i64 j.t, .int .i64 j.n]] w fun e w' => e = .returned (.bool true) ∧ Below w.heap.size w w' := by
  go_enter Try.func28, Try.ntmps28
  go_wp2_with fail
  go_ret
  exact ⟨rfl, by go_grown⟩

set_option maxHeartbeats 2000000 in
/-- A list of jobs held against itself. -/
theorem eqDueS_c (a b : Option Addr) (c d : Nat) (xs : List Du) (hl : xs.length ≤ 1048576) (w : World) (h : Sq w a (flatD xs)) (h' : Sq w b (flatD xs)) :
    Calls Try.prog 21 #[.slice a xs.length c, .slice b xs.length d] w fun e w' => e = .returned (.bool true) ∧ Below w.heap.size w w' := by
  have H : Hid (Sq w a (flatD xs)) := h
  have H' : Hid (Sq w b (flatD xs)) := h'
  clear h h'
  go_enter Try.func21, Try.ntmps21
  go_wp2_with fail
  go_loopw [5] (fun i wr => ∃ j : Nat, j ≤ xs.length ∧ i = .int .i64 j ∧ Below w.heap.size w wr) (fun i _ => xs.length - (intOf i).toNat)
  case atStart => exact ⟨0, Nat.zero_le _, rfl, Below.refl _ _⟩
  case round =>
    obtain ⟨j, hj, rfl, hb⟩ := hrel
    have HB : Hid (Below w.heap.size w wr) := hb
    clear hb
    by_cases hlt : j < xs.length
    · have hi0 : (0 : Int) ≤ (j : Int) := by omega
      have hi1 : (j : Int) < (xs.length : Int) := by omega
      have HX : Hid (xs[j]? = some xs[j]) := List.getElem?_eq_getElem hlt
      obtain ⟨p, rfl⟩ := H.out.some_ofD j hlt
      obtain ⟨q, rfl⟩ := H'.out.some_ofD j hlt
      generalize xs[j] = x at HX
      have hsome := beh_some wr
      have m0 := Beh.due0 (H.out.below HB.out) HX.out
      have n0 := Beh.due0 (H'.out.below HB.out) HX.out
      have m1 := Beh.dueK (H.out.below HB.out) HX.out 1 (by decide) _ rfl
      have n1 := Beh.dueK (H'.out.below HB.out) HX.out 1 (by decide) _ rfl
      have HQ : Hid (∀ W, Calls Try.prog 28 #[.agg #[.int .i64 x.t, .int .i64 x.n], .agg #[.int .i64 x.t, .int .i64 x.n]] W fun e w' => e = .returned (.bool true) ∧ Below W.heap.size W w') := fun W => eqDue_c x W
      go_wp2_with fail
      refine wp_region_beh (by kernel_rfl) (by kernel_rfl) ?_
      repeat (go_big_quiet_step (first | (go_at_call 28; exact calls_beh (HQ.out _))))
      refine wpQuiet_nil ?_
      rintro ⟨w2, hb2⟩
      have HB4 : Hid (Below w.heap.size w w2) := below_then HB.out hb2
      go_wp2_with fail
      exact ⟨⟨j + 1, by omega, by go_num, HB4.out⟩, by simp [intOf]; omega⟩
    · go_wp2_with fail
      go_ret
      exact ⟨rfl, HB.out⟩
end Go.Proofs.Ytdmmjggkdkmeaaa
