/- Lists of accounts: as they lie, copied, measured, held against themselves. -/
import Derived.Test.YtpjfampfhofeaaaJsA
namespace Go.Proofs.Ytpjfampfhofeaaa
open Go.ChangeShapes Go.WideShapes Go.ChangeAt Go.RowKit

structure Ac where
  nm : ByteArray
  sh : Int
  us : Int
def Ac.cells (x : Ac) : List Value := [.string x.nm, .int .i64 x.sh, .int .i64 x.us]
theorem toAccount_c (j : Ac) (w : World) : Calls Try.prog 55 #[.agg #[.string j.nm, .int .i64 j.sh, .int .i64 j.us]] w fun e w' => e = .returned (.agg #[.string j.nm, .int .i64 j.sh, .int .i64 j.us]) ∧ Below w.heap.size w w' := by
  go_enter Try.func55, Try.ntmps55
  go_wp2
  go_returns
  exact ⟨rfl, by go_grown⟩
theorem Ac.len (x : Ac) : x.cells.length = 3 := rfl
/-- Jobs as they lie. -/
def flatAc (xs : List Ac) : List Value := xs.flatMap Ac.cells
theorem flatAc_len (xs : List Ac) : (flatAc xs).length = 3 * xs.length := by
  induction xs with
  | nil => rfl
  | cons n r ih => simp [flatAc, Ac.cells] at ih ⊢; omega
theorem flatAc_get : ∀ (xs : List Ac) (i k : Nat) (h : i < xs.length), k < 3 → (flatAc xs)[i * 3 + k]? = (xs[i].cells)[k]?
  | [], i, k, h, _ => by simp at h
  | n :: r, 0, k, _, hk => by
    simp only [flatAc, List.flatMap_cons, List.getElem_cons_zero, Nat.zero_mul, Nat.zero_add]
    rw [List.getElem?_append_left (by rw [Ac.len]; exact hk)]
  | n :: r, i + 1, k, h, hk => by
    simp only [flatAc, List.flatMap_cons, List.getElem_cons_succ]
    rw [List.getElem?_append_right (by rw [Ac.len]; omega)]
    have := flatAc_get r i k (by simpa using h) hk
    rw [← this]
    congr 1
    rw [Ac.len]
    omega

theorem Sq.some_ofAc {w : World} {a : Option Addr} {xs : List Ac} (h : Sq w a (flatAc xs)) (j : Nat) (hj : j < xs.length) : ∃ p, a = some p := by
  obtain ⟨p, ha, _⟩ := h.cell (j * 3 + 0) _ (flatAc_get xs j 0 hj (by decide))
  exact ⟨p, ha⟩
theorem Sq.account0 {w : World} {p : Addr} {xs : List Ac} {x : Ac} {j : Nat} (h : Sq w (some p) (flatAc xs)) (hx : xs[j]? = some x) : w.cell? (p.add (j * 3)) = some (.string x.nm) := by
  obtain ⟨hj, rfl⟩ := List.getElem?_eq_some_iff.1 hx
  obtain ⟨q, hq, _, c⟩ := h.cell (j * 3 + 0) _ (flatAc_get xs j 0 hj (by decide))
  cases hq
  simpa using c
theorem Sq.accountK {w : World} {p : Addr} {xs : List Ac} {x : Ac} {j : Nat} (h : Sq w (some p) (flatAc xs)) (hx : xs[j]? = some x) (k : Nat) (hk : 0 < k) (u : Value) (hu : x.cells[k]? = some u) : w.cell? ⟨(p.add (j * 3)).block, (p.add (j * 3)).off + k, none⟩ = some u := by
  obtain ⟨hj, rfl⟩ := List.getElem?_eq_some_iff.1 hx
  have hk2 : k < 3 := by have := (List.getElem?_eq_some_iff.1 hu).1; rwa [Ac.len] at this
  obtain ⟨q, hq, _, c⟩ := h.cell (j * 3 + k) u ((flatAc_get xs j k hj hk2).trans hu)
  cases hq
  rw [add_field _ _ _ hk]
  exact c
theorem Beh.account0 {U : World} {p : Addr} {xs : List Ac} {x : Ac} {j : Nat} (h : Sq U (some p) (flatAc xs)) (hx : xs[j]? = some x) : ∀ n : Beh U, n.w.cell? (p.add (j * 3)) = some (.string x.nm) := fun n => (h.below n.low).account0 hx
theorem Beh.accountK {U : World} {p : Addr} {xs : List Ac} {x : Ac} {j : Nat} (h : Sq U (some p) (flatAc xs)) (hx : xs[j]? = some x) (k : Nat) (hk : 0 < k) (u : Value) (hu : x.cells[k]? = some u) : ∀ n : Beh U, n.w.cell? ⟨(p.add (j * 3)).block, (p.add (j * 3)).off + k, none⟩ = some u := fun n => (h.below n.low).accountK hx k hk u hu

/-- The first j jobs lie there already. -/
def PartAc (ys : List Value) (xs : List Ac) (j : Nat) : Prop := ys.length = 3 * xs.length ∧ ∀ i (h : i < xs.length) k, k < 3 → i < j → ys[i * 3 + k]? = (xs[i].cells)[k]?
theorem PartAc.set {ys : List Value} {xs : List Ac} {j : Nat} {x : Ac} (h : PartAc ys xs j) (hx : xs[j]? = some x) : PartAc (Go.Proofs.Ytpjfampfhofeaaa.putL ys (j * 3) x.cells) xs (j + 1) := by
  obtain ⟨hj, rfl⟩ := List.getElem?_eq_some_iff.1 hx
  refine ⟨by rw [putL_len]; exact h.1, fun i hi k hk hij => ?_⟩
  have hl := h.1
  by_cases e : i = j
  · subst e
    exact putL_in _ _ _ _ (by rw [Ac.len]; omega) (by rw [Ac.len]; exact hk)
  · rw [putL_out _ _ _ _ (by rw [Ac.len]; omega)]
    exact h.2 i hi k hk (by omega)
theorem PartAc.all {ys : List Value} {xs : List Ac} {j : Nat} (h : PartAc ys xs j) (hj : xs.length ≤ j) : ys = flatAc xs := by
  apply List.ext_getElem?
  intro m
  by_cases hm : m < 3 * xs.length
  · have h1 := h.2 (m / 3) (by omega) (m % 3) (by omega) (by omega)
    have h2 := flatAc_get xs (m / 3) (m % 3) (by omega) (by omega)
    rw [show m / 3 * 3 + m % 3 = m by omega] at h1 h2
    rw [h1, h2]
  · rw [List.getElem?_eq_none (by rw [h.1]; omega), List.getElem?_eq_none (by rw [flatAc_len]; omega)]

theorem infoAccount : (Try.prog.info? 30).map (fun i => (i.zero, i.size, i.bytes)) = some (some (.agg #[.string ⟨#[]⟩, .int .i64 0, .int .i64 0]), 3, 32) := by kernel_rfl
/-- 'make([]impl.Account, n)'. -/
theorem make_accounts (n : Nat) (hn : n ≤ 1048576) : ∃ Z : List Value, Z.length = 3 * n ∧ ∀ w : World, (Instr.makeSlice 23 (.int .i64 (n : Int)) (.int .i64 (n : Int))).run Try.prog w = .ok (.slice (some ⟨w.heap.size, 0, none⟩) n n) (w.alloc (.cells Z.toArray 30)) := by
  obtain ⟨i0, hi, hz0, hz1, hz2⟩ := info_parts infoAccount
  refine ⟨(madeCells (Value.agg #[.string ⟨#[]⟩, .int .i64 0, .int .i64 0]).cells (n * i0.size)).toList, ?_, fun w => ?_⟩
  · rw [hz1]
    simp [madeCells, Value.cells]
    omega
  · have h := run_make (P := Try.prog) (w := w) 23 30 i0 (.agg #[.string ⟨#[]⟩, .int .i64 0, .int .i64 0]) Try.underlying23 hi hz0 .i64 .i64 (n : Int) (n : Int) (by omega) (Int.le_refl _) (by rw [hz2]; omega) (by omega)
    simpa using h

set_option maxHeartbeats 4000000 in
theorem toAccountS_c (a : Option Addr) (cap : Nat) (xs : List Ac) (hl : xs.length ≤ 1048576) (w : World) (h : Sq w a (flatAc xs)) :
    Calls Try.prog 26 #[.slice a xs.length cap] w fun e w' =>
      ∃ g, e = .returned (.slice (some ⟨g, 0, none⟩) xs.length xs.length) ∧ w.heap.size ≤ g ∧ Row w' g (flatAc xs) ∧ Below w.heap.size w w' := by
  have H : Hid (Sq w a (flatAc xs)) := h
  clear h
  obtain ⟨Z, hZ, hmk⟩ := make_accounts xs.length hl
  go_enter Try.func26, Try.ntmps26
  go_wp2_with fail
  go_loopw [4] (fun i wr => ∃ (j : Nat) (ys : List Value), j ≤ xs.length ∧ i = .int .i64 j ∧ PartAc ys xs j ∧ Row wr w.heap.size ys ∧ Below w.heap.size w wr) (fun i _ => xs.length - (intOf i).toNat)
  case atStart => exact ⟨0, Z, Nat.zero_le _, rfl, ⟨hZ, fun i _ k _ h => by omega⟩, row_fresh w Z 30, by go_grown⟩
  case round =>
    obtain ⟨j, ys, hj, rfl, hp, hr, hb⟩ := hrel
    have HP : Hid (PartAc ys xs j) := hp
    have HR : Hid (Row wr w.heap.size ys) := hr
    have HB : Hid (Below w.heap.size w wr) := hb
    clear hp hr hb hmk hZ
    by_cases hlt : j < xs.length
    · have hi0 : (0 : Int) ≤ (j : Int) := by omega
      have hi1 : (j : Int) < (xs.length : Int) := by omega
      have HX : Hid (xs[j]? = some xs[j]) := List.getElem?_eq_getElem hlt
      obtain ⟨p, rfl⟩ := H.out.some_ofAc j hlt
      generalize xs[j] = x at HX
      have c0 := (H.out.below HB.out).account0 HX.out
      have c1 := (H.out.below HB.out).accountK HX.out 1 (by decide) _ rfl
      have c2 := (H.out.below HB.out).accountK HX.out 2 (by decide) _ rfl
      go_wp2_with fail
      refine (toAccount_c x _).mono ?_
      rintro e w1 ⟨rfl, hb1⟩
      have HB1 : Hid (Below w.heap.size w w1) := below_then HB.out hb1
      have HR1 : Hid (Row w1 w.heap.size ys) := HR.out.below hb1
      have hy : j * 3 + 3 ≤ ys.length := by rw [HP.out.1]; omega
      have HS : Hid (Row (setL w1 w.heap.size (j * 3) x.cells) w.heap.size (putL ys (j * 3) x.cells)) := Row.putL x.cells (j * 3) HR1.out (by rw [Ac.len]; exact hy)
      have HBS : Hid (Below w.heap.size w (setL w1 w.heap.size (j * 3) x.cells)) := below_setL (Nat.le_refl _) _ _ HB1.out
      have d0 := HR1.out.cell (j * 3) _ (List.getElem?_eq_getElem (by omega))
      have f0 := HR1.out.free (j * 3)
      have d1 := HR1.out.cell (j * 3 + 1) _ (List.getElem?_eq_getElem (by omega))
      have f1 := HR1.out.free (j * 3 + 1)
      have d2 := HR1.out.cell (j * 3 + 2) _ (List.getElem?_eq_getElem (by omega))
      have f2 := HR1.out.free (j * 3 + 2)
      clear hb1 c0 c1 c2
      go_wp2_with fail
      exact ⟨⟨j + 1, putL ys (j * 3) x.cells, by omega, by go_num, HP.out.set HX.out, HS.out, HBS.out⟩, by simp [intOf]; omega⟩
    · have HE : Hid (ys = flatAc xs) := HP.out.all (by omega)
      go_wp2_with fail
      go_ret
      exact ⟨_, rfl, Nat.le_refl _, by rw [← HE.out]; exact HR.out, HB.out⟩

/-- How long the texts of one are. -/
def szAc (x : Ac) : Nat := x.nm.size
set_option maxHeartbeats 1000000 in
theorem szAccount_c (x : Ac) (hx : szAc x ≤ 9223372036854775807) (left : Int) (h0 : 0 ≤ left) (h1 : left ≤ 1048576) (w : World) :
    Calls Try.prog 54 #[.agg #[.string x.nm, .int .i64 x.sh, .int .i64 x.us], .int .i64 left] w fun e w' => ∃ r : Int, e = .returned (.int .i64 r) ∧ (0 ≤ r → r = left - szAc x) ∧ -1 ≤ r ∧ Below w.heap.size w w' := by
  unfold szAc at *
  by_cases h : left - (x.nm.size : Int) < 0
  · go_enter Try.func54, Try.ntmps54
    go_wp2_with fail
    go_ret
    exact ⟨-1, rfl, by omega, by omega, by go_grown⟩
  · go_enter Try.func54, Try.ntmps54
    go_wp2_with fail
    go_ret
    exact ⟨left - (x.nm.size : Int), rfl, fun _ => rfl, by omega, by go_grown⟩

set_option maxHeartbeats 2000000 in
theorem szAccountS_c (a : Option Addr) (cap : Nat) (xs : List Ac) (hn : xs.length ≤ maxLen) (hz : ∀ x ∈ xs, szAc x ≤ 9223372036854775807) (left : Int) (h0 : 0 ≤ left) (h1 : left ≤ 1048576) (w : World) (h : Sq w a (flatAc xs)) :
    Calls Try.prog 24 #[.slice a xs.length cap, .int .i64 left] w fun e w' => ∃ r : Int, e = .returned (.int .i64 r) ∧ -1 ≤ r ∧ r ≤ left ∧ (0 ≤ r → (xs.length : Int) ≤ left ∧ ∀ x ∈ xs, (szAc x : Int) ≤ left) ∧ Below w.heap.size w w' := by
  have H : Hid (Sq w a (flatAc xs)) := h
  have HZ : Hid (∀ x ∈ xs, szAc x ≤ 9223372036854775807) := hz
  unfold maxLen at hn
  clear h hz
  by_cases h : left - (xs.length : Int) < 0
  · go_enter Try.func24, Try.ntmps24
    go_wp2_with fail
    go_ret
    exact ⟨-1, rfl, by omega, by omega, by omega, Below.refl _ _⟩
  · have hl : (xs.length : Int) ≤ left := by omega
    go_enter Try.func24, Try.ntmps24
    go_wp2_with fail
    go_loopw [1, 5] (fun lv i wr => ∃ (j : Nat) (r : Int), j ≤ xs.length ∧ i = .int .i64 j ∧ lv = .int .i64 r ∧ 0 ≤ r ∧ r ≤ left ∧ (∀ x ∈ xs.take j, (szAc x : Int) ≤ left) ∧ Below w.heap.size w wr) (fun _ i _ => xs.length - (intOf i).toNat)
    case atStart => exact ⟨0, left - xs.length, Nat.zero_le _, rfl, rfl, by omega, by omega, fun x h => by simp at h, Below.refl _ _⟩
    case round =>
      obtain ⟨j, r, hj, rfl, rfl, hr0, hr1, hin, hb⟩ := hrel
      have HI : Hid (∀ x ∈ xs.take j, (szAc x : Int) ≤ left) := hin
      have HB : Hid (Below w.heap.size w wr) := hb
      clear hin hb
      by_cases hlt : j < xs.length
      · have hi0 : (0 : Int) ≤ (j : Int) := by omega
        have hi1 : (j : Int) < (xs.length : Int) := by omega
        have HX : Hid (xs[j]? = some xs[j]) := List.getElem?_eq_getElem hlt
        have HS : Hid (szAc xs[j] ≤ 9223372036854775807) := HZ.out _ (List.getElem_mem hlt)
        obtain ⟨p, rfl⟩ := H.out.some_ofAc j hlt
        generalize xs[j] = x at HX HS
        have c0 := (H.out.below HB.out).account0 HX.out
        have c1 := (H.out.below HB.out).accountK HX.out 1 (by decide) _ rfl
        have c2 := (H.out.below HB.out).accountK HX.out 2 (by decide) _ rfl
        go_wp2_with fail
        refine (szAccount_c x HS.out r hr0 (by omega) _).mono ?_
        rintro e w2 ⟨r2, rfl, hr2, hr3, hb⟩
        have HB2 : Hid (Below w.heap.size w w2) := below_then HB.out hb
        clear hb c0 c1 c2
        by_cases hneg : r2 < 0
        · clear hr2
          go_wp2_with fail
          go_ret
          exact ⟨-1, rfl, by omega, by omega, by omega, HB2.out⟩
        · have hr4 := hr2 (by omega)
          have HI2 : Hid (∀ y ∈ xs.take (j + 1), (szAc y : Int) ≤ left) := fun y hy => by
            rw [List.take_add_one, HX.out, Option.toList_some] at hy
            rcases List.mem_append.1 hy with hy | hy
            · exact HI.out y hy
            · have e := List.mem_singleton.1 hy
              subst e
              omega
          have hr5 : r2 ≤ left := by omega
          have hr6 : 0 ≤ r2 := by omega
          clear hr2 hr4 hr3
          go_wp2_with fail
          go_roundw
          case rel => exact ⟨j + 1, r2, by omega, by go_num, rfl, hr6, hr5, HI2.out, HB2.out⟩
          case measure => simp [intOf]; omega
      · have HAll : Hid (∀ x ∈ xs, (szAc x : Int) ≤ left) := fun x hx => HI.out x (by rw [List.take_of_length_le (by omega)]; exact hx)
        go_wp2_with fail
        go_ret
        exact ⟨r, rfl, by omega, hr1, fun _ => ⟨hl, HAll.out⟩, HB.out⟩

set_option maxHeartbeats 1000000 in
theorem eqAccount_c (j : Ac) (w : World) :
    Calls Try.prog 56 #[.agg #[.string j.nm, .int .i64 j.sh, .int .i64 j.us], .agg #[.string j.nm, .int .i64 j.sh, .int .i64 j.us]] w fun e w' => e = .returned (.bool true) ∧ Below w.heap.size w w' := by
  go_enter Try.func56, Try.ntmps56
  go_wp2_with fail
  go_ret
  exact ⟨rfl, by go_grown⟩

set_option maxHeartbeats 2000000 in
/-- A list of jobs held against itself. -/
theorem eqAccountS_c (a b : Option Addr) (c d : Nat) (xs : List Ac) (hl : xs.length ≤ 1048576) (w : World) (h : Sq w a (flatAc xs)) (h' : Sq w b (flatAc xs)) :
    Calls Try.prog 27 #[.slice a xs.length c, .slice b xs.length d] w fun e w' => e = .returned (.bool true) ∧ Below w.heap.size w w' := by
  have H : Hid (Sq w a (flatAc xs)) := h
  have H' : Hid (Sq w b (flatAc xs)) := h'
  clear h h'
  go_enter Try.func27, Try.ntmps27
  go_wp2_with fail
  go_loopw [5] (fun i wr => ∃ j : Nat, j ≤ xs.length ∧ i = .int .i64 j ∧ Below w.heap.size w wr) (fun i _ => xs.length - (intOf i).toNat)
  case atStart => exact ⟨0, Nat.zero_le _, rfl, Below.refl _ _⟩
  case round =>
    obtain ⟨j, hj, rfl, hb⟩ := hrel
    have HB : Hid (Below w.heap.size w wr) := hb
    clear hb
    by_cases hlt : j < xs.length
    · have hi0 : (0 : Int) ≤ (j : Int) := by omega
      have hi1 : (j : Int) < (xs.length : Int) := by omega
      have HX : Hid (xs[j]? = some xs[j]) := List.getElem?_eq_getElem hlt
      obtain ⟨p, rfl⟩ := H.out.some_ofAc j hlt
      obtain ⟨q, rfl⟩ := H'.out.some_ofAc j hlt
      generalize xs[j] = x at HX
      have hsome := beh_some wr
      have m0 := Beh.account0 (H.out.below HB.out) HX.out
      have n0 := Beh.account0 (H'.out.below HB.out) HX.out
      have m1 := Beh.accountK (H.out.below HB.out) HX.out 1 (by decide) _ rfl
      have n1 := Beh.accountK (H'.out.below HB.out) HX.out 1 (by decide) _ rfl
      have m2 := Beh.accountK (H.out.below HB.out) HX.out 2 (by decide) _ rfl
      have n2 := Beh.accountK (H'.out.below HB.out) HX.out 2 (by decide) _ rfl
      have HQ : Hid (∀ W, Calls Try.prog 56 #[.agg #[.string x.nm, .int .i64 x.sh, .int .i64 x.us], .agg #[.string x.nm, .int .i64 x.sh, .int .i64 x.us]] W fun e w' => e = .returned (.bool true) ∧ Below W.heap.size W w') := fun W => eqAccount_c x W
      go_wp2_with fail
      refine wp_region_beh (by kernel_rfl) (by kernel_rfl) ?_
      repeat (go_big_quiet_step (first | (go_at_call 56; exact calls_beh (HQ.out _))))
      refine wpQuiet_nil ?_
      rintro ⟨w2, hb2⟩
      have HB4 : Hid (Below w.heap.size w w2) := below_then HB.out hb2
      go_wp2_with fail
      exact ⟨⟨j + 1, by omega, by go_num, HB4.out⟩, by simp [intOf]; omega⟩
    · go_wp2_with fail
      go_ret
      exact ⟨rfl, HB.out⟩
end Go.Proofs.Ytpjfampfhofeaaa
