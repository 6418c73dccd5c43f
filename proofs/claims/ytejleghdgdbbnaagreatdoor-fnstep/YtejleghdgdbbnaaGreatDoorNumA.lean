/- The decimal text of a number: the specification's. -/
import Derived.Test.YtejleghdgdbbnaaGreatDoorBase
import Derived.Lib.ItoaNum
import Derived.Lib.ItoaLen
import Derived.Laws.Concat
import Derived.Laws.IdiomStrings
namespace Go.Proofs.YtejleghdgdbbnaaGreatDoor
open Go.ChangeShapes Go.WideShapes Go.ChangeAt Go.RowKit

/-- A time. -/
def timB (n : Int) : Bool := decide (0 ≤ n) && decide (n ≤ 1000000000)
/-- The decimal text of a time; the empty text of anything else. -/
def numL (n : Int) : List UInt8 := bif timB n then Lib.decDigits n.toNat else []

theorem tim_yes {n : Int} (h : timB n = true) : 0 ≤ n ∧ n ≤ 1000000000 := by simpa [timB] using h

theorem l01Time_c (n : Int) (w : World) :
    Calls Tryz.prog 17 #[.int .i64 n] w fun e w' => e = .returned (.bool (timB n)) ∧ w' = w := by
  by_cases h0 : 0 ≤ n
  · by_cases h1 : n ≤ 1000000000
    · go_enter Tryz.func17, Tryz.ntmps17
      go_wp2
      go_ret
      exact ⟨by simp [timB, h0, h1], rfl⟩
    · go_enter Tryz.func17, Tryz.ntmps17
      go_wp2
      go_ret
      exact ⟨by simp [timB, h0, h1], rfl⟩
  · go_enter Tryz.func17, Tryz.ntmps17
    go_wp2
    go_ret
    exact ⟨by simp [timB]; omega, rfl⟩

theorem timeOk_c (n : Int) (w : World) :
    Calls Tryz.prog 29 #[.int .i64 n] w fun e w' => e = .returned (.bool (timB n)) ∧ w' = w := by
  by_cases h0 : 0 ≤ n
  · by_cases h1 : n ≤ 1000000000
    · go_enter Tryz.func29, Tryz.ntmps29
      go_wp2
      go_ret
      exact ⟨by simp [timB, h0, h1], rfl⟩
    · go_enter Tryz.func29, Tryz.ntmps29
      go_wp2
      go_ret
      exact ⟨by simp [timB, h0, h1], rfl⟩
  · go_enter Tryz.func29, Tryz.ntmps29
    go_wp2
    go_ret
    exact ⟨by simp [timB]; omega, rfl⟩

theorem specNumText_no (n : Int) (w : World) (h : timB n = false) :
    Calls Tryz.prog 18 #[.int .i64 n] w fun e w' => e = .returned (.string ⟨#[]⟩) ∧ Below w.heap.size w w' := by
  have Hn : Hid (timB n = _) := h
  clear h
  go_enter Tryz.func18, Tryz.ntmps18
  go_wp2_with fail
  refine (l01Time_c _ _).mono ?_
  rintro e w1 ⟨rfl, rfl⟩
  rw [Hn.out]
  go_wp2_with fail
  go_ret
  exact ⟨rfl, Below.refl _ _⟩

/-- 'string([]byte{x})'. -/
theorem conv_one (b : Nat) (x : Int) (W : World) (hc : W.cell? ⟨b, 0, none⟩ = some (.int .u8 x)) (h0 : 0 ≤ x) (h1 : x < 256) :
    (convert 22 9 (.slice (some ⟨b, 0, none⟩) 1 1)).run Tryz.prog W = .ok (.string ⟨#[UInt8.ofNat x.toNat]⟩) W := by
  have e := run_convert_bytes_back (P := Tryz.prog) W 22 9 5 ⟨b, 0, none⟩ 1 [UInt8.ofNat x.toNat] Tryz.underlying22 Tryz.underlying5 Tryz.underlying9 (fun j hj => by
    obtain rfl : j = 0 := by simpa using hj
    rw [show (⟨b, 0, none⟩ : Addr).add 0 = ⟨b, 0, none⟩ from rfl, hc, List.getElem_cons_zero]
    have : ((UInt8.ofNat x.toNat).toNat : Int) = x := by simp; omega
    rw [this])
  exact e

theorem specNumText_small (n : Int) (w : World) (h0 : 0 ≤ n) (h1 : n < 10) :
    Calls Tryz.prog 18 #[.int .i64 n] w fun e w' => e = .returned (.string ⟨(Lib.decDigits n.toNat).toArray⟩) ∧ Below w.heap.size w w' := by
  have Hn : Hid (timB n = true) := by show timB n = true; simp [timB]; omega
  have hcv := conv_one w.heap.size (48 + n) (w.alloc (.cells #[.int .u8 (48 + n)] 5)) (by simp) (by omega) (by omega)
  go_enter Tryz.func18, Tryz.ntmps18
  go_wp2_with fail
  refine (l01Time_c _ _).mono ?_
  rintro e w1 ⟨rfl, rfl⟩
  rw [Hn.out]
  go_wp2_with fail
  go_ret
  refine ⟨?_, by go_grown⟩
  rw [Lib.decDigits, dif_pos (by omega), show (48 + n).toNat = 48 + n.toNat by omega]
  rfl

/-- The last digit behind the others. -/
theorem digits_snoc (n : Int) (W : World) (h0 : 10 ≤ n) (h1 : n ≤ 1000000000) :
    (Op.stringOp .add ⟨(Lib.decDigits (n / 10).toNat).toArray⟩ ⟨#[UInt8.ofNat (48 + n % 10).toNat]⟩).run Tryz.prog W = .ok (.string ⟨(Lib.decDigits n.toNat).toArray⟩) W := by
  have hl : (Lib.decDigits (n / 10).toNat).length ≤ 20 := by rw [Lib.decDigits_length]; exact Lib.nDigits_le20 _ (by omega)
  have e : Lib.decDigits n.toNat = Lib.decDigits (n / 10).toNat ++ [UInt8.ofNat (48 + n % 10).toNat] := by
    rw [Lib.decDigits, dif_neg (by omega), show n.toNat / 10 = (n / 10).toNat by omega, show 48 + n.toNat % 10 = (48 + n % 10).toNat by omega]
  rw [e]
  exact run_string_add_lists W _ _ (by omega) (by simp)

set_option maxRecDepth 100000 in
theorem specNumText_c : ∀ (k : Nat) (n : Int) (w : World), 0 ≤ n → n ≤ k → n ≤ 1000000000 →
    Calls Tryz.prog 18 #[.int .i64 n] w fun e w' => e = .returned (.string ⟨(Lib.decDigits n.toNat).toArray⟩) ∧ Below w.heap.size w w' := by
  intro k
  induction k with
  | zero => intro n w h0 hk h1; exact specNumText_small n w h0 (by omega)
  | succ k ih =>
    intro n w h0 hk h1
    by_cases hs : n < 10
    · exact specNumText_small n w h0 hs
    · have Hn : Hid (timB n = true) := by show timB n = true; simp [timB]; omega
      have hr0 : 0 ≤ n % 10 := by omega
      have hr1 : n % 10 < 10 := by omega
      have Hi : Hid (∀ W, Calls Tryz.prog 18 #[.int .i64 (n / 10)] W fun e w' => e = .returned (.string ⟨(Lib.decDigits (n / 10).toNat).toArray⟩) ∧ Below W.heap.size W w') := fun W => ih (n / 10) W (by omega) (by omega) (by omega)
      have hcv := conv_one w.heap.size (48 + n % 10) (w.alloc (.cells #[.int .u8 (48 + n % 10)] 5)) (by simp) (by omega) (by omega)
      have hcd := conv_one w.heap.size (48 + n % 10) (w.alloc (.cells #[.int .u8 (48 + n % 10)] 5)).drew (by simp) (by omega) (by omega)
      have hq1 : IntKind.i64.wrap (n.tdiv 10) = n / 10 := by rw [Int.tdiv_eq_ediv_of_nonneg h0, IntKind.wrap_i64]; omega
      have hq2 : n.tmod 10 = n % 10 := Int.tmod_eq_emod_of_nonneg h0
      have hq3 : IntKind.i64.wrap (48 + n % 10) = 48 + n % 10 := by rw [IntKind.wrap_i64]; omega
      have hq4 : IntKind.u8.wrap (48 + n % 10) = 48 + n % 10 := by rw [IntKind.wrap_u8]; omega
      have hadd : ∀ W, (Op.stringOp .add ⟨(Lib.decDigits (n / 10).toNat).toArray⟩ ⟨#[UInt8.ofNat (48 + n % 10).toNat]⟩).run Tryz.prog W = .ok (.string ⟨(Lib.decDigits n.toNat).toArray⟩) W := fun W => digits_snoc n W (by omega) h1
      clear ih hk
      go_enter Tryz.func18, Tryz.ntmps18
      go_wp2_with fail
      refine (l01Time_c _ _).mono ?_
      rintro e w1 ⟨rfl, rfl⟩
      rw [Hn.out]
      go_wp2_with fail
      go_region_with ((go_at_call 18; refine (Hi.out _).mono ?_; rintro e w2 ⟨rfl, hb⟩; have hc2 := conv_one w2.heap.size (48 + n % 10) (w2.alloc (.cells #[.int .u8 (48 + n % 10)] 5)) (by simp) (by omega) (by omega); have hc3 := fun h1 h2 => conv_one w1.heap.size (48 + n % 10) w2 ((hb.cell (p := ⟨w1.heap.size, 0, none⟩) h1).trans h2) (by omega) (by omega)))
      all_goals
        go_wp2_with fail
        go_ret
        have B : Below w1.heap.size w1 w2 := behind hb (by go_grown)
        refine ⟨?_, ?_⟩
        · rfl
        · first | exact B | exact behind_alloc B _

/-- The specification's NumText, at every number. -/
theorem specNumText_all (n : Int) (w : World) :
    Calls Tryz.prog 18 #[.int .i64 n] w fun e w' => e = .returned (.string ⟨(numL n).toArray⟩) ∧ Below w.heap.size w w' := by
  cases h : timB n
  · rw [numL, h]; exact specNumText_no n w h
  · rw [numL, h]; exact specNumText_c n.toNat n w (tim_yes h).1 (by have := (tim_yes h).1; omega) (tim_yes h).2
end Go.Proofs.YtejleghdgdbbnaaGreatDoor
