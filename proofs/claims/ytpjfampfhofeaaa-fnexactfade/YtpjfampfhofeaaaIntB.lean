/- Slices of numbers: marked, and found marked. -/
import Derived.Test.YtpjfampfhofeaaaIntA
namespace Go.Proofs.Ytpjfampfhofeaaa
open Go.ChangeShapes Go.WideShapes Go.ChangeAt Go.RowKit

/-- n numbers from k on. -/
def upFrom (k n : Nat) : List Value := (List.range n).map fun i => .int .i64 ((k + i : Nat) : Int)
theorem upFrom_len (k n : Nat) : (upFrom k n).length = n := by simp [upFrom]
theorem upFrom_get (k n i : Nat) (h : i < n) : (upFrom k n)[i]? = some (.int .i64 ((k + i : Nat) : Int)) := by simp [upFrom, h]

/-- The first j of the cells are marked. -/
def Marked (ys : List Value) (k n j : Nat) : Prop := ys.length = n ∧ ∀ i, i < n → i < j → ys[i]? = some (.int .i64 ((k + i : Nat) : Int))

theorem Marked.set {ys : List Value} {k n j : Nat} (h : Marked ys k n j) (hj : j < n) : Marked (ys.set j (.int .i64 ((k + j : Nat) : Int))) k n (j + 1) := by
  refine ⟨by rw [List.length_set]; exact h.1, fun i hi hij => ?_⟩
  by_cases e : i = j
  · subst e
    rw [List.getElem?_set_self (by rw [h.1]; exact hi)]
  · rw [List.getElem?_set_ne (fun e' => e e'.symm)]
    exact h.2 i hi (by omega)

theorem Marked.all {ys : List Value} {k n j : Nat} (h : Marked ys k n j) (hj : n ≤ j) : ys = upFrom k n := by
  apply List.ext_getElem?
  intro i
  by_cases hi : i < n
  · rw [h.2 i hi (by omega), upFrom_get k n i hi]
  · rw [List.getElem?_eq_none (by rw [h.1]; omega), List.getElem?_eq_none (by rw [upFrom_len]; omega)]

set_option maxHeartbeats 1000000 in
theorem markIntS_c (g cap k0 : Nat) (xs : List Value) (hl : xs.length ≤ 2147483648) (hk : k0 ≤ 4294967296) (w : World) (h : Row w g xs) :
    Calls Try.prog 34 #[.slice (some ⟨g, 0, none⟩) xs.length cap, .int .i64 (k0 : Int)] w fun e w' => e = .returned (.int .i64 ((k0 + xs.length : Nat) : Int)) ∧ w.grownBy w' (some g) ∧ Row w' g (upFrom k0 xs.length) := by
  have H : Hid (Row w g xs) := h
  clear h
  go_enter Try.func34, Try.ntmps34
  go_wp2_with fail
  go_loopw [1, 5] (fun k i wr => ∃ (j : Nat) (ys : List Value), j ≤ xs.length ∧ i = .int .i64 j ∧ k = .int .i64 ((k0 + j : Nat) : Int) ∧ Marked ys k0 xs.length j ∧ w.grownBy wr (some g) ∧ Row wr g ys) (fun _ i _ => xs.length - (intOf i).toNat)
  case atStart => exact ⟨0, xs, Nat.zero_le _, rfl, rfl, ⟨rfl, fun i _ h => by omega⟩, ⟨rfl, rfl, rfl, Nat.le_refl _, fun _ _ _ => rfl⟩, H.out⟩
  case round =>
    obtain ⟨j, ys, hj, rfl, rfl, hm, hg, hr⟩ := hrel
    have HM : Hid (Marked ys k0 xs.length j) := hm
    have HG : Hid (w.grownBy wr (some g)) := hg
    have HR : Hid (Row wr g ys) := hr
    clear hm hg hr
    by_cases hlt : j < xs.length
    · have hi1 : (j : Int) < (xs.length : Int) := by omega
      have hi0 : (0 : Int) ≤ (j : Int) := by omega
      have hy : j < ys.length := by rw [HM.out.1]; exact hlt
      obtain ⟨u, hu⟩ : ∃ u, wr.cell? ⟨g, j, none⟩ = some u := ⟨_, HR.out.cell j _ (List.getElem?_eq_getElem hy)⟩
      have hf : wr.frozen? ⟨g, j, none⟩ = false := HR.out.free j
      have HS : Hid (Row (wr.setCell ⟨g, j, none⟩ (.int .i64 ((k0 + j : Nat) : Int))) g (ys.set j (.int .i64 ((k0 + j : Nat) : Int)))) := HR.out.set j hy _
      go_wp2_with fail
      go_roundw
      case rel => exact ⟨j + 1, _, by omega, by go_num, by go_num, HM.out.set hlt, Lib.grownBy_setB HG.out _ _, HS.out⟩
      case measure => simp [intOf]; omega
    · obtain rfl : j = xs.length := by omega
      have HE : Hid (ys = upFrom k0 xs.length) := HM.out.all (Nat.le_refl _)
      go_wp2_with fail
      go_ret
      exact ⟨rfl, HG.out, by rw [← HE.out]; exact HR.out⟩

set_option maxHeartbeats 1000000 in
theorem heldIntS_c (g cap k0 n : Nat) (hl : n ≤ 2147483648) (hk : k0 ≤ 4294967296) (w : World) (h : Row w g (upFrom k0 n)) :
    Calls Try.prog 35 #[.slice (some ⟨g, 0, none⟩) n cap, .int .i64 (k0 : Int)] w fun e w' => e = .returned (.int .i64 ((k0 + n : Nat) : Int)) ∧ Below w.heap.size w w' := by
  have H : Hid (Row w g (upFrom k0 n)) := h
  clear h
  go_enter Try.func35, Try.ntmps35
  go_wp2_with fail
  go_loopw [1, 5] (fun k i wr => ∃ j : Nat, j ≤ n ∧ i = .int .i64 j ∧ k = .int .i64 ((k0 + j : Nat) : Int) ∧ Below w.heap.size w wr) (fun _ i _ => n - (intOf i).toNat)
  case atStart => exact ⟨0, Nat.zero_le _, rfl, rfl, Below.refl _ _⟩
  case round =>
    obtain ⟨j, hj, rfl, rfl, hb⟩ := hrel
    have HB : Hid (Below w.heap.size w wr) := hb
    have HR : Hid (Row wr g (upFrom k0 n)) := H.out.below hb
    clear hb
    by_cases hlt : j < n
    · have hi1 : (j : Int) < (n : Int) := by omega
      have hi0 : (0 : Int) ≤ (j : Int) := by omega
      have hc : wr.cell? ⟨g, j, none⟩ = some (.int .i64 ((k0 + j : Nat) : Int)) := HR.out.cell j _ (upFrom_get k0 n j hlt)
      go_wp2_with fail
      exact ⟨⟨j + 1, by omega, by go_num, by go_num, HB.out⟩, by simp [intOf]; omega⟩
    · obtain rfl : j = n := by omega
      go_wp2_with fail
      go_ret
      exact ⟨rfl, HB.out⟩
end Go.Proofs.Ytpjfampfhofeaaa
