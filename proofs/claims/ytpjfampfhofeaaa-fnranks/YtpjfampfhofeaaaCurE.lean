/- The cursor's beginning; two vectors; a text and a byte. -/
import Derived.Test.YtpjfampfhofeaaaCurD
namespace Go.Proofs.Ytpjfampfhofeaaa
open Go.ChangeShapes Go.WideShapes Go.ChangeAt Go.RowKit

/-- The cursor over a code, new. -/
theorem l01New_c (a : Option Addr) (n cap : Nat) (w : World) (h : CodeIs w a n) :
    Calls Try.prog 37 #[.slice a n cap] w fun e w' => ∃ g : Nat, e = .returned (.pointer (some ⟨g, 0, none⟩)) ∧ w.heap.size ≤ g ∧ Below w.heap.size w w' ∧ Cur w' g a n cap := by
  have H : Hid (CodeIs w a n) := h
  have hsm := h.small
  clear h
  go_enter Try.func37, Try.ntmps37
  go_wp2_with fail
  go_loopw [3, 4] (fun hv i wr => ∃ (j : Nat) (x : Int), j ≤ n ∧ i = .int .i64 j ∧ hv = .int .i64 x ∧ 0 ≤ x ∧ x < 2147483648 ∧ Below w.heap.size w wr) (fun _ i _ => n - (intOf i).toNat)
  case atStart => exact ⟨0, 958001 + n, Nat.zero_le _, rfl, rfl, by omega, by omega, Below.refl _ _⟩
  case round =>
    obtain ⟨j, x, hj, rfl, rfl, hx0, hx1, hb⟩ := hrel
    have HB : Hid (Below w.heap.size w wr) := hb
    clear hb
    have HC : Hid (CodeIs wr a n) := H.out.below HB.out
    have fin : ∀ t : TypeId, Hid (wr.heap.size ≥ w.heap.size ∧ Below w.heap.size w (wr.alloc (.cells #[.slice a n cap, .int .i64 0, .int .i64 x] t)) ∧ Cur (wr.alloc (.cells #[.slice a n cap, .int .i64 0, .int .i64 x] t)) wr.heap.size a n cap) := fun t =>
      ⟨HB.out.size, HB.out.alloc HB.out.size _, 0, x, Nat.zero_le _, row_new wr [.slice a n cap, .int .i64 0, .int .i64 x] t, HC.out.below ((Below.refl _ _).alloc (Nat.le_refl _) _), fun p ha hn => by
        obtain ⟨p', _, ha', hp', _⟩ := HC.out.cell 0 hn
        rw [ha] at ha'
        cases ha'
        omega⟩
    by_cases h1 : j < n
    · have hi1 : (j : Int) < (n : Int) := by omega
      have hi0 : (0 : Int) ≤ (j : Int) := by omega
      by_cases h2 : j < 4000
      · have hi2 : (j : Int) < 4000 := by omega
        obtain ⟨p, c, rfl, hp, hc, hc0, hc1⟩ := HC.out.cell j h1
        have B1 := bits_and 1073741823 (by decide) (x * 151 + c + 7)
        go_wp2_with fail
        go_roundw
        case rel => exact ⟨j + 1, _, by omega, by go_num, rfl, B1.1, Int.lt_of_le_of_lt B1.2 (by decide), HB.out⟩
        case measure => simp [intOf]; omega
      · have hi2 : ¬ (j : Int) < 4000 := by omega
        have F := fin 78
        go_wp2_with fail
        go_ret
        exact ⟨_, rfl, F.out.1, F.out.2.1, F.out.2.2⟩
    · have hi1 : ¬ (j : Int) < (n : Int) := by omega
      have F := fin 78
      go_wp2_with fail
      go_ret
      exact ⟨_, rfl, F.out.1, F.out.2.1, F.out.2.2⟩

theorem below_grown {w W W' : World} {g : Nat} (h : Below w.heap.size w W) (hg : W.grownBy W' (some g)) (hge : w.heap.size ≤ g) : Below w.heap.size w W' := h.grown hg h.size (fun q hq => by cases hq; exact hge)

theorem far_ne {w w' : World} {g b : Nat} {xs : List Value} (h : Row w b xs) (hg : w.grownBy w' (some g)) (hne : b < g) : Row w' b xs := h.far hg (by intro e; have := Option.some.inj e; omega)

end Go.Proofs.Ytpjfampfhofeaaa
