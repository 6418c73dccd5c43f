/- Rising lists: the program's look. -/
import Derived.Test.YtmpjebkjopfejaaGreatMgRb
namespace Go.Proofs.YtmpjebkjopfejaaGreat
open Go.ChangeShapes Go.WideShapes Go.ChangeAt Go.RowKit

/-- Each number is above the one ahead of it. -/
def Ris (xs : List Int) : Prop := ∀ (k : Nat) (x y : Int), xs[k]? = some x → xs[k + 1]? = some y → x < y

theorem Ris.pair {xs : List Int} (h : Ris xs) : xs.Pairwise (· < ·) := by
  induction xs with
  | nil => exact .nil
  | cons a r ih =>
    have hr : Ris r := fun k x y h1 h2 => h (k + 1) x y (by simpa using h1) (by simpa using h2)
    have hp := ih hr
    refine List.pairwise_cons.2 ⟨fun y hy => ?_, hp⟩
    cases r with
    | nil => simp at hy
    | cons b r =>
      have hab := h 0 a b rfl rfl
      rcases List.mem_cons.1 hy with rfl | hy
      · exact hab
      · have := (List.pairwise_cons.1 hp).1 y hy
        omega
theorem Ris.of_pair {xs : List Int} (h : xs.Pairwise (· < ·)) : Ris xs := fun k x y h1 h2 => by
  obtain ⟨i1, rfl⟩ := List.getElem?_eq_some_iff.1 h1
  obtain ⟨i2, rfl⟩ := List.getElem?_eq_some_iff.1 h2
  exact List.pairwise_iff_getElem.1 h k (k + 1) i1 i2 (by omega)

set_option maxHeartbeats 1000000 in
theorem rising_c (a : Option Addr) (cap : Nat) (xs : List Int) (hl : xs.length ≤ 4294967296) (w : World) (h : Sq w a (ints xs)) :
    Calls Tryz.prog 112 #[.slice a xs.length cap] w fun e w' => ∃ b, e = .returned (.bool b) ∧ (b = true ↔ Ris xs) ∧ Below w.heap.size w w' := by
  have H : Hid (Sq w a (ints xs)) := h
  clear h
  go_enter Tryz.func112, Tryz.ntmps112
  go_wp2_with fail
  go_loopw [3] (fun i wr => ∃ j : Nat, j ≤ xs.length ∧ i = .int .i64 (j + 1 : Int) ∧ (∀ (k : Nat) (x y : Int), k + 1 < j + 1 → xs[k]? = some x → xs[k + 1]? = some y → x < y) ∧ Below w.heap.size w wr) (fun i _ => xs.length + 1 - (intOf i).toNat)
  case atStart => exact ⟨0, Nat.zero_le _, rfl, fun k x y h => by omega, Below.refl _ _⟩
  case round =>
    obtain ⟨j, hj, rfl, he, hb⟩ := hrel
    have HE : Hid (∀ (k : Nat) (x y : Int), k + 1 < j + 1 → xs[k]? = some x → xs[k + 1]? = some y → x < y) := he
    have HB : Hid (Below w.heap.size w wr) := hb
    clear he hb
    by_cases hlt : j + 1 < xs.length
    · have hi0 : (0 : Int) ≤ (j : Int) + 1 := by omega
      have hi1 : (j : Int) + 1 < (xs.length : Int) := by omega
      have hi2 : (0 : Int) ≤ (j : Int) := by omega
      have hi3 : (j : Int) < (xs.length : Int) := by omega
      have hs1 : (j : Int) + 1 - 1 = j := by omega
      have HX : Hid (xs[j]? = some xs[j]) := List.getElem?_eq_getElem (by omega)
      have HY : Hid (xs[j + 1]? = some xs[j + 1]) := List.getElem?_eq_getElem hlt
      obtain ⟨p, rfl, _, c0⟩ := (H.out.below HB.out).cell j _ (ints_at xs j (by omega))
      obtain ⟨p', hp', _, c1⟩ := (H.out.below HB.out).cell (j + 1) _ (ints_at xs (j + 1) hlt)
      cases hp'
      rw [show p.add (j + 1) = ⟨p.block, p.off + (j + 1), none⟩ by simp [Addr.add]] at c1
      have ht : ((j : Int) + 1).toNat = j + 1 := by omega
      generalize xs[j] = x at c0 HX
      generalize xs[j + 1] = y at c1 HY
      have m0 := Beh.cell c0
      have m1 := Beh.cell c1
      have hsome := beh_some wr
      clear c0 c1
      by_cases hc : y ≤ x
      · have hd : decide (y ≤ x) = true := decide_eq_true hc
        go_wp2_with fail
        refine wp_region_beh (by kernel_rfl) (by kernel_rfl) ?_
        repeat (go_big_quiet_step (fail))
        refine wpQuiet_nil ?_
        rintro ⟨w2, hb2⟩
        have HB4 : Hid (Below w.heap.size w w2) := below_then HB.out hb2
        go_wp2_with fail
        go_ret
        refine ⟨false, rfl, ⟨fun h => by simp at h, fun h => ?_⟩, HB4.out⟩
        have := h j x y HX.out HY.out
        omega
      · have hd : decide (y ≤ x) = false := decide_eq_false hc
        go_wp2_with fail
        refine wp_region_beh (by kernel_rfl) (by kernel_rfl) ?_
        repeat (go_big_quiet_step (fail))
        refine wpQuiet_nil ?_
        rintro ⟨w2, hb2⟩
        have HB4 : Hid (Below w.heap.size w w2) := below_then HB.out hb2
        have HE1 : Hid (∀ (k : Nat) (x y : Int), k + 1 < j + 1 + 1 → xs[k]? = some x → xs[k + 1]? = some y → x < y) := fun k x' y' hk h1 h2 => by
          by_cases e : k = j
          · subst e
            rw [HX.out] at h1
            rw [HY.out] at h2
            cases h1; cases h2
            omega
          · exact HE.out k x' y' (by omega) h1 h2
        go_wp2_with fail
        exact ⟨⟨j + 1, by omega, by go_num, HE1.out, HB4.out⟩, by simp [intOf]; omega⟩
    · go_wp2_with fail
      go_ret
      refine ⟨true, rfl, ⟨fun _ k x y h1 h2 => ?_, fun _ => rfl⟩, HB.out⟩
      exact HE.out k x y (by have := (List.getElem?_eq_some_iff.1 h2).1; omega) h1 h2
end Go.Proofs.YtmpjebkjopfejaaGreat
