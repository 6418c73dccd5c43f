/- Slices of strings: marked, and found marked. -/
import Derived.Test.YtpdmhpcejmankaaDoorSlS
namespace Go.Proofs.YtpdmhpcejmankaaDoor
open Go.ChangeShapes Go.WideShapes Go.ChangeAt Go.RowKit

/-- n marks from k on. -/
def marks (k : Nat) : Nat → List Value
  | 0 => []
  | n + 1 => marks k n ++ [.string ⟨(mkL (k + n)).toArray⟩]

theorem marks_length (k : Nat) : ∀ n, (marks k n).length = n
  | 0 => rfl
  | n + 1 => by rw [marks, List.length_append, marks_length k n]; rfl

theorem marks_get (k : Nat) : ∀ (n i : Nat), i < n → (marks k n)[i]? = some (.string ⟨(mkL (k + i)).toArray⟩)
  | 0, i, h => by omega
  | n + 1, i, h => by
    rw [marks]
    by_cases e : i = n
    · subst e
      rw [List.getElem?_append_right (by rw [marks_length]; omega), marks_length]
      simp
    · rw [List.getElem?_append_left (by rw [marks_length]; omega)]
      exact marks_get k n i (by omega)

theorem marks_step (k j : Nat) (xs : List Value) (h : j < xs.length) : (marks k j ++ xs.drop j).set j (.string ⟨(mkL (k + j)).toArray⟩) = marks k (j + 1) ++ xs.drop (j + 1) := by
  rw [marks, List.append_assoc, List.set_append_right _ _ (by rw [marks_length]; omega), marks_length, Nat.sub_self, List.drop_eq_getElem_cons h]
  rfl

theorem grown_below {w W w' : World} {r : Option Nat} (h : w.grownBy W r) (hb : Below W.heap.size W w') : w.grownBy w' r :=
  Lib.grownBy_trans h ⟨hb.os, hb.tape, hb.output, hb.size, fun i hi _ => hb.block i hi⟩

set_option maxHeartbeats 1000000 in
theorem markStringS_c (g cap k0 : Nat) (xs : List Value) (hl : xs.length ≤ 2147483648) (hk : 1 ≤ k0) (hk' : k0 ≤ 1000) (w : World) (h : Row w g xs) :
    Calls Tryd.prog 23 #[.slice (some ⟨g, 0, none⟩) xs.length cap, .int .i64 k0] w fun e w' => e = .returned (.int .i64 ((k0 : Int) + xs.length)) ∧ w.grownBy w' (some g) ∧ Row w' g (marks k0 xs.length) := by
  have H : Hid (Row w g xs) := h
  clear h
  go_enter Tryd.func23, Tryd.ntmps23
  go_wp2_with fail
  go_loopw [1, 5] (fun k i wr => ∃ j : Nat, j ≤ xs.length ∧ i = .int .i64 j ∧ k = .int .i64 ((k0 + j : Nat) : Int) ∧ w.grownBy wr (some g) ∧ Row wr g (marks k0 j ++ xs.drop j)) (fun _ i _ => xs.length - (intOf i).toNat)
  case atStart => exact ⟨0, Nat.zero_le _, rfl, rfl, ⟨rfl, rfl, rfl, Nat.le_refl _, fun _ _ _ => rfl⟩, by simpa [marks] using H.out⟩
  case round =>
    obtain ⟨j, hj, rfl, rfl, hg, hr⟩ := hrel
    have HG : Hid (w.grownBy wr (some g)) := hg
    have HR : Hid (Row wr g (marks k0 j ++ xs.drop j)) := hr
    clear hg hr
    by_cases hlt : j < xs.length
    · have hi1 : (j : Int) < (xs.length : Int) := by omega
      have hi0 : (0 : Int) ≤ (j : Int) := by omega
      go_wp2_with fail
      refine (markText_c (k0 + j) (by omega) (by omega) _).mono ?_
      rintro e w1 ⟨rfl, hb1⟩
      have HR1 : Hid (Row w1 g (marks k0 j ++ xs.drop j)) := HR.out.below hb1
      have HG1 : Hid (w.grownBy w1 (some g)) := grown_below HG.out hb1
      have hlen : (marks k0 j ++ xs.drop j).length = xs.length := by rw [List.length_append, marks_length, List.length_drop]; omega
      obtain ⟨u, hu⟩ : ∃ u, w1.cell? ⟨g, j, none⟩ = some u := ⟨_, HR1.out.cell j _ (List.getElem?_eq_getElem (by rw [hlen]; exact hlt))⟩
      have hf : w1.frozen? ⟨g, j, none⟩ = false := HR1.out.free j
      have HS : Hid (Row (w1.setCell ⟨g, j, none⟩ (.string ⟨(mkL (k0 + j)).toArray⟩)) g (marks k0 (j + 1) ++ xs.drop (j + 1))) := by
        have := HR1.out.set j (by rw [hlen]; exact hlt) (.string ⟨(mkL (k0 + j)).toArray⟩)
        rw [marks_step k0 j xs hlt] at this
        exact this
      clear hb1 hlen HR HG
      go_wp2_with fail
      go_roundw
      case rel => exact ⟨j + 1, by omega, by go_num, by go_num, Lib.grownBy_setB HG1.out _ _, HS.out⟩
      case measure => simp [intOf]; omega
    · have hje : j = xs.length := by omega
      subst hje
      go_wp2_with fail
      go_ret
      exact ⟨by simp, HG.out, by have := HR.out; simpa using this⟩

set_option maxHeartbeats 1000000 in
theorem heldStringS_c (g cap k0 n : Nat) (hl : n ≤ 2147483648) (hk : 1 ≤ k0) (hk' : k0 ≤ 1000) (w : World) (h : Row w g (marks k0 n)) :
    Calls Tryd.prog 24 #[.slice (some ⟨g, 0, none⟩) n cap, .int .i64 k0] w fun e w' => e = .returned (.int .i64 ((k0 : Int) + n)) ∧ Below w.heap.size w w' := by
  have H : Hid (Row w g (marks k0 n)) := h
  clear h
  go_enter Tryd.func24, Tryd.ntmps24
  go_wp2_with fail
  go_loopw [1, 5] (fun k i wr => ∃ j : Nat, j ≤ n ∧ i = .int .i64 j ∧ k = .int .i64 ((k0 + j : Nat) : Int) ∧ Below w.heap.size w wr) (fun _ i _ => n - (intOf i).toNat)
  case atStart => exact ⟨0, Nat.zero_le _, rfl, rfl, Below.refl _ _⟩
  case round =>
    obtain ⟨j, hj, rfl, rfl, hb⟩ := hrel
    have HB : Hid (Below w.heap.size w wr) := hb
    have HR : Hid (Row wr g (marks k0 n)) := H.out.below hb
    clear hb
    by_cases hlt : j < n
    · have hi1 : (j : Int) < (n : Int) := by omega
      have hi0 : (0 : Int) ≤ (j : Int) := by omega
      have hc : wr.cell? ⟨g, j, none⟩ = some (.string ⟨(mkL (k0 + j)).toArray⟩) := HR.out.cell j _ (marks_get k0 n j hlt)
      have s1 : g < wr.heap.size := HR.out.lt
      go_wp2_with fail
      go_region_held3 (fun w' => Below wr.heap.size wr w' ∧ w'.cell? ⟨g, j, none⟩ = some (.string ⟨(mkL (k0 + j)).toArray⟩))
        ((first | (refine ⟨by with_reducible assumption, ?_⟩; exact (Below.cell (p := ⟨g, j, none⟩) (by with_reducible assumption) s1).trans hc) | (refine ⟨behind (by with_reducible assumption) (And.left (by with_reducible assumption)), ?_⟩; exact (Below.cell (p := ⟨g, j, none⟩) (behind (by with_reducible assumption) (And.left (by with_reducible assumption))) s1).trans hc) | (refine ⟨by go_grown, ?_⟩; simpa using hc)))
        ((go_at_call 50; refine (markText_c (k0 + j) (by omega) (by omega) _).mono ?_; rintro e w1 ⟨rfl, hb1⟩))
      go_split_ands
      have HB1 : Hid (Below w.heap.size w w1) := below_then HB.out (show Below wr.heap.size wr w1 by with_reducible assumption)
      go_wp2_with fail
      go_roundw
      case rel => exact ⟨j + 1, by omega, by go_num, by go_num, HB1.out⟩
      case measure => simp [intOf]; omega
    · have hje : j = n := by omega
      subst hje
      go_wp2_with fail
      go_ret
      exact ⟨by simp, HB.out⟩

theorem mark_from_one (g cap : Nat) (ps : List (List UInt8)) (hl : ps.length ≤ 2147483648) (w : World) (h : Row w g (strs ps)) :
    Calls Tryd.prog 23 #[.slice (some ⟨g, 0, none⟩) ps.length cap, .int .i64 1] w fun e w' => e = .returned (.int .i64 (1 + (ps.length : Int))) ∧ w.grownBy w' (some g) ∧ Row w' g (marks 1 ps.length) := by
  have c := markStringS_c g cap 1 (strs ps) (by rw [strs_length]; exact hl) (by omega) (by omega) w h
  rw [strs_length] at c
  exact c

theorem held_from_one (g cap n : Nat) (hl : n ≤ 2147483648) (w : World) (h : Row w g (marks 1 n)) :
    Calls Tryd.prog 24 #[.slice (some ⟨g, 0, none⟩) n cap, .int .i64 1] w fun e w' => e = .returned (.int .i64 (1 + (n : Int))) ∧ Below w.heap.size w w' :=
  heldStringS_c g cap 1 n hl (by omega) (by omega) w h
end Go.Proofs.YtpdmhpcejmankaaDoor
