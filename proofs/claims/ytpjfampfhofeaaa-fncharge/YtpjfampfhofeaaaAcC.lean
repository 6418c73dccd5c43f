/- Lists of accounts found marked; two answers held against each other. -/
import Derived.Test.YtpjfampfhofeaaaAcB
import Derived.Deep.RegionHeld3
namespace Go.Proofs.Ytpjfampfhofeaaa
open Go.ChangeShapes Go.WideShapes Go.ChangeAt Go.RowKit

theorem heldAccountS_nil (a : Option Addr) (cap k0 : Nat) (w : World) : Calls Try.prog 31 #[.slice a 0 cap, .int .i64 (k0 : Int)] w fun e w' => e = .returned (.int .i64 (k0 : Int)) ∧ Below w.heap.size w w' := by
  go_enter Try.func31, Try.ntmps31
  go_wp2_with fail
  go_loopw [1, 5] (fun k i wr => i = .int .i64 0 ∧ k = .int .i64 (k0 : Int) ∧ wr = w) (fun _ _ _ => 0)
  case atStart => exact ⟨rfl, rfl, rfl⟩
  case round =>
    obtain ⟨rfl, rfl, rfl⟩ := hrel
    go_wp2_with fail
    go_ret
    exact ⟨rfl, Below.refl _ _⟩
set_option maxRecDepth 100000 in
set_option maxHeartbeats 8000000 in
theorem heldAccountS_c (g cap k0 n : Nat) (hl : n ≤ 1048576) (hk1 : 1 ≤ k0) (hk : k0 ≤ 1000000000) (w : World) (h : Row w g (upAc k0 n)) :
    Calls Try.prog 31 #[.slice (some ⟨g, 0, none⟩) n cap, .int .i64 (k0 : Int)] w fun e w' => e = .returned (.int .i64 ((k0 + 3 * n : Nat) : Int)) ∧ Below w.heap.size w w' := by
  have H : Hid (Row w g (upAc k0 n)) := h
  clear h
  go_enter Try.func31, Try.ntmps31
  go_wp2_with fail
  go_loopw [1, 5] (fun k i wr => ∃ j : Nat, j ≤ n ∧ i = .int .i64 j ∧ k = .int .i64 ((k0 + 3 * j : Nat) : Int) ∧ Below w.heap.size w wr) (fun _ i _ => n - (intOf i).toNat)
  case atStart => exact ⟨0, Nat.zero_le _, rfl, rfl, Below.refl _ _⟩
  case round =>
    obtain ⟨j, hj, rfl, rfl, hb⟩ := hrel
    have HB : Hid (Below w.heap.size w wr) := hb
    have HR : Hid (Row wr g (upAc k0 n)) := H.out.below hb
    clear hb
    by_cases hlt : j < n
    · have hi1 : (j : Int) < (n : Int) := by omega
      have hi0 : (0 : Int) ≤ (j : Int) := by omega
      obtain ⟨K, hK⟩ : ∃ K : Int, K = ((k0 + 3 * j : Nat) : Int) := ⟨_, rfl⟩
      rw [← hK]
      have HK : Hid (K = ((k0 + 3 * j : Nat) : Int)) := hK
      have hK0 : 0 ≤ K := by omega
      have hK1 : K ≤ 1000000000000 := by omega
      have HM0 : Hid (∀ W : World, Calls Try.prog 59 #[.int .i64 K] W fun e w' => e = .returned (.string ⟨(mkL (k0 + 3 * j + 0)).toArray⟩) ∧ Below W.heap.size W w') := fun W => by
        have h := markText_c (k0 + 3 * j + 0) (by omega) (by omega) W
        rwa [show ((k0 + 3 * j + 0 : Nat) : Int) = K by omega] at h
      have HE0 : Hid ((upAc k0 n)[j * 3 + 0]? = some (.string ⟨(mkL (k0 + 3 * j + 0)).toArray⟩)) := by
        show _ = _
        rw [upAc_get k0 n j 0 hlt (by decide)]
        simp [mkAc] <;> omega
      have HE1 : Hid ((upAc k0 n)[j * 3 + 1]? = some (.int .i64 (K + 1))) := by
        show _ = _
        rw [upAc_get k0 n j 1 hlt (by decide)]
        simp [mkAc] <;> omega
      have HE2 : Hid ((upAc k0 n)[j * 3 + 2]? = some (.int .i64 (K + 1 + 1))) := by
        show _ = _
        rw [upAc_get k0 n j 2 hlt (by decide)]
        simp [mkAc] <;> omega
      clear hK
      have hsome := beh_some wr
      have b0 := Beh.row HR.out (j * 3) _ HE0.out
      go_wp2_with fail
      refine wp_region_beh (by kernel_rfl) (by kernel_rfl) ?_
      repeat (go_big_quiet_step (first | (go_at_call 59; with_reducible exact calls_beh (HM0.out _))))
      refine wpQuiet_nil ?_
      rintro ⟨w1, hb1⟩
      have Hb1 : Hid (Below wr.heap.size wr w1) := hb1
      have HB1 : Hid (Below w.heap.size w w1) := below_then HB.out Hb1.out
      clear b0 hsome
      have e1 := (HR.out.below Hb1.out).cell (j * 3 + 1) _ HE1.out
      have e2 := (HR.out.below Hb1.out).cell (j * 3 + 2) _ HE2.out
      go_wp2_with fail
      exact ⟨⟨j + 1, by omega, by go_num, by have := HK.out; congr 1; omega, HB1.out⟩, by simp [intOf]; omega⟩
    · obtain rfl : j = n := by omega
      go_wp2_with fail
      go_ret
      exact ⟨rfl, HB.out⟩

theorem held_ansAc {B T k0 n : Nat} {w : World} {v : Value} (h : AnsAc B T w n (upAc k0 n) v) (hl : n ≤ 1048576) (hk1 : 1 ≤ k0) (hk : k0 ≤ 1000000000) :
    Calls Try.prog 31 #[v, .int .i64 (k0 : Int)] w fun e w' => e = .returned (.int .i64 ((k0 + 3 * n : Nat) : Int)) ∧ Below w.heap.size w w' := by
  obtain ⟨hx, a, cap, rfl, h⟩ := h
  rcases h with rfl | ⟨g, rfl, hg, hT, hr⟩
  · exact heldAccountS_nil a cap k0 w
  · exact heldAccountS_c g cap k0 n hl hk1 hk w hr

/-- Two answers are held against each other. -/
theorem eq_ansAc {B B' T T' : Nat} {w : World} {xs : List Ac} {v v' : Value} (h : AnsAc B T w xs.length (flatAc xs) v) (h' : AnsAc B' T' w xs.length (flatAc xs) v') (hl : xs.length ≤ 1048576) :
    Calls Try.prog 27 #[v, v'] w fun e w' => e = .returned (.bool true) ∧ Below w.heap.size w w' := by
  obtain ⟨a, cap, rfl, h1⟩ := h.form
  obtain ⟨a', cap', rfl, h2⟩ := h'.form
  exact eqAccountS_c a a' cap cap' xs hl w h1 h2
end Go.Proofs.Ytpjfampfhofeaaa
