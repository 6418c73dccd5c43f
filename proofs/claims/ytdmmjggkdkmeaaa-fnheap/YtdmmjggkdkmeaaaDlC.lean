/- Lists of dues found marked; two answers held against each other. -/
import Derived.Test.YtdmmjggkdkmeaaaDlB
namespace Go.Proofs.Ytdmmjggkdkmeaaa
open Go.ChangeShapes Go.WideShapes Go.ChangeAt Go.RowKit

theorem plus_cellD {w : World} {g k0 n j q : Nat} {K K' : Int} (h : Row w g (upFrom k0 (2 * n))) (hj : j < n) (hq : q < 2) (hK : K = ((k0 + 2 * j : Nat) : Int)) (hK' : K' = K + q) : w.cell? ⟨g, j * 2 + q, none⟩ = some (.int .i64 K') := by
  rw [h.cell (j * 2 + q) _ (upFrom_get k0 (2 * n) (j * 2 + q) (by omega))]
  congr 2
  omega
set_option maxRecDepth 100000 in
set_option maxHeartbeats 8000000 in
theorem heldDueS_c (g cap k0 n : Nat) (hl : n ≤ 1048576) (hk : k0 ≤ 4294967296) (w : World) (h : Row w g (upFrom k0 (2 * n))) :
    Calls Try.prog 25 #[.slice (some ⟨g, 0, none⟩) n cap, .int .i64 (k0 : Int)] w fun e w' => e = .returned (.int .i64 ((k0 + 2 * n : Nat) : Int)) ∧ Below w.heap.size w w' := by
  have H : Hid (Row w g (upFrom k0 (2 * n))) := h
  clear h
  go_enter Try.func25, Try.ntmps25
  go_wp2_with fail
  go_loopw [1, 5] (fun k i wr => ∃ j : Nat, j ≤ n ∧ i = .int .i64 j ∧ k = .int .i64 ((k0 + 2 * j : Nat) : Int) ∧ Below w.heap.size w wr) (fun _ i _ => n - (intOf i).toNat)
  case atStart => exact ⟨0, Nat.zero_le _, rfl, rfl, Below.refl _ _⟩
  case round =>
    obtain ⟨j, hj, rfl, rfl, hb⟩ := hrel
    have HB : Hid (Below w.heap.size w wr) := hb
    have HR : Hid (Row wr g (upFrom k0 (2 * n))) := H.out.below hb
    clear hb
    by_cases hlt : j < n
    · have hi1 : (j : Int) < (n : Int) := by omega
      have hi0 : (0 : Int) ≤ (j : Int) := by omega
      obtain ⟨K, hK⟩ : ∃ K : Int, K = ((k0 + 2 * j : Nat) : Int) := ⟨_, rfl⟩
      rw [← hK]
      have HK : Hid (K = ((k0 + 2 * j : Nat) : Int)) := hK
      have hK0 : 0 ≤ K := by omega
      have hK1 : K ≤ 1000000000000 := by omega
      clear hK
      have d0 : wr.cell? ⟨g, j * 2, none⟩ = some (.int .i64 K) := plus_cellD (q := 0) HR.out hlt (by decide) HK.out (by omega)
      have d1 : wr.cell? ⟨g, j * 2 + 1, none⟩ = some (.int .i64 (K + 1)) := plus_cellD HR.out hlt (by decide) HK.out (by omega)
      go_wp2_with fail
      exact ⟨⟨j + 1, by omega, by go_num, by have := HK.out; congr 1; omega, HB.out⟩, by simp [intOf]; omega⟩
    · obtain rfl : j = n := by omega
      go_wp2_with fail
      go_ret
      exact ⟨rfl, HB.out⟩

theorem held_ansD {B T k0 n : Nat} {w : World} {v : Value} (h : AnsD B T w n (upFrom k0 (2 * n)) v) (hl : n ≤ 1048576) (hk : k0 ≤ 4294967296) :
    Calls Try.prog 25 #[v, .int .i64 (k0 : Int)] w fun e w' => e = .returned (.int .i64 ((k0 + 2 * n : Nat) : Int)) ∧ Below w.heap.size w w' := by
  obtain ⟨hx, a, cap, rfl, h⟩ := h
  rcases h with rfl | ⟨g, rfl, hg, hT, hr⟩
  · exact heldDueS_nil a cap k0 w
  · exact heldDueS_c g cap k0 n hl hk w hr

/-- Two answers are held against each other. -/
theorem eq_ansD {B B' T T' : Nat} {w : World} {xs : List Du} {v v' : Value} (h : AnsD B T w xs.length (flatD xs) v) (h' : AnsD B' T' w xs.length (flatD xs) v') (hl : xs.length ≤ 1048576) :
    Calls Try.prog 21 #[v, v'] w fun e w' => e = .returned (.bool true) ∧ Below w.heap.size w w' := by
  obtain ⟨a, cap, rfl, h1⟩ := h.form
  obtain ⟨a', cap', rfl, h2⟩ := h'.form
  exact eqDueS_c a a' cap cap' xs hl w h1 h2
end Go.Proofs.Ytdmmjggkdkmeaaa
