/- Accounts: the specification's WordOk, AccountsOk and AccountAt. -/
import Derived.Test.YtpjfampfhofeaaaShL
import Derived.Test.YtpjfampfhofeaaaTopG
import Derived.Test.YtpjfampfhofeaaaCmS
namespace Go.Proofs.Ytpjfampfhofeaaa
open Go.ChangeShapes Go.WideShapes Go.ChangeAt Go.RowKit

theorem l11Used_c (n : Int) (w : World) : Calls Try.prog 49 #[.int .i64 n] w fun e w' => e = .returned (.bool (useB n)) ∧ w' = w := by
  unfold useB
  by_cases h0 : 0 ≤ n
  · go_enter Try.func49, Try.ntmps49
    go_wp2
    go_ret
    exact ⟨by simp [h0], rfl⟩
  · go_enter Try.func49, Try.ntmps49
    go_wp2
    go_ret
    exact ⟨by simp; omega, rfl⟩
theorem letB_no {s : ByteArray} {k : Nat} (h : k < s.size) (hn : letB s[k] = false) : wordB s = false := by
  unfold wordB
  rw [Bool.and_eq_false_iff]
  left
  rw [List.all_eq_false]
  exact ⟨s[k], List.getElem_mem (by simpa using h), by simp [hn]⟩
set_option maxHeartbeats 1000000 in
theorem specWordOk_c (s : ByteArray) (hs : s.size ≤ 1048576) (w : World) : Calls Try.prog 22 #[.string s] w fun e w' => e = .returned (.bool (wordB s)) ∧ w' = w := by
  go_enter Try.func22, Try.ntmps22
  go_wp2_with fail
  go_loopw [3] (fun i wr => ∃ k : Nat, k ≤ s.size ∧ i = .int .i64 k ∧ (s.data.toList.take k).all letB = true ∧ wr = w) (fun i _ => s.size - (intOf i).toNat)
  case atStart => exact ⟨0, Nat.zero_le _, rfl, by simp, rfl⟩
  case round =>
    obtain ⟨k, hk, rfl, hall, rfl⟩ := hrel
    have HA : Hid ((s.data.toList.take k).all letB = true) := hall
    clear hall
    by_cases hlt : k < s.size
    · have hi0 : (0 : Int) ≤ (k : Int) := by omega
      have hi1 : (k : Int) < (s.size : Int) := by omega
      have HN : Hid (letB s[k] = false → wordB s = false) := fun h => letB_no hlt h
      have HX : Hid (letB s[k] = true → (s.data.toList.take (k + 1)).all letB = true) := fun h => by
        rw [List.take_add_one, List.all_append, HA.out]
        rw [List.getElem?_eq_getElem (by simpa using hlt)]
        simp only [Option.toList_some, List.all_cons, List.all_nil, Bool.and_true, Bool.true_and]
        exact h
      by_cases h1 : (s[k].toNat : Int) < 97
      · have HW : Hid (wordB s = false) := HN.out (by simp [letB]; omega)
        go_wp2_with fail
        go_ret
        exact ⟨by rw [HW.out]; rfl, rfl⟩
      · by_cases h2 : (122 : Int) < (s[k].toNat : Int)
        · have HW : Hid (wordB s = false) := HN.out (by simp [letB]; omega)
          go_wp2_with fail
          go_ret
          exact ⟨by rw [HW.out]; rfl, rfl⟩
        · have HI : Hid ((s.data.toList.take (k + 1)).all letB = true) := HX.out (by simp [letB]; omega)
          go_wp2_with fail
          go_roundw
          case rel => exact ⟨k + 1, by omega, by go_num, HI.out, by simp⟩
          case measure => simp [intOf]; omega
    · have HE : Hid (s.data.toList.all letB = true) := by
        have h := HA.out
        rwa [List.take_of_length_le (by have : s.data.toList.length = s.size := rfl; omega)] at h
      have HW : Hid (wordB s = (decide (1 ≤ s.size) && decide (s.size ≤ 8))) := by show _ = _; rw [wordB, HE.out, Bool.true_and]
      by_cases h1 : 1 ≤ s.size
      · have h2 : (1 : Int) ≤ (s.size : Int) := by omega
        go_wp2_with fail
        go_ret
        exact ⟨by rw [HW.out]; simp [h1]; omega, rfl⟩
      · have h2 : ¬ (1 : Int) ≤ (s.size : Int) := by omega
        go_wp2_with fail
        go_ret
        exact ⟨by rw [HW.out]; simp [h1], rfl⟩
end Go.Proofs.Ytpjfampfhofeaaa
