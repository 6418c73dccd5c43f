/- TextNum: the specification's. -/
import Derived.Test.YtccilaffmonbdaaDoorNumP
namespace Go.Proofs.YtccilaffmonbdaaDoor
open Go.ChangeShapes Go.WideShapes Go.ChangeAt Go.RowKit

theorem ret_two {a b : Int} {x y : Bool} (h : a = b) (h' : x = y) : Ending.returned (.tuple #[.int .i64 a, .bool x]) = .returned (.tuple #[.int .i64 b, .bool y]) := by rw [h, h']

theorem get_list (s : ByteArray) (k : Nat) (h : k < s.size) : s.data.toList[k]? = some s[k] := by
  rw [List.getElem?_eq_getElem (by simpa using h)]; rfl

theorem digit_no {b : UInt8} (h : (b.toNat : Int) < 48 ∨ 57 < (b.toNat : Int)) : Lib.digitVal b = none := by
  unfold Lib.digitVal; rw [if_neg (by omega)]
theorem digit_yes {b : UInt8} (h : 48 ≤ (b.toNat : Int)) (h' : (b.toNat : Int) ≤ 57) : Lib.digitVal b = some (b.toNat - 48) := by
  unfold Lib.digitVal; rw [if_pos (by omega)]

theorem specTextNum_short (s : ByteArray) (w : World) (h : s.size < 1 ∨ 10 < s.size) (hs : s.size ≤ maxLen) :
    Calls Tryd.prog 54 #[.string s] w fun e w' => e = .returned (.tuple #[.int .i64 0, .bool false]) ∧ w' = w := by
  unfold maxLen at hs
  rcases h with h | h
  · go_enter Tryd.func54, Tryd.ntmps54
    go_wp2_with fail
    go_ret2
    exact ⟨rfl, rfl⟩
  · have h' : ¬ s.size < 1 := by omega
    go_enter Tryd.func54, Tryd.ntmps54
    go_wp2_with fail
    go_ret2
    exact ⟨rfl, rfl⟩

set_option maxHeartbeats 1000000 in
theorem specTextNum_c (s : ByteArray) (w : World) (h1 : 1 ≤ s.size) (h2 : s.size ≤ 10) :
    Calls Tryd.prog 54 #[.string s] w fun e w' => e = .returned (.tuple #[.int .i64 (tnR s.data.toList).1, .bool (tnR s.data.toList).2]) ∧ Below w.heap.size w w' := by
  go_enter Tryd.func54, Tryd.ntmps54
  go_wp2_with fail
  go_loop [4, 5] (fun n i => ∃ k m : Nat, k ≤ s.size ∧ i = .int .i64 k ∧ n = .int .i64 m ∧ m < 10 ^ k ∧ Lib.decFrom 0 (s.data.toList.take k) = some m) (fun _ i => s.size - (intOf i).toNat)
  case atStart => exact ⟨0, 0, Nat.zero_le _, rfl, rfl, by decide, rfl⟩
  case round =>
    obtain ⟨k, m, hk, rfl, rfl, hm, hd⟩ := hrel
    have Hd : Hid (Lib.decFrom 0 (s.data.toList.take k) = some m) := hd
    have Hm : Hid (m < 10 ^ k) := hm
    clear hd hm
    by_cases hlt : k < s.size
    · have Hg : Hid (s.data.toList[k]? = some s[k]) := get_list s k hlt
      have hb : m ≤ 999999999 := by
        have := Hm.out
        have : 10 ^ k ≤ 10 ^ 9 := Nat.pow_le_pow_right (by omega) (by omega)
        omega
      have Hno : Hid ((s[k].toNat : Int) < 48 ∨ 57 < (s[k].toNat : Int) → tnR s.data.toList = (0, false)) := fun h => by rw [tnR, decFrom_none _ 0 k _ Hg.out (digit_no h)]
      go_wp2_with fail
      · go_ret2
        exact ⟨by rw [Hno.out (by omega)]; rfl, Below.refl _ _⟩
      · refine ⟨⟨k + 1, m * 10 + (s[k].toNat - 48), by omega, by go_num, ?_, ?_, ?_⟩, by simp [intOf]; omega⟩
        · have : ((m * 10 + (s[k].toNat - 48) : Nat) : Int) = (m : Int) * 10 + ((s[k].toNat : Int) - 48) := by omega
          rw [this]
        · have := Hm.out
          rw [Nat.pow_succ]
          omega
        · exact Lib.decFrom_take _ k 0 m _ _ Hd.out Hg.out (digit_yes (by omega) (by omega))
      · go_ret2
        exact ⟨by rw [Hno.out (by omega)]; rfl, Below.refl _ _⟩
    · have hks : k = s.size := by omega
      have hb : m ≤ 10000000000 := by
        have := Hm.out
        have : 10 ^ k ≤ 10 ^ 10 := Nat.pow_le_pow_right (by omega) (by omega)
        omega
      have Hf : Hid (Lib.decFrom 0 s.data.toList = some m) := by
        have := Hd.out
        rw [List.take_of_length_le (by simp; omega)] at this
        exact this
      clear Hd Hm hks
      by_cases hn : numL m = s.data.toList
      · have Hr : Hid (tnR s.data.toList = ((m : Int), true)) := by show tnR _ = _; rw [tnR, Hf.out]; simp only [if_pos hn]
        have Hs : Hid ((⟨(numL m).toArray⟩ : ByteArray) = s) := by show _ = _; rw [hn]
        clear hn Hf
        go_wp2_with fail
        refine (specNumText_all _ _).mono ?_
        rintro e w1 ⟨rfl, hb1⟩
        rw [Hs.out]
        go_wp2_with fail
        go_ret2
        exact ⟨by rw [Hr.out]; rfl, hb1⟩
      · have Hr : Hid (tnR s.data.toList = (0, false)) := by show tnR _ = _; rw [tnR, Hf.out]; simp only [if_neg hn]
        have hne : (numL m == s.toList) = false := by rw [ByteArray.toList_eq]; simpa using hn
        clear hn Hf
        go_wp2_with fail
        refine (specNumText_all _ _).mono ?_
        rintro e w1 ⟨rfl, hb1⟩
        go_wp2_with fail
        go_ret2
        exact ⟨by rw [Hr.out]; rfl, hb1⟩

/-- The specification's TextNum, at every text. -/
theorem specTextNum_all (s : ByteArray) (w : World) (hs : s.size ≤ maxLen) :
    Calls Tryd.prog 54 #[.string s] w fun e w' => e = .returned (.tuple #[.int .i64 (tnR s.data.toList).1, .bool (tnR s.data.toList).2]) ∧ Below w.heap.size w w' := by
  by_cases h : s.size < 1 ∨ 10 < s.size
  · have e : tnR s.data.toList = (0, false) := by
      rcases h with h | h
      · have hz : s.data.size = 0 := by have : s.size = s.data.size := rfl; omega
        have : s.data.toList = [] := by rw [← List.length_eq_zero_iff, Array.length_toList]; exact hz
        rw [this]; exact tn_nil
      · exact tn_long (by simpa using h)
    rw [e]
    exact (specTextNum_short s w h hs).mono fun e w' ⟨he, hw⟩ => ⟨he, by rw [hw]; exact Below.refl _ _⟩
  · exact specTextNum_c s w (by omega) (by omega)
end Go.Proofs.YtccilaffmonbdaaDoor
