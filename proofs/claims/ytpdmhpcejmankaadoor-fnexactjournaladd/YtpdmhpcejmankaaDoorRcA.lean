/- RecordOk: the specification's and the program's. -/
import Derived.Test.YtpdmhpcejmankaaDoorBase
import Derived.Test.YtpdmhpcejmankaaDoorShelf
import Derived.Lib.IndexLaws
namespace Go.Proofs.YtpdmhpcejmankaaDoor
open Go.ChangeShapes Go.WideShapes Go.ChangeAt Go.RowKit

/-- The text of a record: 1 to 200 bytes, none of them 10. -/
def recB (l : List UInt8) : Bool := !l.contains 10 && (decide (1 ≤ l.length) && decide (l.length ≤ 200))

theorem rec_get (s : ByteArray) (k : Nat) (h : k < s.size) : s.data.toList[k]? = some s[k] := by
  rw [List.getElem?_eq_getElem (by simpa using h)]; rfl

theorem no_ten {l : List UInt8} (h : ∀ j : Nat, j < l.length → l[j]? ≠ some 10) : l.contains 10 = false := by
  cases e : l.contains 10
  · rfl
  · rw [List.contains_iff_mem] at e
    obtain ⟨j, hj, hh⟩ := List.getElem_of_mem e
    exact absurd (by rw [List.getElem?_eq_getElem hj, hh]) (h j hj)

theorem a_ten {l : List UInt8} {j : Nat} (h : l[j]? = some 10) : l.contains 10 = true := by
  rw [List.contains_iff_mem]
  exact List.mem_of_getElem? h

theorem indexByte_contains (l : List UInt8) : decide (0 ≤ Lib.indexByte l 10) = l.contains 10 := by
  by_cases h : 0 ≤ Lib.indexByte l 10
  · rw [decide_eq_true h]
    have e : Lib.indexByte l 10 = ((Lib.indexByte l 10).toNat : Nat) := by omega
    exact (a_ten (Lib.indexByte_some e).1).symm
  · rw [decide_eq_false h]
    have e : Lib.indexByte l 10 = -1 := by have := Lib.indexByte_ge l 10; omega
    exact (no_ten fun j _ => Lib.indexByte_none e j).symm

theorem rec_size (s : ByteArray) : s.data.toList.length = s.size := by simp

theorem specRecordOk_c (s : ByteArray) (w : World) (hs : s.size ≤ maxLen) :
    Calls Tryd.prog 44 #[.string s] w fun e w' => e = .returned (.bool (recB s.data.toList)) ∧ w' = w := by
  unfold maxLen at hs
  have Hl := rec_size s
  go_enter Tryd.func44, Tryd.ntmps44
  go_wp2_with fail
  go_loop [3] (fun i => ∃ k : Nat, k ≤ s.size ∧ i = .int .i64 k ∧ ∀ j : Nat, j < k → s.data.toList[j]? ≠ some 10) (fun i => s.size - (intOf i).toNat)
  case atStart => exact ⟨0, Nat.zero_le _, rfl, fun _ h => absurd h (Nat.not_lt_zero _)⟩
  case round =>
    obtain ⟨k, hk, rfl, hno⟩ := hrel
    have Hno : Hid (∀ j : Nat, j < k → s.data.toList[j]? ≠ some 10) := hno
    clear hno
    by_cases hlt : k < s.size
    · have Hg : Hid (s.data.toList[k]? = some s[k]) := rec_get s k hlt
      by_cases h10 : s[k] = 10
      · have h10' : s[k].toNat = 10 := by rw [h10]; rfl
        have Hr : Hid (recB s.data.toList = false) := by
          show _ = _
          rw [recB, a_ten (by rw [Hg.out, h10])]; rfl
        go_wp2_with fail
        go_ret
        exact ⟨by rw [Hr.out]; first | done | rfl, rfl⟩
      · have h10' : ¬ s[k].toNat = 10 := fun e => h10 (UInt8.toNat_inj.1 (by rw [e]; rfl))
        have Hs : Hid (∀ j : Nat, j < k + 1 → s.data.toList[j]? ≠ some 10) := fun j hj => by
          rcases Nat.lt_succ_iff_lt_or_eq.1 hj with h | rfl
          · exact Hno.out j h
          · rw [Hg.out]; intro e; exact h10 (Option.some.inj e)
        go_wp2_with fail
        go_round
        case rel => exact ⟨k + 1, by omega, by go_num, Hs.out⟩
        case measure => simp [intOf]; omega
    · have hks : k = s.size := by omega
      have Hc : Hid (s.data.toList.contains 10 = false) := no_ten fun j hj => Hno.out j (by omega)
      clear Hno
      subst hks
      by_cases h1 : 1 ≤ s.size
      · have Hr : Hid (recB s.data.toList = decide ((s.size : Int) ≤ 200)) := by
          show _ = _
          rw [recB, Hc.out, Hl, decide_eq_true h1]
          simp only [Bool.not_false, Bool.true_and]
          exact decide_eq_decide.2 (by omega)
        clear Hl
        go_wp2_with fail
        go_ret
        exact ⟨by rw [Hr.out]; first | done | rfl, rfl⟩
      · have Hr : Hid (recB s.data.toList = false) := by show _ = _; rw [recB, Hc.out, Hl]; simp [h1]
        clear Hl
        go_wp2_with fail
        go_ret
        exact ⟨by rw [Hr.out]; first | done | rfl, rfl⟩

theorem betw_c (a b c : Int) (w : World) :
    Calls Tryd.prog 49 #[.int .i64 a, .int .i64 b, .int .i64 c] w fun e w' => e = .returned (.bool (decide (a ≤ b) && decide (b ≤ c))) ∧ w' = w := by
  by_cases h0 : a ≤ b
  · by_cases h1 : b ≤ c
    · go_enter Tryd.func49, Tryd.ntmps49
      go_wp2
      go_ret
      exact ⟨by simp [h1] <;> omega, rfl⟩
    · go_enter Tryd.func49, Tryd.ntmps49
      go_wp2
      go_ret
      exact ⟨by simp [h1] <;> omega, rfl⟩
  · go_enter Tryd.func49, Tryd.ntmps49
    go_wp2
    go_ret
    exact ⟨by rw [decide_eq_false (show ¬ a ≤ b by omega)]; rfl, rfl⟩

theorem implRecordOk_c (s : ByteArray) (w : World) (hs : s.size ≤ maxLen) :
    Calls Tryd.prog 40 #[.string s] w fun e w' => e = .returned (.bool (recB s.data.toList)) ∧ w' = w := by
  unfold maxLen at hs
  have Hl := rec_size s
  have Hc := fun W => Tryd.strings_Contains_one s 10 W
  by_cases h : 1 ≤ s.size ∧ s.size ≤ 200
  · have Hb : Hid ((decide ((1 : Int) ≤ (s.size : Int)) && decide ((s.size : Int) ≤ 200)) = true) := by show _ = _; simp; omega
    have Hr : Hid ((!decide (0 ≤ Lib.indexByte s.data.toList 10)) = recB s.data.toList) := by
      show _ = _
      rw [recB, Hl, indexByte_contains]; simp [h.1, h.2]
    clear Hl h
    have Hc2 : Hid (∀ W, Calls Tryd.prog 56 #[.string s, .string ⟨#[10]⟩] W fun e w' => e = .returned (.bool (decide (0 ≤ Lib.indexByte s.data.toList 10))) ∧ w' = W) := Hc
    clear Hc
    go_enter Tryd.func40, Tryd.ntmps40
    go_wp2_with fail
    refine (betw_c _ _ _ _).mono ?_
    rintro e w1 ⟨rfl, rfl⟩
    rw [Hb.out]
    go_wp2_with fail
    refine (Hc2.out _).mono ?_
    rintro e w1 ⟨rfl, rfl⟩
    go_wp2_with fail
    go_ret
    exact ⟨by rw [Hr.out]; first | done | rfl, rfl⟩
  · have Hb : Hid ((decide ((1 : Int) ≤ (s.size : Int)) && decide ((s.size : Int) ≤ 200)) = false) := by
      show _ = _
      rw [Bool.and_eq_false_iff]
      by_cases h1 : 1 ≤ s.size
      · right; simp; omega
      · left; simp; omega
    have Hr : Hid (recB s.data.toList = false) := by
      show _ = _
      rw [recB, Hl]
      by_cases h1 : 1 ≤ s.size
      · have h2 : ¬ s.size ≤ 200 := fun h2 => h ⟨h1, h2⟩
        simp [h2]
      · simp [h1]
    clear Hl h Hc
    go_enter Tryd.func40, Tryd.ntmps40
    go_wp2_with fail
    refine (betw_c _ _ _ _).mono ?_
    rintro e w1 ⟨rfl, rfl⟩
    rw [Hb.out]
    go_wp2_with fail
    go_ret
    exact ⟨by rw [Hr.out]; first | done | rfl, rfl⟩
end Go.Proofs.YtpdmhpcejmankaaDoor
