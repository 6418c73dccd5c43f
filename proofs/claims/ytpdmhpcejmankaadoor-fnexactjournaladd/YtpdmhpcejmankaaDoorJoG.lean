/- ReadRecords: the specification's pieces. -/
import Derived.Test.YtpdmhpcejmankaaDoorJoE
namespace Go.Proofs.YtpdmhpcejmankaaDoor
open Go.ChangeShapes Go.WideShapes Go.ChangeAt Go.RowKit
open Go.Joins (ownsRow_forms)

theorem idx_first : ∀ (l : List UInt8) (m : Nat), l[m]? = some 10 → (∀ j, j < m → l[j]? ≠ some 10) → Lib.indexByte l 10 = m
  | [], m, h, _ => by simp at h
  | b :: l, 0, h, _ => by
    simp at h
    simp [Lib.indexByte, h]
  | b :: l, m + 1, h, hn => by
    have hb : (b == (10 : UInt8)) = false := by
      rw [beq_eq_false_iff_ne]
      intro e
      exact hn 0 (by omega) (by simp [e])
    have e := idx_first l m (by simpa using h) (fun j hj => by have := hn (j + 1) (by omega); simpa using this)
    simp only [Lib.indexByte, hb, Bool.false_eq_true, if_false, e]
    rw [if_neg (by simp)]
    simp

theorem idx_never {l : List UInt8} (h : ∀ j : Nat, j < l.length → l[j]? ≠ some 10) : Lib.indexByte l 10 = -1 := by
  have := indexByte_contains l
  rw [no_ten h] at this
  have h2 := Lib.indexByte_ge l 10
  have := of_decide_eq_false this
  omega

/-- The place behind the line that begins at k. -/
def lineR (l : List UInt8) (k : Nat) : Int := if Lib.indexByte (l.drop k) 10 < 0 then -1 else (k : Int) + Lib.indexByte (l.drop k) 10 + 1

theorem line_yes {l : List UInt8} {k m : Nat} (hk : k ≤ m) (h : l[m]? = some 10) (hn : ∀ j, k ≤ j → j < m → l[j]? ≠ some 10) : lineR l k = (m : Int) + 1 := by
  have e := idx_first (l.drop k) (m - k) (by rw [List.getElem?_drop]; rw [show k + (m - k) = m by omega]; exact h) (fun j hj => by rw [List.getElem?_drop]; exact hn _ (by omega) (by omega))
  unfold lineR
  rw [e, if_neg (by omega)]
  omega

theorem line_no {l : List UInt8} {k : Nat} (hn : ∀ j, k ≤ j → j < l.length → l[j]? ≠ some 10) : lineR l k = -1 := by
  have e : Lib.indexByte (l.drop k) 10 = -1 := idx_never fun j hj => by
    rw [List.getElem?_drop]
    rw [List.length_drop] at hj
    exact hn _ (by omega) (by omega)
  unfold lineR
  rw [e, if_pos (by omega)]

set_option maxHeartbeats 1000000 in
theorem l07Line_c (w : World) (p : Option Addr) (c : Nat) (l : List UInt8) (k : Nat) (hl : ByA w p l) (hbig : l.length ≤ 1048576) (hk : k ≤ l.length) :
    Calls Tryd.prog 46 #[.slice p l.length c, .int .i64 (k : Int)] w fun e w' => e = .returned (.int .i64 (lineR l k)) ∧ w' = w := by
  have Hl : Hid (ByA w p l) := hl
  by_cases hke : k = l.length
  · subst hke
    have HN : Hid (lineR l l.length = -1) := line_no fun j h1 h2 => by omega
    clear hl
    go_enter Tryd.func46, Tryd.ntmps46
    go_wp2_with fail
    go_loop [5] (fun i => i = .int .i64 (l.length : Int)) (fun _ => 0)
    case atStart => rfl
    case round =>
      subst hrel
      go_wp2_with fail
      go_ret
      exact ⟨by rw [HN.out]; rfl, rfl⟩
  · obtain ⟨q, o, rfl, _, _⟩ := hl.cell k l[k] (List.getElem?_eq_getElem (by omega))
    clear hl
    go_enter Tryd.func46, Tryd.ntmps46
    go_wp2_with fail
    go_loop [5] (fun i => ∃ m : Nat, k ≤ m ∧ m ≤ l.length ∧ i = .int .i64 (m : Int) ∧ ∀ j, k ≤ j → j < m → l[j]? ≠ some 10) (fun i => l.length - (intOf i).toNat)
    case atStart => exact ⟨k, Nat.le_refl _, hk, rfl, fun j h1 h2 => by omega⟩
    case round =>
      obtain ⟨m, hkm, hml, rfl, hno⟩ := hrel
      have Hno : Hid (∀ j, k ≤ j → j < m → l[j]? ≠ some 10) := hno
      clear hno
      by_cases hlt : m < l.length
      · have Hg : Hid (l[m]? = some l[m]) := List.getElem?_eq_getElem hlt
        have hc : w.cell? ⟨q, o + m, none⟩ = some (.int .u8 (l[m].toNat : Int)) := by
          obtain ⟨q', o', e, _, hcl⟩ := Hl.out.cell m l[m] Hg.out
          cases e
          exact hcl
        have hi0 : (0 : Int) ≤ (m : Int) := by omega
        have hi1 : (m : Int) < (l.length : Int) := by omega
        by_cases h10 : l[m] = 10
        · have h10' : ((l[m].toNat : Int) == 10) = true := by rw [h10]; rfl
          have HN : Hid (lineR l k = (m : Int) + 1) := line_yes hkm (by rw [Hg.out, h10]) Hno.out
          go_wp2_with fail
          go_ret
          exact ⟨by rw [HN.out]; rfl, rfl⟩
        · have h10' : ((l[m].toNat : Int) == 10) = false := by
            rw [beq_eq_false_iff_ne]
            intro e
            exact h10 (UInt8.toNat_inj.1 (by show l[m].toNat = 10; omega))
          have Hs : Hid (∀ j, k ≤ j → j < m + 1 → l[j]? ≠ some 10) := fun j h1 h2 => by
            rcases Nat.lt_succ_iff_lt_or_eq.1 h2 with h | rfl
            · exact Hno.out j h1 h
            · rw [Hg.out]; intro e; exact h10 (Option.some.inj e)
          clear h10
          go_wp2_with fail
          go_round
          case rel => exact ⟨m + 1, by omega, by omega, by go_num, Hs.out⟩
          case measure => simp [intOf]; omega
      · have HN : Hid (lineR l k = -1) := line_no fun j h1 h2 => Hno.out j h1 (by omega)
        go_wp2_with fail
        go_ret
        exact ⟨by rw [HN.out]; rfl, rfl⟩
end Go.Proofs.YtpdmhpcejmankaaDoor
