/- FnParts: the walk. -/
import Derived.Test.YtiblegdhaiajnadDoorCurF
import Derived.Test.YtiblegdhaiajnadDoorTvP
import Derived.Test.YtiblegdhaiajnadDoorSlS
namespace Go.Proofs.YtiblegdhaiajnadDoor
open Go.ChangeShapes Go.WideShapes Go.ChangeAt Go.RowKit

theorem join_snoc (b : UInt8) : ∀ (P : List (List UInt8)) (q : List UInt8), P ≠ [] → joinB b (P ++ [q]) = joinB b P ++ b :: q
  | [], _, h => absurd rfl h
  | [p], q, _ => by simp [joinB]
  | p :: r :: R, q, _ => by
    have ih := join_snoc b (r :: R) q (by simp)
    simp only [List.cons_append] at ih ⊢
    simp only [joinB, ih, List.append_assoc, List.cons_append]

theorem join_first (b : UInt8) (P : List (List UInt8)) (h : 0 < P.length) : joinB b (P.take 1) = P[0] := by
  cases P with
  | nil => simp at h
  | cons p r => simp [joinB]

theorem join_step (b : UInt8) (P : List (List UInt8)) (j : Nat) (h : j < P.length) (h0 : 0 < j) : joinB b (P.take (j + 1)) = joinB b (P.take j) ++ b :: P[j] := by
  rw [List.take_add_one, List.getElem?_eq_getElem h, Option.toList_some]
  exact join_snoc b _ _ (by intro e; have := congrArg List.length e; rw [List.length_take, List.length_nil] at this; omega)

theorem join_len (b : UInt8) (P : List (List UInt8)) : ∀ j, j ≤ P.length → (joinB b (P.take j)).length ≤ (joinB b P).length := by
  intro j hj
  obtain ⟨d, hd⟩ : ∃ d, P.length = j + d := ⟨P.length - j, by omega⟩
  induction d generalizing j with
  | zero => rw [List.take_of_length_le (by omega)]; exact Nat.le_refl _
  | succ d ih =>
    have h1 := ih (j + 1) (by omega) (by omega)
    by_cases h0 : 0 < j
    · rw [join_step b P j (by omega) h0, List.length_append] at h1
      omega
    · obtain rfl : j = 0 := by omega
      simp [joinB]

set_option maxHeartbeats 2000000 in
theorem fnParts_walk (p : Option Addr) (n cap : Nat) (w : World) (hn : n ≤ maxLen) (hc : n ≤ 1048576 → CodeIs w p n) (hm : MaxL w) :
    Calls Tryd.prog 4 #[.slice p n cap] w fun e w' => e = .returned (.bool true) ∧ Below w.heap.size w w' := by
  have Hm : Hid (MaxL w) := hm
  clear hm
  by_cases hl : 1048576 < n
  · unfold maxLen at hn
    clear hc
    go_enter Tryd.func4, Tryd.ntmps4
    go_wp2_with fail
    go_ret
    exact ⟨rfl, by go_grown⟩
  · have hl' : n ≤ 1048576 := by omega
    have H : Hid (CodeIs w p n) := hc hl'
    clear hc hl hn
    go_enter Tryd.func4, Tryd.ntmps4
    go_wp2_with fail
    refine (drawParts_c p n cap _ H.out).mono ?_
    rintro e w1 ⟨s, b, rfl, hs, hb1⟩
    have HB1 : Hid (Below w.heap.size w w1) := hb1
    clear hb1
    go_wp2_with fail
    refine (implParts_c s b (by omega) _ (Hm.out.on HB1.out)).mono ?_
    rintro e w2 ⟨g, c, rfl, hg, hr, hb⟩
    have HB2 : Hid (Below w.heap.size w w2) := below_then HB1.out hb
    have HR2 : Hid (Row w2 g (strs (pcs b s.data.toList))) := hr
    clear hb hr HB1
    go_wp2_with fail
    refine (specParts_c s b (by omega) _).mono ?_
    rintro e w3 ⟨g', c', rfl, _, _, hb⟩
    have HB3 : Hid (Below w.heap.size w w3) := below_then HB2.out hb
    have HR3 : Hid (Row w3 g (strs (pcs b s.data.toList))) := HR2.out.below hb
    have HJ : Hid (joinB b (pcs b s.data.toList) = s.data.toList) := join_pcs b _
    have hP0 : 0 < (pcs b s.data.toList).length := List.length_pos_iff.2 (pcs_ne b _)
    have hP1 : (pcs b s.data.toList).length ≤ s.data.toList.length + 1 := pcs_count b _
    have hP2 : s.data.toList.length ≤ 8 := hs
    clear hb HB2 HR2
    generalize pcs b s.data.toList = P at *
    have hB0 : 0 ≤ (b.toNat : Int) := by omega
    have hB1 : (b.toNat : Int) < 256 := by have := b.toNat_lt; omega
    have HBB : Hid (UInt8.ofNat (b.toNat : Int).toNat = b) := by show _ = _; simp
    generalize (b.toNat : Int) = β at *
    go_wp2_with fail
    go_loopw [6, 29] (fun o i wr => ∃ (j : Nat) (so : ByteArray), j ≤ P.length ∧ i = .int .i64 j ∧ o = .string so ∧ so.data.toList = joinB b (P.take j) ∧ Below w.heap.size w wr ∧ Row wr g (strs P)) (fun _ i _ => P.length - (intOf i).toNat)
    case atStart => exact ⟨0, ⟨#[]⟩, Nat.zero_le _, rfl, rfl, by simp [joinB], HB3.out, HR3.out⟩
    case round =>
      obtain ⟨j, so, hj, rfl, rfl, hso, hb, hr⟩ := hrel
      have HB4 : Hid (Below w.heap.size w wr) := hb
      have HR4 : Hid (Row wr g (strs P)) := hr
      have HO : Hid (so.data.toList = joinB b (P.take j)) := hso
      have hsz : so.size ≤ 8 := by
        have h1 := join_len b P j hj
        rw [HJ.out, ← hso] at h1
        exact Nat.le_trans h1 hP2
      clear hb hr hso HB3 HR3
      by_cases hlt : j < P.length
      · have hi0 : (0 : Int) ≤ (j : Int) := by omega
        have hi1 : (j : Int) < (P.length : Int) := by omega
        have hc : wr.cell? ⟨g, j, none⟩ = some (.string ⟨P[j].toArray⟩) := HR4.out.cell j _ (by rw [strs_get, List.getElem?_eq_getElem hlt]; rfl)
        have hpz : (⟨P[j].toArray⟩ : ByteArray).size ≤ 8 := by
          have h1 := join_len b P (j + 1) hlt
          rw [HJ.out] at h1
          by_cases h0 : 0 < j
          · rw [join_step b P j hlt h0, List.length_append, List.length_cons] at h1
            show P[j].toArray.size ≤ 8
            simp
            omega
          · obtain rfl : j = 0 := by omega
            rw [join_first b P hlt] at h1
            show P[0].toArray.size ≤ 8
            simp
            omega
        by_cases h0 : 0 < j
        · have hj0 : (0 : Int) < (j : Int) := by omega
          have hcv := conv_one wr.heap.size β (wr.alloc (.cells #[.int .u8 β] 5)) (by simp) hB0 hB1
          obtain ⟨z1, hz1, hadd1⟩ := add_ba so ⟨#[UInt8.ofNat β.toNat]⟩ (by omega) (by simp [ByteArray.size])
          have hz1s : z1.size ≤ 9 := by
            have e : z1.data.toList.length = so.data.toList.length + 1 := by rw [hz1]; simp
            have e1 : z1.size = z1.data.toList.length := rfl
            have e2 : so.size = so.data.toList.length := rfl
            omega
          obtain ⟨z2, hz2, hadd2⟩ := add_ba z1 ⟨P[j].toArray⟩ (by omega) (by omega)
          have HZ : Hid (z2.data.toList = joinB b (P.take (j + 1))) := by
            show _ = _
            rw [hz2, hz1, HO.out, join_step b P j hlt h0, HBB.out]
            simp
          clear hz1 hz2 hz1s hpz
          go_wp2_with fail
          go_roundw
          case rel => exact ⟨j + 1, z2, by omega, by go_num, rfl, HZ.out, behind_alloc HB4.out _, HR4.out.below ((Below.refl _ _).alloc (Nat.le_refl _) _)⟩
          case measure => simp [intOf]; omega
        · obtain rfl : j = 0 := by omega
          obtain ⟨z, hz, hadd⟩ := add_ba so ⟨(P[0]).toArray⟩ (by omega) (by omega)
          have HZ : Hid (z.data.toList = joinB b (P.take (0 + 1))) := by
            show _ = _
            rw [hz, HO.out]
            simp only [List.take_zero, joinB, List.nil_append, Nat.zero_add]
            rw [join_first b P hlt]
          clear hz hpz
          go_wp2_with fail
          go_roundw
          case rel => exact ⟨1, z, by omega, by go_num, rfl, HZ.out, HB4.out, HR4.out⟩
          case measure => simp [intOf]; omega
      · obtain rfl : j = P.length := by omega
        have hss : so = s := by
          have h1 := HO.out
          rw [List.take_of_length_le (Nat.le_refl _), HJ.out] at h1
          rw [ba_of so, ba_of s, h1]
        subst hss
        have hi2 : (0 : Int) < (P.length : Int) := by omega
        go_wp2_with fail
        go_ret
        exact ⟨rfl, HB4.out⟩
end Go.Proofs.YtiblegdhaiajnadDoor
