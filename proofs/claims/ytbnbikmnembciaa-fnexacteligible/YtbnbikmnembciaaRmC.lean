/- Rooms: what a room is, counted. -/
import Derived.Test.YtbnbikmnembciaaRmB
import Derived.Test.YtbnbikmnembciaaTopC
namespace Go.Proofs.Ytbnbikmnembciaa
open Go.ChangeShapes Go.WideShapes Go.ChangeAt Go.RowKit

/-- What is left of a count behind rows of profiles. -/
def szQ : List Nat → Int → Int
  | [], left => left
  | n :: r, left => if szP n left < 0 then -1 else szQ r (szP n left)
theorem szQ_le : ∀ (l : List Nat) (left : Int), 0 ≤ left → left ≤ 1048576 → szQ l left ≤ 1048576 ∧ -1 ≤ szQ l left
  | [], left, h0, h1 => by simp [szQ]; omega
  | n :: r, left, h0, h1 => by
    rw [szQ]
    split
    · omega
    · rename_i h
      obtain ⟨_, h2, h3⟩ := szp_yes h1 h
      exact szQ_le r _ h2 h3
theorem szQ_yes : ∀ (l : List Nat) (left : Int), 0 ≤ left → left ≤ 1048576 → ¬ szQ l left < 0 → (∀ n ∈ l, n ≤ 1048576) ∧ (l.sum : Int) + szQ l left = left
  | [], left, _, _, _ => by simp [szQ]
  | n :: r, left, h0, h1, h => by
    rw [szQ] at h ⊢
    split at h
    · omega
    · rename_i hz
      obtain ⟨hn, h2, h3⟩ := szp_yes h1 hz
      obtain ⟨ha, hs⟩ := szQ_yes r _ h2 h3 h
      rw [if_neg hz]
      refine ⟨fun m hm => ?_, ?_⟩
      · rcases List.mem_cons.1 hm with rfl | hm
        · exact hn
        · exact ha m hm
      · have : szP n left = left - n := by
          unfold szP at hz ⊢
          split at hz
          · omega
          · rename_i hh; rw [if_neg hh]
        rw [List.sum_cons]
        omega

set_option maxHeartbeats 2000000 in
theorem szProfS_c (a : Option Addr) (cap : Nat) (pss : List (List Nd)) (hl : pss.length ≤ maxLen) (hl2 : ∀ ns ∈ pss, ns.length ≤ maxLen) (left : Int) (h0 : 0 ≤ left) (h1 : left ≤ 1048576) (w : World) (h : PVs w a pss) :
    Calls Try.prog 16 #[.slice a pss.length cap, .int .i64 left] w fun e w' => e = .returned (.int .i64 (if szP pss.length left < 0 then -1 else szQ (pss.map List.length) (szP pss.length left))) ∧ Below w.heap.size w w' := by
  have H : Hid (PVs w a pss) := h
  have HL : Hid (∀ ns ∈ pss, ns.length ≤ maxLen) := hl2
  have hm : (maxLen : Nat) ≤ 9223372036854775807 := by decide
  clear h hl2
  by_cases hz : szP pss.length left < 0
  · have h' : left < (pss.length : Int) := by
      unfold szP at hz
      split at hz
      · omega
      · omega
    rw [if_pos hz]
    clear hz
    go_enter Try.func16, Try.ntmps16
    go_wp2_with fail
    go_ret
    exact ⟨rfl, Below.refl _ _⟩
  · obtain ⟨hn, hp0, hp1⟩ := szp_yes h1 hz
    rw [if_neg hz]
    have hsz : szP pss.length left = left - pss.length := by
      unfold szP at hz ⊢
      split at hz
      · omega
      · rename_i hh; rw [if_neg hh]
    rw [hsz] at hp0 hp1 ⊢
    clear hsz hz
    have HQ0 : Hid (szQ ((pss.drop 0).map List.length) (left - pss.length) = szQ (pss.map List.length) (left - pss.length)) := rfl
    generalize hR : szQ (pss.map List.length) (left - pss.length) = R at *
    clear hR
    go_enter Try.func16, Try.ntmps16
    go_wp2_with fail
    go_loopw [1, 5] (fun l i wr => ∃ (j : Nat) (x : Int), j ≤ pss.length ∧ i = .int .i64 j ∧ l = .int .i64 x ∧ 0 ≤ x ∧ x ≤ 1048576 ∧ szQ ((pss.drop j).map List.length) x = R ∧ Below w.heap.size w wr) (fun _ i _ => pss.length - (intOf i).toNat)
    case atStart => exact ⟨0, _, Nat.zero_le _, rfl, rfl, hp0, hp1, HQ0.out, Below.refl _ _⟩
    case round =>
      obtain ⟨j, x, hj, rfl, rfl, hx0, hx1, hq, hb⟩ := hrel
      have HQ : Hid (szQ ((pss.drop j).map List.length) x = R) := hq
      have HB : Hid (Below w.heap.size w wr) := hb
      clear hq hb HQ0
      by_cases hlt : j < pss.length
      · have hi0 : (0 : Int) ≤ (j : Int) := by omega
        have hi1 : (j : Int) < (pss.length : Int) := by omega
        have HE : Hid (pss[j]? = some pss[j]) := List.getElem?_eq_getElem hlt
        have hnl := HL.out pss[j] (List.getElem_mem hlt)
        have HD : Hid (szQ ((pss.drop j).map List.length) x = if szP pss[j].length x < 0 then -1 else szQ ((pss.drop (j + 1)).map List.length) (szP pss[j].length x)) := by
          show _ = _
          rw [List.drop_eq_getElem_cons hlt, List.map_cons, szQ]
        generalize pss[j] = ns at HE hnl HD
        obtain ⟨p, q, c, rfl, hpl, hc, hsq⟩ := (H.out.below HB.out).here j ns HE.out
        clear hsq
        go_wp2_with fail
        refine (szProf_c q ns.length c hnl x hx0 hx1 _).mono ?_
        rintro e w1 ⟨rfl, hb⟩
        have HB1 : Hid (Below w.heap.size w w1) := below_then HB.out hb
        clear hb hc
        by_cases hz : szP ns.length x < 0
        · have HR : Hid (R = -1) := by show _ = _; rw [← HQ.out, HD.out, if_pos hz]
          generalize szP ns.length x = y at hz
          clear HD HQ
          go_wp2_with fail
          go_ret
          exact ⟨by rw [HR.out]; rfl, HB1.out⟩
        · obtain ⟨_, hy0, hy1⟩ := szp_yes hx1 hz
          have HQ1 : Hid (szQ ((pss.drop (j + 1)).map List.length) (szP ns.length x) = R) := by show _ = _; rw [← HQ.out, HD.out, if_neg hz]
          generalize szP ns.length x = y at *
          clear HD HQ
          go_wp2_with fail
          exact ⟨⟨j + 1, y, by omega, by go_num, rfl, hy0, hy1, HQ1.out, HB1.out⟩, by simp [intOf]; omega⟩
      · have HR : Hid (R = x) := by
          show _ = _
          rw [← HQ.out, List.drop_eq_nil_of_le (by omega)]
          rfl
        go_wp2_with fail
        go_ret
        exact ⟨by rw [HR.out]; rfl, HB.out⟩
end Go.Proofs.Ytbnbikmnembciaa
