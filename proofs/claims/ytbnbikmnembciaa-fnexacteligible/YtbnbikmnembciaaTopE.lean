/- The specification's walks over the tree of switches: what lies directly below, what a list has. -/
import Derived.Test.YtbnbikmnembciaaTopD
import Derived.Test.YtbnbikmnembciaaPartsA
namespace Go.Proofs.Ytbnbikmnembciaa
open Go.ChangeShapes Go.WideShapes Go.ChangeAt Go.RowKit

theorem sq_of_owns {w : World} {B n : Nat} {e : TypeId} {v : Value} {xs : List Value} (h : w.ownsRow B e 1 v n xs) : ∃ a cap, v = .slice a n cap ∧ Sq w a xs := by
  by_cases hn : 0 < n
  · obtain ⟨g, cap, hv, _, hr⟩ := row_of_owns h hn
    exact ⟨_, cap, hv, Sq.of_row hr⟩
  · obtain ⟨hlen, h⟩ := h
    have hx : xs = [] := List.length_eq_zero_iff.1 (by omega)
    subst hx
    rcases h with ⟨rfl, hn0⟩ | ⟨g, cap, cur, rfl, _⟩
    · exact ⟨none, 0, by rw [hn0], ⟨fun i u hu => by simp at hu⟩⟩
    · exact ⟨_, cap, rfl, ⟨fun i u hu => by simp at hu⟩⟩


/-- The switches from 1 to k - 1 whose parent is s. -/
def kidsTo (ps : List Int) (s : Int) : Nat → List Int
  | 0 => []
  | k + 1 => if 1 ≤ k ∧ ps[k]? = some s then kidsTo ps s k ++ [(k : Int)] else kidsTo ps s k

theorem kids_len (ps : List Int) (s : Int) : ∀ k, (kidsTo ps s k).length ≤ k
  | 0 => Nat.le_refl _
  | k + 1 => by
    have := kids_len ps s k
    unfold kidsTo
    split
    · simp; omega
    · omega

set_option maxHeartbeats 1000000 in
theorem l02Kids_c (a b : Option Addr) (c m d : Nat) (ps : List Int) (s : Int) (hl : ps.length ≤ 1048576) (w : World) (h : Sq w a (ints ps)) :
    Calls Try.prog 59 #[.agg #[.slice a ps.length c, .slice b m d], .int .i64 s] w fun e w' =>
      ∃ a' cap, e = .returned (.slice a' (kidsTo ps s ps.length).length cap) ∧ Sq w' a' (ints (kidsTo ps s ps.length)) ∧ Below w.heap.size w w' := by
  have H : Hid (Sq w a (ints ps)) := h
  clear h
  obtain ⟨i0, hi, hz0, hz1, hz2⟩ := info_parts infoInt
  go_enter Try.func59, Try.ntmps59
  go_wp2_with fail
  generalize hV : w.alloc (.cells #[.slice a ps.length c, .slice b m d] 39) = V
  have HA : Hid (Row V w.heap.size [.slice a ps.length c, .slice b m d]) := by subst hV; exact row_fresh w [.slice a ps.length c, .slice b m d] 39
  have HV : Hid (Below w.heap.size w V) := by subst hV; exact low_alloc _ _
  have hVs : w.heap.size + 1 = V.heap.size := by subst hV; simp [go_sem]
  clear hV
  rw [hVs]
  go_loopw [5, 6] (fun o i wr => ∃ (k : Nat), 1 ≤ k ∧ k ≤ max 1 ps.length ∧ i = .int .i64 k ∧ wr.ownsRow V.heap.size 3 1 o (kidsTo ps s k).length (ints (kidsTo ps s k)) ∧ Below V.heap.size V wr) (fun _ i _ => ps.length - (intOf i).toNat)
  case atStart => exact ⟨1, Nat.le_refl _, by omega, rfl, World.ownsRow_made V #[] 0 (Nat.le_refl _) (by decide) rfl, low_alloc _ _⟩
  case round =>
    obtain ⟨k, hk1, hk2, rfl, hown, hb⟩ := hrel
    have HO : Hid (wr.ownsRow V.heap.size 3 1 u5 (kidsTo ps s k).length (ints (kidsTo ps s k))) := hown
    have HB : Hid (Below V.heap.size V wr) := hb
    have hwr : V.heap.size ≤ wr.heap.size := hb.size
    have t0 := (HA.out.below hb).cell 0 _ rfl
    have hkl := kids_len ps s k
    clear hown hb
    by_cases hlt : k < ps.length
    · have hi0 : (0 : Int) ≤ (k : Int) := by omega
      have hi1 : (k : Int) < (ps.length : Int) := by omega
      obtain ⟨p, rfl, _, hc⟩ := ((H.out.below HV.out).below HB.out).cell k _ (ints_at ps k hlt)
      have HX : Hid (ps[k]? = some ps[k]) := List.getElem?_eq_getElem hlt
      generalize ps[k] = x at hc HX
      by_cases hx : x = s
      · subst hx
        have HK : Hid (kidsTo ps x (k + 1) = kidsTo ps x k ++ [(k : Int)]) := by show _ = _; rw [kidsTo, if_pos ⟨hk1, HX.out⟩]
        go_wp2_with (at_builtin; refine wpList_append_own _ rfl _ _ 22 rfl V.heap.size 3 i0 (.int .i64 0) 1 8 Try.underlying22 hi hz0 hz1 hz2 rfl (by decide) _ _ _ rfl (HO.out.alloc _) ⟨wr.heap.size, 0, none⟩ 1 1 [.int .i64 k] rfl rfl ?c1 ?c2 ?c3 ?c4 ?c5 ?_)
        case c1 =>
          intro j u hj
          match j, hj with
          | 0, hj => simp at hj; subst hj; simp [Addr.add]
        case c2 => intro u hu; simp at hu; subst hu; rfl
        case c3 => unfold maxLen; omega
        case c4 => omega
        case c5 => simp; omega
        · intro v1 w1 hown1 hgrow1 _
          have HB1 : Hid (Below V.heap.size V w1) := (HB.out.alloc hwr _).grown hgrow1 (by simp; omega) (fun q hq => (HO.out.lt q hq).1)
          have HO1 : Hid (w1.ownsRow V.heap.size 3 1 v1 (kidsTo ps x (k + 1)).length (ints (kidsTo ps x (k + 1)))) := by
            show World.ownsRow _ _ _ _ _ _ _
            rw [HK.out, List.length_append, ints, List.map_append]
            exact hown1
          clear hown1 hgrow1
          go_wp2_with fail
          go_roundw
          case rel => exact ⟨k + 1, by omega, by omega, by go_num, HO1.out, HB1.out⟩
          case measure => simp [intOf]; omega
      · have hi2 : (x == s) = false := by simpa using hx
        have HK : Hid (kidsTo ps s (k + 1) = kidsTo ps s k) := by
          show _ = _
          rw [kidsTo, if_neg (fun h => by have h2 := h.2; rw [HX.out] at h2; exact hx (Option.some.inj h2))]
        go_wp2_with fail
        go_roundw
        case rel => exact ⟨k + 1, by omega, by omega, by go_num, by rw [HK.out]; exact HO.out, HB.out⟩
        case measure => simp [intOf]; omega
    · have HK : Hid (kidsTo ps s k = kidsTo ps s ps.length) := by
        show _ = _
        by_cases e : k = ps.length
        · rw [e]
        · have h1 : k = 1 := by omega
          have h2 : ps.length = 0 := by omega
          rw [h1, h2]
          rfl
      go_wp2_with fail
      go_ret
      obtain ⟨a', cap, hv, hs⟩ := sq_of_owns HO.out
      rw [HK.out] at hv hs
      exact ⟨a', cap, by rw [← hv]; rfl, hs, below_then HV.out HB.out⟩
end Go.Proofs.Ytbnbikmnembciaa
