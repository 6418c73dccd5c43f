/- The level of a switch, by the specification. -/
import Derived.Test.YtbnbikmnembciaaTopE
namespace Go.Proofs.Ytbnbikmnembciaa
open Go.ChangeShapes Go.WideShapes Go.ChangeAt Go.RowKit

/-- The walk over what lies directly below: -1 where two are not equally far. -/
def walkLv (lv : Int → Int) : List Int → Nat → Int → Int
  | [], _, level => level + 1
  | k :: r, i, level => if lv k < 0 ∨ (0 < i ∧ lv k ≠ level) then -1 else walkLv lv r (i + 1) (lv k)

def lvF (ps : List Int) : Nat → Int → Int
  | 0, _ => -1
  | f + 1, s => walkLv (lvF ps f) (kidsTo ps s ps.length) 0 (-1)

/-- Each parent is lesser than its switch. -/
def treeB (ps : List Int) : Prop := ∀ (i : Nat) (x : Int), 1 ≤ i → ps[i]? = some x → 0 ≤ x ∧ x < i

theorem kids_mem (ps : List Int) (s : Int) : ∀ (k : Nat) (x : Int), x ∈ kidsTo ps s k → ∃ i : Nat, x = i ∧ 1 ≤ i ∧ i < k ∧ ps[i]? = some s
  | 0, x, h => by simp [kidsTo] at h
  | k + 1, x, h => by
    unfold kidsTo at h
    split at h
    · rename_i hc
      rcases List.mem_append.1 h with h | h
      · obtain ⟨i, e, h1, h2, h3⟩ := kids_mem ps s k x h
        exact ⟨i, e, h1, by omega, h3⟩
      · simp at h
        exact ⟨k, h, hc.1, by omega, hc.2⟩
    · obtain ⟨i, e, h1, h2, h3⟩ := kids_mem ps s k x h
      exact ⟨i, e, h1, by omega, h3⟩

theorem walk_bound (lv : Int → Int) (f : Int) : ∀ (l : List Int) (i : Nat) (level : Int), (∀ k ∈ l, -1 ≤ lv k ∧ lv k ≤ f) → -1 ≤ level → level ≤ f → 0 ≤ f → -1 ≤ walkLv lv l i level ∧ walkLv lv l i level ≤ f + 1
  | [], i, level, _, h1, h2, _ => by unfold walkLv; omega
  | k :: r, i, level, h, h1, h2, h3 => by
    unfold walkLv
    split
    · omega
    · have hk := h k (by simp)
      exact walk_bound lv f r (i + 1) (lv k) (fun x hx => h x (by simp [hx])) hk.1 hk.2 h3

theorem lv_bound (ps : List Int) : ∀ (f : Nat) (s : Int), -1 ≤ lvF ps f s ∧ lvF ps f s ≤ f
  | 0, s => by unfold lvF; omega
  | f + 1, s => by
    unfold lvF
    have := walk_bound (lvF ps f) f (kidsTo ps s ps.length) 0 (-1) (fun k _ => lv_bound ps f k) (by omega) (by omega) (by omega)
    omega

theorem walk_congr {lv lv' : Int → Int} : ∀ (l : List Int) (i : Nat) (level : Int), (∀ k ∈ l, lv k = lv' k) → walkLv lv l i level = walkLv lv' l i level
  | [], _, _, _ => rfl
  | k :: r, i, level, h => by
    unfold walkLv
    rw [h k (by simp)]
    split
    · rfl
    · exact walk_congr r (i + 1) _ (fun x hx => h x (by simp [hx]))

/-- How much is enough doesn't matter. -/
theorem lv_enough {ps : List Int} (ht : treeB ps) : ∀ (f f' : Nat) (s : Nat), s < ps.length → ps.length ≤ s + f → ps.length ≤ s + f' → lvF ps f s = lvF ps f' s
  | 0, _, s, h0, h1, _ => by omega
  | _ + 1, 0, s, h0, _, h2 => by omega
  | f + 1, f' + 1, s, h0, h1, h2 => by
    unfold lvF
    apply walk_congr
    intro k hk
    obtain ⟨i, rfl, hi1, hi2, hi3⟩ := kids_mem ps s _ k hk
    have := ht i s hi1 hi3
    exact lv_enough ht f f' i hi2 (by omega) (by omega)

set_option maxHeartbeats 2000000 in
theorem l02Level_c (a b : Option Addr) (c m d : Nat) (ps : List Int) (hl : ps.length ≤ 1048576) (ht : treeB ps) :
    ∀ (f s : Nat) (w : World), s < ps.length → ps.length ≤ s + f → f ≤ 1048576 → Sq w a (ints ps) →
    Calls Try.prog 60 #[.agg #[.slice a ps.length c, .slice b m d], .int .i64 (s : Int)] w fun e w' => e = .returned (.int .i64 (lvF ps f s)) ∧ Below w.heap.size w w' := by
  intro f
  induction f with
  | zero => intro s w h0 h1; omega
  | succ f ih =>
    intro s w h0 h1 hf h
    have H : Hid (Sq w a (ints ps)) := h
    have HI : Hid (∀ (s : Nat) (w : World), s < ps.length → ps.length ≤ s + f → f ≤ 1048576 → Sq w a (ints ps) →
      Calls Try.prog 60 #[.agg #[.slice a ps.length c, .slice b m d], .int .i64 (s : Int)] w fun e w' => e = .returned (.int .i64 (lvF ps f s)) ∧ Below w.heap.size w w') := ih
    have HT : Hid (treeB ps) := ht
    clear ih h ht
    go_enter Try.func60, Try.ntmps60
    go_wp2_with fail
    generalize hV : w.alloc (.cells #[.slice a ps.length c, .slice b m d] 39) = V
    have HA : Hid (Row V w.heap.size [.slice a ps.length c, .slice b m d]) := by subst hV; exact row_fresh w [.slice a ps.length c, .slice b m d] 39
    have HV : Hid (Below w.heap.size w V) := by subst hV; exact low_alloc _ _
    clear hV
    refine (l02Kids_c a b c m d ps s hl _ (H.out.below HV.out)).mono ?_
    rintro e w1 ⟨a', cap, rfl, hs, hb⟩
    have HS1 : Hid (Sq w1 a' (ints (kidsTo ps s ps.length))) := hs
    have HB1 : Hid (Below V.heap.size V w1) := hb
    have HM : Hid (∀ x ∈ kidsTo ps s ps.length, ∃ i : Nat, x = i ∧ s < i ∧ i < ps.length) := fun x hx => by
      obtain ⟨i, e, h1, h2, h3⟩ := kids_mem ps s _ x hx
      have := HT.out i s h1 h3
      exact ⟨i, e, by omega, h2⟩
    have hK := kids_len ps s ps.length
    have HL : Hid (lvF ps (f + 1) s = walkLv (lvF ps f) (kidsTo ps s ps.length) 0 (-1)) := by show _ = _; rw [lvF]
    clear hs hb
    generalize kidsTo ps s ps.length = K at *
    go_wp2_with fail
    go_loopw [5, 13] (fun lv i wr => ∃ (j : Nat) (L : Int), j ≤ K.length ∧ i = .int .i64 j ∧ lv = .int .i64 L ∧ -1 ≤ L ∧ L ≤ 1048576 ∧ lvF ps (f + 1) s = walkLv (lvF ps f) (K.drop j) j L ∧ Below V.heap.size V wr ∧ Sq wr a' (ints K)) (fun _ i _ => K.length - (intOf i).toNat)
    case atStart => exact ⟨0, -1, Nat.zero_le _, rfl, rfl, by omega, by omega, HL.out, HB1.out, HS1.out⟩
    case round =>
      obtain ⟨j, L, hj, rfl, rfl, hL0, hL1, hw, hb, hs⟩ := hrel
      have HW : Hid (lvF ps (f + 1) s = walkLv (lvF ps f) (K.drop j) j L) := hw
      have HB : Hid (Below V.heap.size V wr) := hb
      have HS : Hid (Sq wr a' (ints K)) := hs
      have t0 := (HA.out.below hb).cell 0 _ rfl
      have t1 := (HA.out.below hb).cell 1 _ rfl
      clear hw hb hs HL
      by_cases hlt : j < K.length
      · have hi0 : (0 : Int) ≤ (j : Int) := by omega
        have hi1 : (j : Int) < (K.length : Int) := by omega
        obtain ⟨p, rfl, _, hc⟩ := HS.out.cell j _ (ints_at K j hlt)
        obtain ⟨i, hxi, hsi, hil⟩ := HM.out K[j] (List.getElem_mem hlt)
        have HD : Hid (K.drop j = (i : Int) :: K.drop (j + 1)) := by show _ = _; rw [List.drop_eq_getElem_cons hlt, hxi]
        rw [hxi] at hc
        clear hxi
        go_wp2_with fail
        refine (HI.out i _ hil (by omega) (by omega) ((H.out.below HV.out).below HB.out)).mono ?_
        rintro e w2 ⟨rfl, hb2⟩
        have HB2 : Hid (Below V.heap.size V w2) := below_then HB.out hb2
        have HS2 : Hid (Sq w2 (some p) (ints K)) := HS.out.below hb2
        have hbd := lv_bound ps f i
        rw [HD.out, walkLv] at HW
        clear hb2 t0 t1 hc
        generalize lvF ps f (i : Int) = n at *
        by_cases h1 : n < 0
        · have HZ : Hid (lvF ps (f + 1) s = -1) := by show _ = _; rw [HW.out, if_pos (Or.inl h1)]
          go_wp2_with fail
          go_ret
          exact ⟨by rw [HZ.out]; rfl, below_then HV.out HB2.out⟩
        · by_cases h2 : 0 < j ∧ n ≠ L
          · have HZ : Hid (lvF ps (f + 1) s = -1) := by show _ = _; rw [HW.out, if_pos (Or.inr h2)]
            obtain ⟨h2, h3⟩ := h2
            have hj0 : (0 : Int) < (j : Int) := by omega
            have hnL : (n != L) = true := by simpa using h3
            go_wp2_with fail
            go_ret
            exact ⟨by rw [HZ.out]; rfl, below_then HV.out HB2.out⟩
          · have HZ : Hid (lvF ps (f + 1) s = walkLv (lvF ps f) (K.drop (j + 1)) (j + 1) n) := by
              show _ = _
              rw [HW.out, if_neg (by intro h; rcases h with h | h; exact h1 h; exact h2 h)]
            by_cases h3 : 0 < j
            · have hj0 : (0 : Int) < (j : Int) := by omega
              have h4 : n = L := by
                apply Classical.byContradiction
                intro e
                exact h2 ⟨h3, e⟩
              subst h4
              clear h2
              go_wp2_with fail
              go_roundw
              case rel => exact ⟨j + 1, n, by omega, by go_num, rfl, by omega, by omega, HZ.out, HB2.out, HS2.out⟩
              case measure => simp [intOf]; omega
            · obtain rfl : j = 0 := by omega
              clear h2
              go_wp2_with fail
              go_roundw
              case rel => exact ⟨0 + 1, n, by omega, by go_num, rfl, by omega, by omega, HZ.out, HB2.out, HS2.out⟩
              case measure => simp [intOf]; omega
      · have HZ : Hid (lvF ps (f + 1) s = L + 1) := by show _ = _; rw [HW.out, List.drop_eq_nil_of_le (by omega), walkLv]
        go_wp2_with fail
        go_ret
        exact ⟨by rw [HZ.out]; rfl, below_then HV.out HB.out⟩
end Go.Proofs.Ytbnbikmnembciaa
