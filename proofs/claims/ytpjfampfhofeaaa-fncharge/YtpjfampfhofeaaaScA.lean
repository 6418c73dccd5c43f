/- Accounts: the program's WordOk; names that are words and rise. -/
import Derived.Test.YtpjfampfhofeaaaShA
import Derived.Test.YtpjfampfhofeaaaShelf
import Derived.Laws.RangeAny
import Derived.Shelf.GgClosure.StringsIndexFuncTop
import Derived.Test.YtpjfampfhofeaaaBehA
import Derived.Test.YtpjfampfhofeaaaSjL
import Derived.Laws.Cover1
namespace Go.Proofs.Ytpjfampfhofeaaa
open Go.ChangeShapes Go.WideShapes Go.ChangeAt Go.RowKit Go.Lib

def btB (lo n hi : Int) : Bool := decide (lo ≤ n) && decide (n ≤ hi)
theorem bt_c (lo n hi : Int) (w : World) : Calls Try.prog 44 #[.int .i64 lo, .int .i64 n, .int .i64 hi] w fun e w' => e = .returned (.bool (btB lo n hi)) ∧ w' = w := by
  by_cases h0 : lo ≤ n
  · go_enter Try.func44, Try.ntmps44
    go_wp2
    go_ret
    exact ⟨by simp [btB, h0], rfl⟩
  · have h1 : btB lo n hi = false := by simp [btB, h0]
    rw [h1]
    go_enter Try.func44, Try.ntmps44
    go_wp2
    go_ret
    exact ⟨rfl, rfl⟩
/-- No small letter. -/
def nlB (r : Nat) : Bool := decide (r < 97) || decide (122 < r)
theorem noSmall_c (w : World) : PredAt Try.prog 53 #[] encR nlB w := fun W r _ => by
  unfold FnGives
  by_cases h1 : r < 97 <;> by_cases h2 : 122 < r
  all_goals
    have z1 : (r : Int) < 97 ↔ r < 97 := by omega
    have z2 : (122 : Int) < (r : Int) ↔ 122 < r := by omega
    go_enter Try.func53, Try.ntmps53
    go_wp2
    all_goals first | (exfalso; omega) | (go_ret; exact ⟨by simp [nlB, h1, h2], 0, rfl⟩)
theorem idx_from (s : ByteArray) : ∀ (f pos : Nat), s.size ≤ f + pos → (idxFuncFrom nlB true s f pos < 0 ↔ (s.data.toList.drop pos).all letB = true)
  | 0, pos, h => by
    have hl : s.data.toList.length = s.size := rfl
    rw [List.drop_of_length_le (by omega)]
    simp [idxFuncFrom]
  | f + 1, pos, h => by
    have hl : s.data.toList.length = s.size := rfl
    unfold idxFuncFrom
    by_cases hp : pos < s.size
    · rw [if_pos hp, List.drop_eq_getElem_cons (show pos < s.data.toList.length from hp), List.all_cons]
      have hb : s.data.toList[pos]'hp = s[pos]'hp := rfl
      rw [hb]
      by_cases ha : (s[pos]'hp).toNat < 128
      · rw [decode_ascii s pos hp ha]
        by_cases hn : nlB (s[pos]'hp).toNat = true
        · rw [if_pos hn]
          have hk : letB (s[pos]'hp) = false := by simp [nlB] at hn; simp [letB]; omega
          rw [hk]
          simp
        · rw [if_neg hn]
          have hk : letB (s[pos]'hp) = true := by simp [nlB] at hn; simp [letB]; omega
          rw [hk, Bool.true_and]
          exact idx_from s f (pos + 1) (by omega)
      · have hd := decode_high s pos hp (by omega)
        have hn : nlB (Utf8.decode s pos).1 = true := by simp [nlB]; omega
        have hk : letB (s[pos]'hp) = false := by simp [letB]; omega
        rw [if_pos hn, hk]
        simp
    · rw [if_neg hp, List.drop_of_length_le (by omega)]
      simp
theorem idx_word (s : ByteArray) : idxFunc nlB true s < 0 ↔ s.data.toList.all letB = true := by
  have h := idx_from s s.size 0 (by omega)
  rwa [List.drop_zero] at h
set_option maxHeartbeats 1000000 in
theorem implWordOk_c (s : ByteArray) (w : World) : Calls Try.prog 23 #[.string s] w fun e w' => e = .returned (.bool (wordB s)) ∧ Below w.heap.size w w' := by
  have HI : Hid (∀ W : World, Calls Try.prog 52 #[.string s, .func (.func 53) #[] #[]] W fun e w' => e = .returned (.int .i64 (idxFunc nlB true s)) ∧ Below W.heap.size W w') := fun W =>
    Try.strings_IndexFunc 53 #[] (enters_of Try.func53 (by kernel_rfl) rfl) nlB s W (noSmall_c W)
  have HW : Hid (idxFunc nlB true s < 0 ↔ s.data.toList.all letB = true) := idx_word s
  generalize idxFunc nlB true s = r at HI HW
  go_enter Try.func23, Try.ntmps23
  go_wp2_with fail
  refine (bt_c _ _ _ _).mono ?_
  rintro e w1 ⟨rfl, rfl⟩
  cases hb : btB 1 (s.size : Int) 8
  · have HN : Hid (wordB s = false) := by
      show _ = _
      simp [btB] at hb
      simp [wordB]
      intro _ _
      omega
    clear hb
    go_wp2_with fail
    go_ret
    exact ⟨by rw [HN.out]; rfl, Below.refl _ _⟩
  · have HN : Hid (wordB s = s.data.toList.all letB) := by
      show _ = _
      simp [btB] at hb
      unfold wordB
      rw [decide_eq_true (show 1 ≤ s.size by omega), decide_eq_true (show s.size ≤ 8 by omega)]
      simp
    clear hb
    go_wp2_with fail
    refine (HI.out _).mono ?_
    rintro e w2 ⟨rfl, hb2⟩
    by_cases hr : r < 0
    · have HA : Hid (wordB s = true) := by show _ = _; rw [HN.out]; exact HW.out.1 hr
      go_wp2_with fail
      go_ret
      exact ⟨by rw [HA.out]; rfl, hb2⟩
    · have HA : Hid (wordB s = false) := by
        show _ = _
        rw [HN.out]
        cases h : s.data.toList.all letB
        · rfl
        · exact absurd (HW.out.2 h) hr
      go_wp2_with fail
      go_ret
      exact ⟨by rw [HA.out, decide_eq_false (show ¬ r < 0 by omega)]; rfl, hb2⟩
end Go.Proofs.Ytpjfampfhofeaaa

namespace Go.Proofs.Ytpjfampfhofeaaa
open Go.ChangeShapes Go.WideShapes Go.ChangeAt Go.RowKit

/-- Texts as they lie. -/
def nmV (xs : List ByteArray) : List Value := xs.map Value.string
theorem nmV_at {xs : List ByteArray} {i : Nat} (h : i < xs.length) : (nmV xs)[i]? = some (.string xs[i]) := by simp [nmV, h]
theorem nmV_len (xs : List ByteArray) : (nmV xs).length = xs.length := by simp [nmV]
/-- Each name is above the one ahead of it. -/
def RisS (xs : List ByteArray) : Prop := ∀ (k : Nat) (x y : ByteArray), xs[k]? = some x → xs[k + 1]? = some y → ntL x y = true
/-- Words, and they rise. -/
def WRi (xs : List ByteArray) : Prop := (∀ x ∈ xs, wordB x = true) ∧ RisS xs

theorem wrong_c (s : ByteArray) (w : World) : Calls Try.prog 70 #[.string s] w fun e w' => e = .returned (.bool (!wordB s)) ∧ Below w.heap.size w w' := by
  have HW : Hid (∀ W : World, Calls Try.prog 23 #[.string s] W fun e w' => e = .returned (.bool (wordB s)) ∧ Below W.heap.size W w') := fun W => implWordOk_c s W
  generalize wordB s = r at HW ⊢
  go_enter Try.func70, Try.ntmps70
  go_wp2_with fail
  refine (HW.out _).mono ?_
  rintro e w1 ⟨rfl, hb⟩
  cases r <;> (go_wp2_with fail; go_ret; exact ⟨rfl, hb⟩)
set_option maxHeartbeats 1000000 in
theorem idxS_c (f : Option Addr) (m : Nat) (xs : List ByteArray) (hx : xs.length ≤ 1048576) (w : World) (h : Sq w f (nmV xs)) :
    Calls Try.prog 80 #[.slice f xs.length m, .func (.func 70) #[] #[]] w fun e w' => ∃ r : Int, e = .returned (.int .i64 r) ∧ (0 ≤ r ↔ ¬ ∀ x ∈ xs, wordB x = true) ∧ Below w.heap.size w w' := by
  have H : Hid (Sq w f (nmV xs)) := h
  clear h
  go_enter Try.func80, Try.ntmps80
  go_wp2_with fail
  go_loopw [8] (fun i wr => ∃ k : Nat, k ≤ xs.length ∧ i = .int .i64 k ∧ (∀ x ∈ xs.take k, wordB x = true) ∧ Below w.heap.size w wr) (fun i _ => xs.length - (intOf i).toNat)
  case atStart => exact ⟨0, Nat.zero_le _, rfl, fun x h => by simp at h, Below.refl _ _⟩
  case round =>
    obtain ⟨k, hk, rfl, hi5, hb⟩ := hrel
    have HI : Hid (∀ x ∈ xs.take k, wordB x = true) := hi5
    have HB : Hid (Below w.heap.size w wr) := hb
    clear hi5 hb
    by_cases hlt : k < xs.length
    · have hj0 : (0 : Int) ≤ (k : Int) := by omega
      have hj1 : (k : Int) < (xs.length : Int) := by omega
      obtain ⟨p, rfl, _, hc⟩ := (H.out.below HB.out).cell k _ (nmV_at hlt)
      have HX : Hid (xs[k]? = some xs[k]) := List.getElem?_eq_getElem hlt
      generalize xs[k] = x at hc HX
      go_wp2_with fail
      refine (wrong_c x _).mono ?_
      rintro e w1 ⟨rfl, hb⟩
      have HB1 : Hid (Below w.heap.size w w1) := below_then HB.out hb
      clear hb hc
      cases hd : wordB x
      · have HN : Hid (¬ ∀ x ∈ xs, wordB x = true) := fun h => by
          have := h x (List.mem_of_getElem? HX.out)
          rw [hd] at this
          cases this
        clear hd
        go_wp2_with fail
        go_ret
        exact ⟨k, rfl, ⟨fun _ => HN.out, fun _ => hj0⟩, HB1.out⟩
      · have HI1 : Hid (∀ x ∈ xs.take (k + 1), wordB x = true) := fun y hy => by
          rw [List.take_add_one, HX.out, Option.toList_some] at hy
          rcases List.mem_append.1 hy with hy | hy
          · exact HI.out y hy
          · have e := List.mem_singleton.1 hy
            subst e
            exact hd
        clear hd
        go_wp2_with fail
        go_roundw
        case rel => exact ⟨k + 1, by omega, by go_num, HI1.out, HB1.out⟩
        case measure => simp [intOf]; omega
    · have HAll : Hid (∀ x ∈ xs, wordB x = true) := fun n hn => HI.out n (by rw [List.take_of_length_le (by omega)]; exact hn)
      go_wp2_with fail
      go_ret
      exact ⟨-1, rfl, ⟨fun h => by omega, fun h => absurd HAll.out h⟩, HB.out⟩
theorem cntS_c (f : Option Addr) (m : Nat) (xs : List ByteArray) (hx : xs.length ≤ 1048576) (w : World) (h : Sq w f (nmV xs)) :
    Calls Try.prog 71 #[.slice f xs.length m, .func (.func 70) #[] #[]] w fun e w' => ∃ k : Bool, e = .returned (.bool k) ∧ (k = false ↔ ∀ x ∈ xs, wordB x = true) ∧ Below w.heap.size w w' := by
  have H : Hid (Sq w f (nmV xs)) := h
  clear h
  go_enter Try.func71, Try.ntmps71
  go_wp2_with fail
  refine (idxS_c f m xs hx _ H.out).mono ?_
  rintro e w1 ⟨r, rfl, hr, hb⟩
  have HB : Hid (Below w.heap.size w w1) := hb
  have HR : Hid (0 ≤ r ↔ ¬ ∀ x ∈ xs, wordB x = true) := hr
  clear hr hb
  by_cases h0 : 0 ≤ r
  · go_wp2_with fail
    go_ret
    exact ⟨true, rfl, ⟨fun h => (by cases h), fun h => absurd h (HR.out.1 h0)⟩, HB.out⟩
  · have hall : Hid (∀ x ∈ xs, wordB x = true) := Classical.not_not.1 (fun t => h0 (HR.out.2 t))
    go_wp2_with fail
    go_ret
    exact ⟨false, by rw [decide_eq_false (show ¬ 0 ≤ r by omega)]; rfl, ⟨fun _ => hall.out, fun _ => rfl⟩, HB.out⟩
set_option maxHeartbeats 1000000 in
theorem risingS_c (a : Option Addr) (cap : Nat) (xs : List ByteArray) (hl : xs.length ≤ 1048576) (w : World) (h : Sq w a (nmV xs)) :
    Calls Try.prog 72 #[.slice a xs.length cap] w fun e w' => ∃ b, e = .returned (.bool b) ∧ (b = true ↔ RisS xs) ∧ Below w.heap.size w w' := by
  have H : Hid (Sq w a (nmV xs)) := h
  clear h
  go_enter Try.func72, Try.ntmps72
  go_wp2_with fail
  go_loopw [3] (fun i wr => ∃ j : Nat, j ≤ xs.length ∧ i = .int .i64 (j + 1 : Int) ∧ (∀ (k : Nat) (x y : ByteArray), k + 1 < j + 1 → xs[k]? = some x → xs[k + 1]? = some y → ntL x y = true) ∧ Below w.heap.size w wr) (fun i _ => xs.length + 1 - (intOf i).toNat)
  case atStart => exact ⟨0, Nat.zero_le _, rfl, fun k x y h => by omega, Below.refl _ _⟩
  case round =>
    obtain ⟨j, hj, rfl, he, hb⟩ := hrel
    have HE : Hid (∀ (k : Nat) (x y : ByteArray), k + 1 < j + 1 → xs[k]? = some x → xs[k + 1]? = some y → ntL x y = true) := he
    have HB : Hid (Below w.heap.size w wr) := hb
    clear he hb
    by_cases hlt : j + 1 < xs.length
    · have hi0 : (0 : Int) ≤ (j : Int) + 1 := by omega
      have hi1 : (j : Int) + 1 < (xs.length : Int) := by omega
      have hi2 : (0 : Int) ≤ (j : Int) := by omega
      have hi3 : (j : Int) < (xs.length : Int) := by omega
      have hs1 : (j : Int) + 1 - 1 = j := by omega
      have HX : Hid (xs[j]? = some xs[j]) := List.getElem?_eq_getElem (by omega)
      have HY : Hid (xs[j + 1]? = some xs[j + 1]) := List.getElem?_eq_getElem hlt
      obtain ⟨p, rfl, _, c0⟩ := (H.out.below HB.out).cell j _ (nmV_at (by omega))
      obtain ⟨p', hp', _, c1⟩ := (H.out.below HB.out).cell (j + 1) _ (nmV_at hlt)
      cases hp'
      rw [show p.add (j + 1) = ⟨p.block, p.off + (j + 1), none⟩ by simp [Addr.add]] at c1
      have ht : ((j : Int) + 1).toNat = j + 1 := by omega
      generalize xs[j] = x at c0 HX
      generalize xs[j + 1] = y at c1 HY
      have m0 := Beh.cell c0
      have m1 := Beh.cell c1
      have hsome := beh_some wr
      clear c0 c1
      cases hc : ntL x y
      · have hle : Op.bytesLess y.toList x.toList = true ∨ (Op.bytesLess y.toList x.toList = false ∧ (y.toList == x.toList) = true) := by
          cases h1 : Op.bytesLess y.toList x.toList
          · exact .inr ⟨rfl, by rw [bl_tot h1 hc]; simp⟩
          · exact .inl rfl
        have HF : Hid (¬ RisS xs) := fun h => by
          have := h j x y HX.out HY.out
          rw [hc] at this
          cases this
        clear hc
        go_wp2_with fail
        refine wp_region_beh (by kernel_rfl) (by kernel_rfl) ?_
        rcases hle with hd | ⟨hd, hd2⟩
        all_goals
          (repeat (go_big_quiet_step (fail)))
          refine wpQuiet_nil ?_
          rintro ⟨w2, hb2⟩
          have HB4 : Hid (Below w.heap.size w w2) := below_then HB.out hb2
          go_wp2_with fail
          go_ret
          exact ⟨false, rfl, ⟨fun h => by simp at h, fun h => absurd h HF.out⟩, HB4.out⟩
      · have hd0 : Op.bytesLess x.toList y.toList = true := hc
        have hd : Op.bytesLess y.toList x.toList = false := by
          cases h1 : Op.bytesLess y.toList x.toList
          · rfl
          · have := bl_trans hd0 h1
            rw [bl_irr] at this
            cases this
        have hd2 : (y.toList == x.toList) = false := by
          rw [beq_eq_false_iff_ne]
          intro e
          rw [e, bl_irr] at hd0
          cases hd0
        clear hd0
        have HE1 : Hid (∀ (k : Nat) (x y : ByteArray), k + 1 < j + 1 + 1 → xs[k]? = some x → xs[k + 1]? = some y → ntL x y = true) := fun k x' y' hk h1 h2 => by
          by_cases e : k = j
          · subst e
            rw [HX.out] at h1
            rw [HY.out] at h2
            cases h1; cases h2
            exact hc
          · exact HE.out k x' y' (by omega) h1 h2
        clear hc
        go_wp2_with fail
        refine wp_region_beh (by kernel_rfl) (by kernel_rfl) ?_
        repeat (go_big_quiet_step (fail))
        refine wpQuiet_nil ?_
        rintro ⟨w2, hb2⟩
        have HB4 : Hid (Below w.heap.size w w2) := below_then HB.out hb2
        go_wp2_with fail
        exact ⟨⟨j + 1, by omega, by go_num, HE1.out, HB4.out⟩, by simp [intOf]; omega⟩
    · go_wp2_with fail
      go_ret
      refine ⟨true, rfl, ⟨fun _ k x y h1 h2 => ?_, fun _ => rfl⟩, HB.out⟩
      exact HE.out k x y (by have := (List.getElem?_eq_some_iff.1 h2).1; omega) h1 h2
set_option maxHeartbeats 1000000 in
theorem wordsRise_c (a : Option Addr) (cap : Nat) (xs : List ByteArray) (hl : xs.length ≤ 1048576) (w : World) (h : Sq w a (nmV xs)) :
    Calls Try.prog 51 #[.slice a xs.length cap] w (Says w (WRi xs)) := by
  have H : Hid (Sq w a (nmV xs)) := h
  clear h
  go_enter Try.func51, Try.ntmps51
  go_wp2_with fail
  refine (cntS_c a cap xs hl _ H.out).mono ?_
  rintro e w1 ⟨k, rfl, hk, hb⟩
  have HB1 : Hid (Below w.heap.size w w1) := hb
  have HK : Hid (k = false ↔ ∀ x ∈ xs, wordB x = true) := hk
  clear hk hb
  cases k
  · have HA : Hid (∀ x ∈ xs, wordB x = true) := HK.out.1 rfl
    clear HK
    go_wp2_with fail
    refine (risingS_c a cap xs hl _ (H.out.below HB1.out)).mono ?_
    rintro e w2 ⟨k, rfl, hk, hb⟩
    have HB2 : Hid (Below w.heap.size w w2) := below_then HB1.out hb
    have HK : Hid (k = true ↔ WRi xs) := ⟨fun t => ⟨HA.out, hk.1 t⟩, fun t => hk.2 t.2⟩
    clear hk hb
    go_wp2_with fail
    go_ret
    exact ⟨k, rfl, HK.out, HB2.out⟩
  · have HN : Hid (¬ WRi xs) := fun t => by have := HK.out.2 t.1; cases this
    clear HK
    go_wp2_with fail
    go_ret
    exact says_no rfl HN.out HB1.out
end Go.Proofs.Ytpjfampfhofeaaa
