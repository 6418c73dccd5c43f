/- TextNum: the program's. -/
import Derived.Test.YtejleghdgdbbnaaGreatDoorNumP
import Derived.Test.YtejleghdgdbbnaaGreatDoorPartsA
import Derived.Test.YtejleghdgdbbnaaGreatDoorNumA
import Derived.Test.YtejleghdgdbbnaaGreatDoorShelf
import Derived.Test.YtejleghdgdbbnaaGreatDoorVecT
import Derived.Deep.Light
import Derived.Test.YtejleghdgdbbnaaGreatDoorNumB
import Derived.Lib.AtoiErrMem
namespace Go.Proofs.YtejleghdgdbbnaaGreatDoor
open Go.ChangeShapes Go.WideShapes Go.ChangeAt Go.RowKit

theorem ret_two {a b : Int} {x y : Bool} (h : a = b) (h' : x = y) : Ending.returned (.tuple #[.int .i64 a, .bool x]) = .returned (.tuple #[.int .i64 b, .bool y]) := by rw [h, h']

theorem get_list (s : ByteArray) (k : Nat) (h : k < s.size) : s.data.toList[k]? = some s[k] := by
  rw [List.getElem?_eq_getElem (by simpa using h)]; rfl

theorem digit_no {b : UInt8} (h : (b.toNat : Int) < 48 ∨ 57 < (b.toNat : Int)) : Lib.digitVal b = none := by
  unfold Lib.digitVal; rw [if_neg (by omega)]
theorem digit_yes {b : UInt8} (h : 48 ≤ (b.toNat : Int)) (h' : (b.toNat : Int) ≤ 57) : Lib.digitVal b = some (b.toNat - 48) := by
  unfold Lib.digitVal; rw [if_pos (by omega)]

theorem specTextNum_short (s : ByteArray) (w : World) (h : s.size < 1 ∨ 10 < s.size) (hs : s.size ≤ maxLen) :
    Calls Tryz.prog 22 #[.string s] w fun e w' => e = .returned (.tuple #[.int .i64 0, .bool false]) ∧ w' = w := by
  unfold maxLen at hs
  rcases h with h | h
  · go_enter Tryz.func22, Tryz.ntmps22
    go_wp2_with fail
    go_ret2
    exact ⟨rfl, rfl⟩
  · have h' : ¬ s.size < 1 := by omega
    go_enter Tryz.func22, Tryz.ntmps22
    go_wp2_with fail
    go_ret2
    exact ⟨rfl, rfl⟩

set_option maxHeartbeats 1000000 in
theorem specTextNum_c (s : ByteArray) (w : World) (h1 : 1 ≤ s.size) (h2 : s.size ≤ 10) :
    Calls Tryz.prog 22 #[.string s] w fun e w' => e = .returned (.tuple #[.int .i64 (tnR s.data.toList).1, .bool (tnR s.data.toList).2]) ∧ Below w.heap.size w w' := by
  go_enter Tryz.func22, Tryz.ntmps22
  go_wp2_with fail
  go_loop [4, 5] (fun n i => ∃ k m : Nat, k ≤ s.size ∧ i = .int .i64 k ∧ n = .int .i64 m ∧ m < 10 ^ k ∧ Lib.decFrom 0 (s.data.toList.take k) = some m) (fun _ i => s.size - (intOf i).toNat)
  case atStart => exact ⟨0, 0, Nat.zero_le _, rfl, rfl, by decide, rfl⟩
  case round =>
    obtain ⟨k, m, hk, rfl, rfl, hm, hd⟩ := hrel
    have Hd : Hid (Lib.decFrom 0 (s.data.toList.take k) = some m) := hd
    have Hm : Hid (m < 10 ^ k) := hm
    clear hd hm
    by_cases hlt : k < s.size
    · have Hg : Hid (s.data.toList[k]? = some s[k]) := get_list s k hlt
      have hb : m ≤ 999999999 := by
        have := Hm.out
        have : 10 ^ k ≤ 10 ^ 9 := Nat.pow_le_pow_right (by omega) (by omega)
        omega
      have Hno : Hid ((s[k].toNat : Int) < 48 ∨ 57 < (s[k].toNat : Int) → tnR s.data.toList = (0, false)) := fun h => by rw [tnR, decFrom_none _ 0 k _ Hg.out (digit_no h)]
      go_wp2_with fail
      · go_ret2
        exact ⟨by rw [Hno.out (by omega)]; rfl, Below.refl _ _⟩
      · refine ⟨⟨k + 1, m * 10 + (s[k].toNat - 48), by omega, by go_num, ?_, ?_, ?_⟩, by simp [intOf]; omega⟩
        · have : ((m * 10 + (s[k].toNat - 48) : Nat) : Int) = (m : Int) * 10 + ((s[k].toNat : Int) - 48) := by omega
          rw [this]
        · have := Hm.out
          rw [Nat.pow_succ]
          omega
        · exact Lib.decFrom_take _ k 0 m _ _ Hd.out Hg.out (digit_yes (by omega) (by omega))
      · go_ret2
        exact ⟨by rw [Hno.out (by omega)]; rfl, Below.refl _ _⟩
    · have hks : k = s.size := by omega
      have hb : m ≤ 10000000000 := by
        have := Hm.out
        have : 10 ^ k ≤ 10 ^ 10 := Nat.pow_le_pow_right (by omega) (by omega)
        omega
      have Hf : Hid (Lib.decFrom 0 s.data.toList = some m) := by
        have := Hd.out
        rw [List.take_of_length_le (by simp; omega)] at this
        exact this
      clear Hd Hm hks
      by_cases hn : numL m = s.data.toList
      · have Hr : Hid (tnR s.data.toList = ((m : Int), true)) := by show tnR _ = _; rw [tnR, Hf.out]; simp only [if_pos hn]
        have Hs : Hid ((⟨(numL m).toArray⟩ : ByteArray) = s) := by show _ = _; rw [hn]
        clear hn Hf
        go_wp2_with fail
        refine (specNumText_all _ _).mono ?_
        rintro e w1 ⟨rfl, hb1⟩
        rw [Hs.out]
        go_wp2_with fail
        go_ret2
        exact ⟨by rw [Hr.out]; rfl, hb1⟩
      · have Hr : Hid (tnR s.data.toList = (0, false)) := by show tnR _ = _; rw [tnR, Hf.out]; simp only [if_neg hn]
        have hne : (numL m == s.toList) = false := by rw [ByteArray.toList_eq]; simpa using hn
        clear hn Hf
        go_wp2_with fail
        refine (specNumText_all _ _).mono ?_
        rintro e w1 ⟨rfl, hb1⟩
        go_wp2_with fail
        go_ret2
        exact ⟨by rw [Hr.out]; rfl, hb1⟩

/-- The specification's TextNum, at every text. -/
theorem specTextNum_all (s : ByteArray) (w : World) (hs : s.size ≤ maxLen) :
    Calls Tryz.prog 22 #[.string s] w fun e w' => e = .returned (.tuple #[.int .i64 (tnR s.data.toList).1, .bool (tnR s.data.toList).2]) ∧ Below w.heap.size w w' := by
  by_cases h : s.size < 1 ∨ 10 < s.size
  · have e : tnR s.data.toList = (0, false) := by
      rcases h with h | h
      · have hz : s.data.size = 0 := by have : s.size = s.data.size := rfl; omega
        have : s.data.toList = [] := by rw [← List.length_eq_zero_iff, Array.length_toList]; exact hz
        rw [this]; exact tn_nil
      · exact tn_long (by simpa using h)
    rw [e]
    exact (specTextNum_short s w h hs).mono fun e w' ⟨he, hw⟩ => ⟨he, by rw [hw]; exact Below.refl _ _⟩
  · exact specTextNum_c s w (by omega) (by omega)
end Go.Proofs.YtejleghdgdbbnaaGreatDoor

namespace Go.Proofs.YtejleghdgdbbnaaGreatDoor
open Go.ChangeShapes Go.WideShapes Go.ChangeAt Go.RowKit

/-- The library's bound on what it searches by a table holds some number. -/
def MaxL (w : World) : Prop := ∃ m, w.cell? ⟨2, 0, none⟩ = some (.int .i64 m)

theorem MaxL.on {w w' : World} (h : MaxL w) (hb : Below w.heap.size w w') : MaxL w' := by
  obtain ⟨m, hm⟩ := h
  exact ⟨m, (hb.cell (World.block_lt_of_cell? w _ hm)).trans hm⟩

theorem clone_c (s : ByteArray) (hs : s.size ≤ 281474976710656) (w : World) :
    Calls Tryz.prog 76 #[.string s] w fun e w' => e = .returned (.string s) ∧ Below w.heap.size w w' := by
  go_enter Tryz.func76, Tryz.ntmps76
  go_wp2_with fail
  refine (Tryz.stringslite_Clone s _ hs).mono ?_
  rintro e w1 ⟨rfl, hb1⟩
  go_wp2_with fail
  go_ret
  exact ⟨rfl, hb1⟩

theorem pcs_len (b : UInt8) (s : ByteArray) : Lib.countB s ⟨#[b]⟩ + 1 = (pcs b s.data.toList).length := by
  have h := Lib.splitB_all ⟨#[b]⟩ (Nat.le_refl 1) 0 _ s rfl
  rw [← h, ← List.length_map (f := Value.string), splitB_strs, strs_length]

theorem pcs_size (b : UInt8) : ∀ (l : List UInt8) (p : List UInt8), p ∈ pcs b l → p.length ≤ l.length
  | [], p, h => by simp [pcs] at h; simp [h]
  | c :: l, p, h => by
    unfold pcs at h
    split at h
    · rcases List.mem_cons.1 h with h | h
      · simp [h]
      · have := pcs_size b l p h; simp; omega
    · cases hp : pcs b l with
      | nil => exact absurd hp (pcs_ne b l)
      | cons q r =>
        rw [hp] at h
        rcases List.mem_cons.1 h with h | h
        · have := pcs_size b l q (by rw [hp]; simp); simp [h]; omega
        · have := pcs_size b l p (by rw [hp]; simp [h]); simp; omega

theorem pcs_count (b : UInt8) : ∀ l : List UInt8, (pcs b l).length ≤ l.length + 1
  | [] => by simp [pcs]
  | c :: l => by
    have := pcs_count b l
    unfold pcs
    split
    · simp; omega
    · split
      · simp
      · rename_i q r hp
        rw [hp] at this
        simp at this ⊢
        omega

theorem row_alloc (w : World) (xs : List Value) (t : TypeId) : Row (w.alloc (.cells xs.toArray t)) w.heap.size xs := by
  refine ⟨fun i u hu => ?_, fun i => ?_, by go_size⟩
  · rw [World.cell?_alloc_at _ _ _ _ rfl]
    simpa using hu
  · exact World.frozen?_alloc_at _ _ _ _ rfl

theorem split_c (s : ByteArray) (b : UInt8) (hs : s.size ≤ 1048576) (w : World) (hm : MaxL w) :
    Calls Tryz.prog 75 #[.string s, .string ⟨#[b]⟩] w fun e w' =>
      e = .returned (.slice (some ⟨w.heap.size, 0, none⟩) (pcs b s.data.toList).length (pcs b s.data.toList).length) ∧ Row w' w.heap.size (strs (pcs b s.data.toList)) ∧ Below w.heap.size w w' := by
  obtain ⟨m, hm⟩ := hm
  refine (Tryz.strings_Split s ⟨#[b]⟩ m w (by omega) hm (Nat.le_refl 1)).mono ?_
  rintro e w1 ⟨rfl, rfl⟩
  rw [pcs_len, splitB_strs]
  exact ⟨rfl, row_alloc _ _ _, by go_grown⟩

theorem set_same {xs : List Value} {k : Nat} {u : Value} (h : xs[k]? = some u) : xs.set k u = xs := by
  obtain ⟨hk, e⟩ := List.getElem?_eq_some_iff.1 h
  rw [← e]
  exact List.set_getElem_self hk

set_option maxHeartbeats 2000000 in
theorem implParts_c (s : ByteArray) (b : UInt8) (hs : s.size ≤ 1048576) (w : World) (hm : MaxL w) :
    Calls Tryz.prog 61 #[.string s, .int .u8 (b.toNat : Int)] w fun e w' =>
      ∃ g cap, e = .returned (.slice (some ⟨g, 0, none⟩) (pcs b s.data.toList).length cap) ∧ w.heap.size ≤ g ∧ Row w' g (strs (pcs b s.data.toList)) ∧ Below w.heap.size w w' := by
  have Hm : Hid (MaxL w) := hm
  have hcv : (convert 22 9 (.slice (some ⟨w.heap.size, 0, none⟩) 1 1)).run Tryz.prog (w.alloc (.cells #[.int .u8 (b.toNat : Int)] 5)) = .ok (.string ⟨#[b]⟩) (w.alloc (.cells #[.int .u8 (b.toNat : Int)] 5)) := by
    have := conv_one w.heap.size (b.toNat : Int) (w.alloc (.cells #[.int .u8 (b.toNat : Int)] 5)) (by simp) (by omega) (by have := b.toNat_lt; omega)
    rw [this]
    simp
  clear hm
  have hcnt : (pcs b s.data.toList).length ≤ s.size + 1 := pcs_count b s.data.toList
  have HP : Hid (∀ p, p ∈ pcs b s.data.toList → p.length ≤ s.size) := fun p hp => pcs_size b s.data.toList p hp
  go_enter Tryz.func61, Tryz.ntmps61
  go_wp2_with fail
  refine (split_c s b hs _ (Hm.out.on (by go_grown))).mono ?_
  rintro e V ⟨rfl, hrow, hbv⟩
  have HB : Hid (Below w.heap.size w V) := below_then (by go_grown) hbv
  have HR : Hid (Row V (w.heap.size + 1) (strs (pcs b s.data.toList))) := by
    show Row _ _ _
    simpa using hrow
  clear hrow hbv
  generalize hP : pcs b s.data.toList = P at *
  have HQ : Hid (pcs b s.data.toList = P) := hP
  clear hP hcv
  go_wp2_with fail
  go_loopw [15] (fun i wr => ∃ j : Nat, j ≤ P.length ∧ i = .int .i64 j ∧ Row wr (w.heap.size + 1) (strs P) ∧ Below w.heap.size w wr) (fun i _ => P.length - (intOf i).toNat)
  case atStart => exact ⟨0, Nat.zero_le _, rfl, HR.out, HB.out⟩
  case round =>
    obtain ⟨j, hj, rfl, hr, hb⟩ := hrel
    have HR1 : Hid (Row wr (w.heap.size + 1) (strs P)) := hr
    have HB1 : Hid (Below w.heap.size w wr) := hb
    clear hr hb HR HB
    by_cases hlt : j < P.length
    · have hi0 : (0 : Int) ≤ (j : Int) := by omega
      have hi1 : (j : Int) < (P.length : Int) := by omega
      have Hu : Hid ((strs P)[j]? = some (.string ⟨P[j].toArray⟩)) := by show _ = _; rw [strs_get, List.getElem?_eq_getElem hlt]; rfl
      have hc : wr.cell? ⟨w.heap.size + 1, j, none⟩ = some (.string ⟨P[j].toArray⟩) := HR1.out.cell j _ Hu.out
      have hsz : (⟨P[j].toArray⟩ : ByteArray).size ≤ 281474976710656 := by
        have := HP.out P[j] (List.getElem_mem hlt)
        have e : (⟨P[j].toArray⟩ : ByteArray).size = P[j].length := by simp [ByteArray.size]
        omega
      go_wp2_with fail
      refine (clone_c _ hsz _).mono ?_
      rintro e w1 ⟨rfl, hb1⟩
      have HR2 : Hid (Row w1 (w.heap.size + 1) (strs P)) := HR1.out.below hb1
      have HB2 : Hid (Below w.heap.size w w1) := below_then HB1.out hb1
      have hc1 : w1.cell? ⟨w.heap.size + 1, j, none⟩ = some (.string ⟨P[j].toArray⟩) := HR2.out.cell j _ Hu.out
      have hf1 : w1.frozen? ⟨w.heap.size + 1, j, none⟩ = false := HR2.out.free j
      have HR3 : Hid (Row (w1.setCell ⟨w.heap.size + 1, j, none⟩ (.string ⟨P[j].toArray⟩)) (w.heap.size + 1) (strs P)) := by
        have := HR2.out.set j (by rw [strs_length]; exact hlt) (.string ⟨P[j].toArray⟩)
        rw [set_same Hu.out] at this
        exact this
      clear hb1 hc hsz HR1 HB1
      go_wp2_with fail
      go_roundw
      case rel => exact ⟨j + 1, by omega, by go_num, HR3.out, HB2.out.setCell (by simp) _⟩
      case measure => simp [intOf]; omega
    · go_wp2_with fail
      go_ret
      exact ⟨w.heap.size + 1, P.length, by rw [HQ.out]; rfl, by omega, by rw [HQ.out]; exact HR1.out, HB1.out⟩
end Go.Proofs.YtejleghdgdbbnaaGreatDoor

namespace Go.Proofs.YtejleghdgdbbnaaGreatDoor
open Go.RowKit

/-- Pieces put together again. -/
def joinB (b : UInt8) : List (List UInt8) → List UInt8
  | [] => []
  | [p] => p
  | p :: q :: r => p ++ b :: joinB b (q :: r)

theorem join_pcs (b : UInt8) : ∀ l, joinB b (pcs b l) = l
  | [] => rfl
  | c :: l => by
    have ih := join_pcs b l
    cases h : pcs b l with
    | nil => exact absurd h (pcs_ne b l)
    | cons p r =>
      rw [h] at ih
      simp only [pcs, h]
      split
      · rename_i e
        simp only [joinB, List.nil_append, ih, e]
      · cases r with
        | nil => simp only [joinB] at ih ⊢; rw [ih]
        | cons q r => simp only [joinB, List.cons_append] at ih ⊢; rw [ih]

theorem pcs_at (b : UInt8) (x y : List UInt8) (h : ∀ k : Nat, x[k]? ≠ some b) : pcs b (x ++ b :: y) = x :: pcs b y := by
  have h1 : (x ++ b :: y)[x.length]? = some b := by rw [List.getElem?_append_right (Nat.le_refl _)]; simp
  rw [pcs_cut b x.length (x ++ b :: y) h1 (fun k hk => by rw [List.getElem?_append_left hk]; exact h k)]
  simp

theorem num_no_slash (n : Int) : ∀ k : Nat, (numL n)[k]? ≠ some 47 := by
  intro k hk
  cases h : timB n
  · rw [numL, h] at hk; simp at hk
  · rw [numL, h] at hk
    have h2 := decFrom_none _ 0 k 47 hk rfl
    have h3 := decFrom_digits _ n.toNat (Nat.le_refl _)
    simp only [cond_true] at h2
    rw [h2] at h3
    cases h3

theorem tn_num {n : Int} (h : timB n = true) : tnR (numL n) = (n, true) := by
  have h0 := (tim_yes h).1
  have hd : Lib.decFrom 0 (numL n) = some n.toNat := by rw [numL, h]; exact decFrom_digits _ _ (Nat.le_refl _)
  have e : ((n.toNat : Nat) : Int) = n := by omega
  simp [tnR, hd, e]

theorem tn_true {p : List UInt8} (h : (tnR p).2 = true) : p = numL (tnR p).1 := by
  unfold tnR at h ⊢
  cases hd : Lib.decFrom 0 p with
  | none => simp [hd] at h
  | some n =>
    simp only [hd] at h ⊢
    by_cases hn : numL n = p
    · simp only [if_pos hn]; exact hn.symm
    · simp [if_neg hn] at h

theorem tn_false {p : List UInt8} (h : (tnR p).2 = false) : (tnR p).1 = 0 := by
  unfold tnR at h ⊢
  cases hd : Lib.decFrom 0 p with
  | none => rfl
  | some n =>
    simp only [hd] at h ⊢
    by_cases hn : numL n = p
    · simp [if_pos hn] at h
    · simp only [if_neg hn]

theorem tim_of_res {n : Int} (h : resB n = true) : timB n = true := by
  have := res_yes h
  simp [timB]; omega

/-- The number of a piece; 0 where there is none. -/
def pn (P : List (List UInt8)) (i : Nat) : Int := ((P[i]?).map fun p => (tnR p).1).getD 0

/-- What TextVec answers of a text. -/
def tvR (l : List UInt8) : (Int × Int × Int) × Bool :=
  if vtL (pn (pcs 47 l) 0) (pn (pcs 47 l) 1) (pn (pcs 47 l) 2) = l then ((pn (pcs 47 l) 0, pn (pcs 47 l) 1, pn (pcs 47 l) 2), true) else ((0, 0, 0), false)

theorem vt_pcs {a b c : Int} (h : vokB a b c = true) : pcs 47 (vtL a b c) = [numL a, numL b, numL c] := by
  rw [vtL, h]
  simp only [cond_true, List.append_assoc]
  rw [show numL a ++ ([47] ++ (numL b ++ ([47] ++ numL c))) = numL a ++ 47 :: (numL b ++ 47 :: numL c) from rfl, pcs_at 47 _ _ (num_no_slash a), pcs_at 47 _ _ (num_no_slash b), pcs_none 47 _ (num_no_slash c)]

/-- Where it answers true. -/
theorem tv_yes {l : List UInt8} (hl : l ≠ []) {a b c : Int} (h : vtL a b c = l) : vokB a b c = true ∧ pcs 47 l = [numL a, numL b, numL c] ∧ timB a = true ∧ timB b = true ∧ timB c = true := by
  have hv : vokB a b c = true := by
    cases hv : vokB a b c
    · rw [vtL, hv] at h; exact absurd h.symm hl
    · rfl
  have hv' := hv
  simp only [vokB, Bool.and_eq_true] at hv'
  exact ⟨hv, by rw [← h]; exact vt_pcs hv, tim_of_res hv'.1.1, tim_of_res hv'.1.2, tim_of_res hv'.2⟩

theorem tv_nil : tvR [] = ((0, 0, 0), false) := by
  have e : pcs 47 [] = [[]] := rfl
  have h0 : pn [[]] 0 = 0 := by simp [pn, tn_nil]
  have h1 : pn [[]] 1 = 0 := by simp [pn]
  have h2 : pn [[]] 2 = 0 := by simp [pn]
  rw [tvR, e, h0, h1, h2, if_neg]
  intro h
  have hv : vokB 0 0 0 = true := by decide
  have h3 := vt_pcs hv
  rw [h, e] at h3
  have h4 := congrArg List.length h3
  simp at h4

theorem tv_true {l : List UInt8} (h : vtL (pn (pcs 47 l) 0) (pn (pcs 47 l) 1) (pn (pcs 47 l) 2) = l) : tvR l = ((pn (pcs 47 l) 0, pn (pcs 47 l) 1, pn (pcs 47 l) 2), true) := by rw [tvR, if_pos h]
theorem tv_false {l : List UInt8} (h : ¬ vtL (pn (pcs 47 l) 0) (pn (pcs 47 l) 1) (pn (pcs 47 l) 2) = l) : tvR l = ((0, 0, 0), false) := by rw [tvR, if_neg h]

/-- Not three pieces. -/
theorem tv_len {l : List UInt8} (h : (pcs 47 l).length ≠ 3) : tvR l = ((0, 0, 0), false) := by
  by_cases hl : l = []
  · rw [hl]; exact tv_nil
  · apply tv_false
    intro e
    have := (tv_yes hl e).2.1
    rw [this] at h
    exact h rfl

/-- Three pieces, one of which is no number. -/
theorem tv_bad {l : List UInt8} {p0 p1 p2 : List UInt8} (h : pcs 47 l = [p0, p1, p2]) (hb : ((tnR p0).2 && (tnR p1).2 && (tnR p2).2) = false) : tvR l = ((0, 0, 0), false) := by
  by_cases hl : l = []
  · rw [hl]; exact tv_nil
  · apply tv_false
    intro e
    obtain ⟨_, h2, ta, tb, tc⟩ := tv_yes hl e
    generalize pn (pcs 47 l) 0 = a at *
    generalize pn (pcs 47 l) 1 = b at *
    generalize pn (pcs 47 l) 2 = c at *
    rw [h] at h2
    injection h2 with e0 h2
    injection h2 with e1 h2
    injection h2 with e2 _
    rw [e0, e1, e2, tn_num ta, tn_num tb, tn_num tc] at hb
    cases hb

theorem pn_three (p0 p1 p2 : List UInt8) : pn [p0, p1, p2] 0 = (tnR p0).1 ∧ pn [p0, p1, p2] 1 = (tnR p1).1 ∧ pn [p0, p1, p2] 2 = (tnR p2).1 := ⟨rfl, rfl, rfl⟩

/-- Three numbers. -/
theorem tv_good {l : List UInt8} {p0 p1 p2 : List UInt8} (h : pcs 47 l = [p0, p1, p2]) (h0 : (tnR p0).2 = true) (h1 : (tnR p1).2 = true) (h2 : (tnR p2).2 = true) :
    tvR l = bif vokB (tnR p0).1 (tnR p1).1 (tnR p2).1 then (((tnR p0).1, (tnR p1).1, (tnR p2).1), true) else ((0, 0, 0), false) := by
  have hj := join_pcs 47 l
  rw [h] at hj
  have el : l = numL (tnR p0).1 ++ [47] ++ numL (tnR p1).1 ++ [47] ++ numL (tnR p2).1 := by
    rw [← tn_true h0, ← tn_true h1, ← tn_true h2, ← hj]
    simp [joinB]
  cases hv : vokB (tnR p0).1 (tnR p1).1 (tnR p2).1
  · apply tv_false
    rw [h, (pn_three p0 p1 p2).1, (pn_three p0 p1 p2).2.1, (pn_three p0 p1 p2).2.2, vtL, hv]
    intro e
    rw [← e] at el
    simp at el
  · have e : vtL (pn (pcs 47 l) 0) (pn (pcs 47 l) 1) (pn (pcs 47 l) 2) = l := by
      rw [h, (pn_three p0 p1 p2).1, (pn_three p0 p1 p2).2.1, (pn_three p0 p1 p2).2.2, vtL, hv]
      exact el.symm
    rw [tv_true e, h]
    rfl
end Go.Proofs.YtejleghdgdbbnaaGreatDoor

namespace Go.Proofs.YtejleghdgdbbnaaGreatDoor
open Go.ChangeShapes Go.WideShapes Go.ChangeAt Go.RowKit

/-- The three numbers behind the first j pieces. -/
def ints3 (P : List (List UInt8)) (j : Nat) : List Value := [.int .i64 (if 0 < j then pn P 0 else 0), .int .i64 (if 1 < j then pn P 1 else 0), .int .i64 (if 2 < j then pn P 2 else 0)]

theorem ints3_step (P : List (List UInt8)) (j : Nat) (h : j < 3) : (ints3 P j).set j (.int .i64 (pn P j)) = ints3 P (j + 1) := by
  rcases j with _ | _ | _ | j
  · simp [ints3]
  · simp [ints3]
  · simp [ints3]
  · omega

theorem ints3_on (P : List (List UInt8)) (j : Nat) (h : 3 ≤ j) : ints3 P j = ints3 P (j + 1) := by
  have e : ∀ i, i < 3 → (i < j) = (i < j + 1) := fun i hi => by rw [eq_iff_iff]; omega
  simp only [ints3, e 0 (by omega), e 1 (by omega), e 2 (by omega)]

theorem ints3_end (P : List (List UInt8)) : ints3 P P.length = [.int .i64 (pn P 0), .int .i64 (pn P 1), .int .i64 (pn P 2)] := by
  have e : ∀ i : Nat, (if i < P.length then pn P i else 0) = pn P i := by
    intro i
    split
    · rfl
    · rename_i h
      rw [pn, List.getElem?_eq_none (by omega)]
      rfl
  simp only [ints3, e]

theorem pn_at (P : List (List UInt8)) (j : Nat) (h : j < P.length) : pn P j = (tnR P[j]).1 := by
  rw [pn, List.getElem?_eq_getElem h]; rfl

theorem tn_bound (p : List UInt8) : 0 ≤ (tnR p).1 ∧ (tnR p).1 ≤ 1000000000 := by
  cases h : (tnR p).2
  · rw [tn_false h]; omega
  · have e := tn_true h
    unfold tnR at h ⊢
    cases hd : Lib.decFrom 0 p with
    | none => simp
    | some n =>
      simp only [hd] at h ⊢
      by_cases hn : numL n = p
      · simp only [if_pos hn]
        have := (num_some hn (num_ne_nil hd hn)).1
        exact tim_yes this
      · simp [if_neg hn]

set_option maxHeartbeats 2000000 in
theorem specTextVec_c (s : ByteArray) (hs : s.size ≤ 1048576) (w : World) :
    Calls Tryz.prog 40 #[.string s] w fun e w' => e = .returned (.tuple #[.agg #[.int .i64 (tvR s.data.toList).1.1, .int .i64 (tvR s.data.toList).1.2.1, .int .i64 (tvR s.data.toList).1.2.2], .bool (tvR s.data.toList).2]) ∧ Below w.heap.size w w' := by
  have HP : Hid (∀ p, p ∈ pcs 47 s.data.toList → p.length ≤ s.size) := fun p hp => pcs_size 47 s.data.toList p hp
  have hcnt : (pcs 47 s.data.toList).length ≤ s.size + 1 := pcs_count 47 s.data.toList
  go_enter Tryz.func40, Tryz.ntmps40
  go_wp2_with fail
  refine (specParts_c s 47 hs _).mono ?_
  rintro e V ⟨gp, cp, rfl, hgp, hrp, hbv⟩
  have HBV : Hid (Below w.heap.size w V) := below_then (by go_grown) hbv
  have HRP : Hid (Row V gp (strs (pcs 47 s.data.toList))) := hrp
  have HR0 : Hid (Row V w.heap.size [.int .i64 0, .int .i64 0, .int .i64 0]) := by
    have h0 : Row (w.alloc (.cells #[.int .i64 0, .int .i64 0, .int .i64 0] 24)) w.heap.size [.int .i64 0, .int .i64 0, .int .i64 0] := row_alloc w _ _
    exact (h0.below (by go_grown)).below hbv
  have HR1 : Hid (Row V (w.heap.size + 1) (ints3 (pcs 47 s.data.toList) 0)) := by
    have h0 := row_alloc (w.alloc (.cells #[.int .i64 0, .int .i64 0, .int .i64 0] 24)) [.int .i64 0, .int .i64 0, .int .i64 0] 3
    have h1 := h0.below hbv
    rw [World.size_alloc] at h1
    exact h1
  have hgp2 : w.heap.size + 2 ≤ gp := by simp at hgp; omega
  clear hbv hrp hgp
  generalize hP : pcs 47 s.data.toList = P at *
  have HQ : Hid (pcs 47 s.data.toList = P) := hP
  clear hP
  go_wp2_with fail
  go_loopw [12] (fun i wr => ∃ j : Nat, j ≤ P.length ∧ i = .int .i64 j ∧ Row wr gp (strs P) ∧ Row wr (w.heap.size + 1) (ints3 P j) ∧ Row wr w.heap.size [.int .i64 0, .int .i64 0, .int .i64 0] ∧ Below w.heap.size w wr) (fun i _ => P.length - (intOf i).toNat)
  case atStart => exact ⟨0, Nat.zero_le _, rfl, HRP.out, HR1.out, HR0.out, HBV.out⟩
  case round =>
    obtain ⟨j, hj, rfl, r1, r2, r3, hb⟩ := hrel
    have H1 : Hid (Row wr gp (strs P)) := r1
    have H2 : Hid (Row wr (w.heap.size + 1) (ints3 P j)) := r2
    have H3 : Hid (Row wr w.heap.size [.int .i64 0, .int .i64 0, .int .i64 0]) := r3
    have HB : Hid (Below w.heap.size w wr) := hb
    clear r1 r2 r3 hb HRP HR1 HR0 HBV
    by_cases hlt : j < P.length
    · have hi0 : (0 : Int) ≤ (j : Int) := by omega
      have hi1 : (j : Int) < (P.length : Int) := by omega
      have Hu : Hid ((strs P)[j]? = some (.string ⟨P[j].toArray⟩)) := by show _ = _; rw [strs_get, List.getElem?_eq_getElem hlt]; rfl
      have hc : wr.cell? ⟨gp, j, none⟩ = some (.string ⟨P[j].toArray⟩) := H1.out.cell j _ Hu.out
      by_cases h3 : j < 3
      · have h3' : (j : Int) < 3 := by omega
        have hsz : (⟨P[j].toArray⟩ : ByteArray).size ≤ maxLen := by
          have h1 := HP.out P[j] (List.getElem_mem hlt)
          have e : (⟨P[j].toArray⟩ : ByteArray).size = P[j].length := by simp [ByteArray.size]
          unfold maxLen
          omega
        go_wp2_with fail
        refine (specTextNum_all _ _ hsz).mono ?_
        rintro e w1 ⟨rfl, hb1⟩
        have K1 : Hid (Row w1 gp (strs P)) := H1.out.below hb1
        have K2 : Hid (Row w1 (w.heap.size + 1) (ints3 P j)) := H2.out.below hb1
        have K3 : Hid (Row w1 w.heap.size [.int .i64 0, .int .i64 0, .int .i64 0]) := H3.out.below hb1
        have KB : Hid (Below w.heap.size w w1) := below_then HB.out hb1
        obtain ⟨u, hu⟩ : ∃ u, w1.cell? ⟨w.heap.size + 1, j, none⟩ = some u := ⟨_, K2.out.cell j _ (List.getElem?_eq_getElem (show j < (ints3 P j).length from h3))⟩
        have hf : w1.frozen? ⟨w.heap.size + 1, j, none⟩ = false := K2.out.free j
        have hg1 := Lib.grownBy_setB (a := w1) (w := w1) (b := w.heap.size + 1) ⟨rfl, rfl, rfl, Nat.le_refl _, fun _ _ _ => rfl⟩ j (.int .i64 (tnR P[j]).1)
        have L1 : Hid (Row (w1.setCell ⟨w.heap.size + 1, j, none⟩ (.int .i64 (tnR P[j]).1)) gp (strs P)) := K1.out.far hg1 (by simp; omega)
        have L3 : Hid (Row (w1.setCell ⟨w.heap.size + 1, j, none⟩ (.int .i64 (tnR P[j]).1)) w.heap.size [.int .i64 0, .int .i64 0, .int .i64 0]) := K3.out.far hg1 (by simp)
        have L2 : Hid (Row (w1.setCell ⟨w.heap.size + 1, j, none⟩ (.int .i64 (tnR P[j]).1)) (w.heap.size + 1) (ints3 P (j + 1))) := by
          have := K2.out.set j (show j < (ints3 P j).length from h3) (.int .i64 (tnR P[j]).1)
          rw [← pn_at P j hlt, ints3_step P j h3, pn_at P j hlt] at this
          exact this
        clear hb1 hc hsz H1 H2 H3 HB K1 K2 K3 hg1
        generalize hv : (tnR P[j]).1 = v at *
        clear hv
        go_wp2_with fail
        exact ⟨⟨j + 1, by omega, by go_num, L1.out, L2.out, L3.out, KB.out.setCell (by simp) _⟩, by simp [intOf]; omega⟩
      · have h3' : ¬ (j : Int) < 3 := by omega
        have L2 : Hid (Row wr (w.heap.size + 1) (ints3 P (j + 1))) := by rw [← ints3_on P j (by omega)]; exact H2.out
        clear H2
        go_wp2_with fail
        exact ⟨⟨j + 1, by omega, by go_num, H1.out, L2.out, H3.out, HB.out⟩, by simp [intOf]; omega⟩
    · have hje : j = P.length := by omega
      subst hje
      have H4 := H2.out
      rw [ints3_end] at H4
      have HT : Hid (∀ a b c, pn P 0 = a → pn P 1 = b → pn P 2 = c → (vtL a b c = s.data.toList → tvR s.data.toList = ((a, b, c), true)) ∧ (¬ vtL a b c = s.data.toList → tvR s.data.toList = ((0, 0, 0), false))) := by
        intro a b c ha hb hc
        subst ha hb hc
        have e := HQ.out
        subst e
        exact ⟨fun h => tv_true h, fun h => tv_false h⟩
      have HT2 := HT.out _ _ _ rfl rfl rfl
      generalize pn P 0 = a at *
      generalize pn P 1 = b at *
      generalize pn P 2 = c at *
      have c0 : wr.cell? ⟨w.heap.size + 1, 0, none⟩ = some (.int .i64 a) := H4.cell 0 _ rfl
      have c1 : wr.cell? ⟨w.heap.size + 1, 1, none⟩ = some (.int .i64 b) := H4.cell 1 _ rfl
      have c2 : wr.cell? ⟨w.heap.size + 1, 2, none⟩ = some (.int .i64 c) := H4.cell 2 _ rfl
      have n0 : wr.heap.size ≠ w.heap.size + 1 := by have := H4.lt; omega
      have HT3 : Hid ((vtL a b c = s.data.toList → tvR s.data.toList = ((a, b, c), true)) ∧ (¬ vtL a b c = s.data.toList → tvR s.data.toList = ((0, 0, 0), false))) := HT2
      clear HT HT2 H4 H2 H1 HP HQ hlt hj
      go_wp2_with fail
      go_region_held3 (fun w' => w'.cell? ⟨w.heap.size + 1, 0, none⟩ = some (.int .i64 a) ∧ w'.cell? ⟨w.heap.size + 1, 1, none⟩ = some (.int .i64 b) ∧ w'.cell? ⟨w.heap.size + 1, 2, none⟩ = some (.int .i64 c)) (go_keep) (fail)
      go_split_ands
      go_wp2_with fail
      refine (specVecText_all a b c _).mono ?_
      rintro e w5 ⟨rfl, hb5⟩
      obtain ⟨d0, d1, d2⟩ := kept3 hb5 wr.heap.size (.int .i64 a) (.int .i64 b) (.int .i64 c) (by go_size) (by simp [go_sem])
      have HR5 : Hid (Row w5 w.heap.size [.int .i64 0, .int .i64 0, .int .i64 0]) := (H3.out.below (by go_grown)).below hb5
      have HB5 : Hid (Below w.heap.size w w5) := below_then (below_then HB.out (by go_grown)) hb5
      have q0 : w5.cell? ⟨w.heap.size, 0, none⟩ = some (.int .i64 0) := HR5.out.cell 0 _ rfl
      have q1 : w5.cell? ⟨w.heap.size, 1, none⟩ = some (.int .i64 0) := HR5.out.cell 1 _ rfl
      have q2 : w5.cell? ⟨w.heap.size, 2, none⟩ = some (.int .i64 0) := HR5.out.cell 2 _ rfl
      have f0 : w5.frozen? ⟨w.heap.size, 0, none⟩ = false := HR5.out.free 0
      have f1 : w5.frozen? ⟨w.heap.size, 1, none⟩ = false := HR5.out.free 1
      have f2 : w5.frozen? ⟨w.heap.size, 2, none⟩ = false := HR5.out.free 2
      clear hb5 HR5 H3 HB c0 c1 c2
      by_cases heq : vtL a b c = s.data.toList
      · have Hr : Hid (tvR s.data.toList = ((a, b, c), true)) := HT3.out.1 heq
        have Hs : Hid ((⟨(vtL a b c).toArray⟩ : ByteArray) = s) := by show _ = _; rw [heq]
        clear heq HT3
        rw [Hs.out]
        go_wp2_with fail
        have hb6 := HB5.out
        exact bodyPost_ret (v := .tuple #[.agg #[.int .i64 a, .int .i64 b, .int .i64 c], .bool true]) (by simp [results, Tryz.results40, go_sem, *]) rfl ⟨by rw [Hr.out], by go_grown⟩
      · have Hr : Hid (tvR s.data.toList = ((0, 0, 0), false)) := HT3.out.2 heq
        have hne : (vtL a b c == s.toList) = false := by rw [ByteArray.toList_eq]; simpa using heq
        clear heq HT3
        go_wp2_with fail
        have hb6 := HB5.out
        exact bodyPost_ret (v := .tuple #[.agg #[.int .i64 0, .int .i64 0, .int .i64 0], .bool false]) (by simp [results, Tryz.results40, go_sem, *]) rfl ⟨by rw [Hr.out], by go_grown⟩
end Go.Proofs.YtejleghdgdbbnaaGreatDoor

namespace Go.Proofs.YtejleghdgdbbnaaGreatDoor
open Go.ChangeShapes Go.WideShapes Go.ChangeAt Go.RowKit

/-- strconv's two errors lie there, each some value of an interface's type. -/
def Errs (w : World) : Prop := (∃ tp p, w.var? Tryz.prog "strconv.ErrSyntax" = some #[.iface tp p]) ∧ (∃ tp p, w.var? Tryz.prog "strconv.ErrRange" = some #[.iface tp p]) ∧ 4 < w.heap.size ∧ 5 < w.heap.size

theorem gErrS : Tryz.prog.globalNamed "strconv.ErrSyntax" = some 4 := by kernel_rfl
theorem gErrR : Tryz.prog.globalNamed "strconv.ErrRange" = some 5 := by kernel_rfl

theorem Errs.on {w w' : World} (h : Errs w) (hb : Below w.heap.size w w') : Errs w' := by
  obtain ⟨⟨a, b, h1⟩, ⟨c, d, h2⟩, h3, h4⟩ := h
  exact ⟨⟨a, b, var?_below hb gErrS h3 h1⟩, ⟨c, d, var?_below hb gErrR h4 h2⟩, Nat.lt_of_lt_of_le h3 hb.size, Nat.lt_of_lt_of_le h4 hb.size⟩

theorem implTextNum_ok (s : ByteArray) (w : World) (hs : s.size ≤ 281474976710656) (ht : Tab w) (v : Int) (h : Lib.atoiAll s.data.toList = .ok v) :
    Calls Tryz.prog 39 #[.string s] w fun e w' => e = .returned (.tuple #[.int .i64 (tnR s.data.toList).1, .bool (tnR s.data.toList).2]) ∧ Below w.heap.size w w' := by
  have Ht : Hid (Tab w) := ht
  have Ha : Hid (Lib.atoiAll s.data.toList = .ok v) := h
  clear ht h
  by_cases hn : numL v = s.data.toList
  · have Hr : Hid (tnR s.data.toList = (v, true)) := by show tnR _ = _; rw [tn_ok Ha.out, if_pos hn]
    have Hs : Hid ((⟨(numL v).toArray⟩ : ByteArray) = s) := by show _ = _; rw [hn]
    clear hn
    go_enter Tryz.func39, Tryz.ntmps39
    go_wp2_with fail
    refine (Tryz.strconv_Atoi_ok s (by omega) v Ha.out _).mono ?_
    rintro e w1 ⟨rfl, hw⟩
    have hb1 : Below w.heap.size w w1 := by
      rcases hw with rfl | ⟨t, rfl⟩
      · exact Below.refl _ _
      · exact Lib.bytesWorld_below _ _ _
    clear hw
    go_wp2_with fail
    refine (implNumText_c _ _ (Ht.out.on hb1)).mono ?_
    rintro e w2 ⟨rfl, hb2⟩
    rw [Hs.out]
    go_wp2_with fail
    go_ret2
    exact ⟨by rw [Hr.out]; rfl, below_then hb1 hb2⟩
  · have Hr : Hid (tnR s.data.toList = (0, false)) := by show tnR _ = _; rw [tn_ok Ha.out, if_neg hn]
    have hne : (numL v == s.toList) = false := by rw [ByteArray.toList_eq]; simpa using hn
    clear hn
    go_enter Tryz.func39, Tryz.ntmps39
    go_wp2_with fail
    refine (Tryz.strconv_Atoi_ok s (by omega) v Ha.out _).mono ?_
    rintro e w1 ⟨rfl, hw⟩
    have hb1 : Below w.heap.size w w1 := by
      rcases hw with rfl | ⟨t, rfl⟩
      · exact Below.refl _ _
      · exact Lib.bytesWorld_below _ _ _
    clear hw
    go_wp2_with fail
    refine (implNumText_c _ _ (Ht.out.on hb1)).mono ?_
    rintro e w2 ⟨rfl, hb2⟩
    go_wp2_with fail
    go_ret2
    exact ⟨by rw [Hr.out]; rfl, below_then hb1 hb2⟩

theorem implTextNum_err (s : ByteArray) (w : World) (hr : tnR s.data.toList = (0, false))
    (hc : Calls Tryz.prog 62 #[.string s] w fun e w' => ∃ (n : Int) (t : TypeId) (p : Value), e = .returned (.tuple #[.int .i64 n, .iface t p]) ∧ Below w.heap.size w w') :
    Calls Tryz.prog 39 #[.string s] w fun e w' => e = .returned (.tuple #[.int .i64 (tnR s.data.toList).1, .bool (tnR s.data.toList).2]) ∧ Below w.heap.size w w' := by
  have Hr : Hid (tnR s.data.toList = (0, false)) := hr
  have Hc : Hid (Calls Tryz.prog 62 #[.string s] w fun e w' => ∃ (n : Int) (t : TypeId) (p : Value), e = .returned (.tuple #[.int .i64 n, .iface t p]) ∧ Below w.heap.size w w') := hc
  clear hr hc
  go_enter Tryz.func39, Tryz.ntmps39
  go_wp2_with fail
  refine Hc.out.mono ?_
  rintro e w1 ⟨n, t, p, rfl, hb1⟩
  go_wp2_with fail
  go_ret2
  exact ⟨by rw [Hr.out]; rfl, hb1⟩

/-- The program's TextNum, at every text that memory can hold. -/
theorem implTextNum_all (s : ByteArray) (w : World) (hs : s.size ≤ 281474976710656) (ht : Tab w) (he : Errs w) :
    Calls Tryz.prog 39 #[.string s] w fun e w' => e = .returned (.tuple #[.int .i64 (tnR s.data.toList).1, .bool (tnR s.data.toList).2]) ∧ Below w.heap.size w w' := by
  obtain ⟨⟨t1, p1, v1⟩, ⟨t2, p2, v2⟩, _, _⟩ := he
  cases h : Lib.atoiAll s.data.toList
  · exact implTextNum_ok s w hs ht _ h
  · refine implTextNum_err s w (tn_err (by rw [h]; intro v e; cases e)) ?_
    first
    | exact (Tryz.strconv_Atoi_syntax_var s hs h t1 p1 w v1).mono fun e w' ⟨N, he, _, _, hb⟩ => ⟨_, _, _, he, hb⟩
    | exact (Tryz.strconv_Atoi_range_var s hs h t2 p2 w v2).mono fun e w' ⟨N, he, _, _, hb⟩ => ⟨_, _, _, he, hb⟩
  · refine implTextNum_err s w (tn_err (by rw [h]; intro v e; cases e)) ?_
    first
    | exact (Tryz.strconv_Atoi_syntax_var s hs h t1 p1 w v1).mono fun e w' ⟨N, he, _, _, hb⟩ => ⟨_, _, _, he, hb⟩
    | exact (Tryz.strconv_Atoi_range_var s hs h t2 p2 w v2).mono fun e w' ⟨N, he, _, _, hb⟩ => ⟨_, _, _, he, hb⟩
end Go.Proofs.YtejleghdgdbbnaaGreatDoor
