/- Plain facts on the texts of vectors: when a text is one, and of which. -/
import Derived.Test.YtejleghdgdbbnaaDoorVecT
import Derived.Test.YtejleghdgdbbnaaDoorNumC
import Derived.Test.YtejleghdgdbbnaaDoorPartsB
namespace Go.Proofs.YtejleghdgdbbnaaDoor
open Go.RowKit

/-- Pieces put together again. -/
def joinB (b : UInt8) : List (List UInt8) → List UInt8
  | [] => []
  | [p] => p
  | p :: q :: r => p ++ b :: joinB b (q :: r)

theorem join_pcs (b : UInt8) : ∀ l, joinB b (pcs b l) = l
  | [] => rfl
  | c :: l => by
    have ih := join_pcs b l
    cases h : pcs b l with
    | nil => exact absurd h (pcs_ne b l)
    | cons p r =>
      rw [h] at ih
      simp only [pcs, h]
      split
      · rename_i e
        simp only [joinB, List.nil_append, ih, e]
      · cases r with
        | nil => simp only [joinB] at ih ⊢; rw [ih]
        | cons q r => simp only [joinB, List.cons_append] at ih ⊢; rw [ih]

theorem pcs_at (b : UInt8) (x y : List UInt8) (h : ∀ k : Nat, x[k]? ≠ some b) : pcs b (x ++ b :: y) = x :: pcs b y := by
  have h1 : (x ++ b :: y)[x.length]? = some b := by rw [List.getElem?_append_right (Nat.le_refl _)]; simp
  rw [pcs_cut b x.length (x ++ b :: y) h1 (fun k hk => by rw [List.getElem?_append_left hk]; exact h k)]
  simp

theorem num_no_slash (n : Int) : ∀ k : Nat, (numL n)[k]? ≠ some 47 := by
  intro k hk
  cases h : timB n
  · rw [numL, h] at hk; simp at hk
  · rw [numL, h] at hk
    have h2 := decFrom_none _ 0 k 47 hk rfl
    have h3 := decFrom_digits _ n.toNat (Nat.le_refl _)
    simp only [cond_true] at h2
    rw [h2] at h3
    cases h3

theorem tn_num {n : Int} (h : timB n = true) : tnR (numL n) = (n, true) := by
  have h0 := (tim_yes h).1
  have hd : Lib.decFrom 0 (numL n) = some n.toNat := by rw [numL, h]; exact decFrom_digits _ _ (Nat.le_refl _)
  have e : ((n.toNat : Nat) : Int) = n := by omega
  simp [tnR, hd, e]

theorem tn_true {p : List UInt8} (h : (tnR p).2 = true) : p = numL (tnR p).1 := by
  unfold tnR at h ⊢
  cases hd : Lib.decFrom 0 p with
  | none => simp [hd] at h
  | some n =>
    simp only [hd] at h ⊢
    by_cases hn : numL n = p
    · simp only [if_pos hn]; exact hn.symm
    · simp [if_neg hn] at h

theorem tn_false {p : List UInt8} (h : (tnR p).2 = false) : (tnR p).1 = 0 := by
  unfold tnR at h ⊢
  cases hd : Lib.decFrom 0 p with
  | none => rfl
  | some n =>
    simp only [hd] at h ⊢
    by_cases hn : numL n = p
    · simp [if_pos hn] at h
    · simp only [if_neg hn]

theorem tim_of_res {n : Int} (h : resB n = true) : timB n = true := by
  have := res_yes h
  simp [timB]; omega

/-- The number of a piece; 0 where there is none. -/
def pn (P : List (List UInt8)) (i : Nat) : Int := ((P[i]?).map fun p => (tnR p).1).getD 0

/-- What TextVec answers of a text. -/
def tvR (l : List UInt8) : (Int × Int × Int) × Bool :=
  if vtL (pn (pcs 47 l) 0) (pn (pcs 47 l) 1) (pn (pcs 47 l) 2) = l then ((pn (pcs 47 l) 0, pn (pcs 47 l) 1, pn (pcs 47 l) 2), true) else ((0, 0, 0), false)

theorem vt_pcs {a b c : Int} (h : vokB a b c = true) : pcs 47 (vtL a b c) = [numL a, numL b, numL c] := by
  rw [vtL, h]
  simp only [cond_true, List.append_assoc]
  rw [show numL a ++ ([47] ++ (numL b ++ ([47] ++ numL c))) = numL a ++ 47 :: (numL b ++ 47 :: numL c) from rfl, pcs_at 47 _ _ (num_no_slash a), pcs_at 47 _ _ (num_no_slash b), pcs_none 47 _ (num_no_slash c)]

/-- Where it answers true. -/
theorem tv_yes {l : List UInt8} (hl : l ≠ []) {a b c : Int} (h : vtL a b c = l) : vokB a b c = true ∧ pcs 47 l = [numL a, numL b, numL c] ∧ timB a = true ∧ timB b = true ∧ timB c = true := by
  have hv : vokB a b c = true := by
    cases hv : vokB a b c
    · rw [vtL, hv] at h; exact absurd h.symm hl
    · rfl
  have hv' := hv
  simp only [vokB, Bool.and_eq_true] at hv'
  exact ⟨hv, by rw [← h]; exact vt_pcs hv, tim_of_res hv'.1.1, tim_of_res hv'.1.2, tim_of_res hv'.2⟩

theorem tv_nil : tvR [] = ((0, 0, 0), false) := by
  have e : pcs 47 [] = [[]] := rfl
  have h0 : pn [[]] 0 = 0 := by simp [pn, tn_nil]
  have h1 : pn [[]] 1 = 0 := by simp [pn]
  have h2 : pn [[]] 2 = 0 := by simp [pn]
  rw [tvR, e, h0, h1, h2, if_neg]
  intro h
  have hv : vokB 0 0 0 = true := by decide
  have h3 := vt_pcs hv
  rw [h, e] at h3
  have h4 := congrArg List.length h3
  simp at h4

theorem tv_true {l : List UInt8} (h : vtL (pn (pcs 47 l) 0) (pn (pcs 47 l) 1) (pn (pcs 47 l) 2) = l) : tvR l = ((pn (pcs 47 l) 0, pn (pcs 47 l) 1, pn (pcs 47 l) 2), true) := by rw [tvR, if_pos h]
theorem tv_false {l : List UInt8} (h : ¬ vtL (pn (pcs 47 l) 0) (pn (pcs 47 l) 1) (pn (pcs 47 l) 2) = l) : tvR l = ((0, 0, 0), false) := by rw [tvR, if_neg h]

/-- Not three pieces. -/
theorem tv_len {l : List UInt8} (h : (pcs 47 l).length ≠ 3) : tvR l = ((0, 0, 0), false) := by
  by_cases hl : l = []
  · rw [hl]; exact tv_nil
  · apply tv_false
    intro e
    have := (tv_yes hl e).2.1
    rw [this] at h
    exact h rfl

/-- Three pieces, one of which is no number. -/
theorem tv_bad {l : List UInt8} {p0 p1 p2 : List UInt8} (h : pcs 47 l = [p0, p1, p2]) (hb : ((tnR p0).2 && (tnR p1).2 && (tnR p2).2) = false) : tvR l = ((0, 0, 0), false) := by
  by_cases hl : l = []
  · rw [hl]; exact tv_nil
  · apply tv_false
    intro e
    obtain ⟨_, h2, ta, tb, tc⟩ := tv_yes hl e
    generalize pn (pcs 47 l) 0 = a at *
    generalize pn (pcs 47 l) 1 = b at *
    generalize pn (pcs 47 l) 2 = c at *
    rw [h] at h2
    injection h2 with e0 h2
    injection h2 with e1 h2
    injection h2 with e2 _
    rw [e0, e1, e2, tn_num ta, tn_num tb, tn_num tc] at hb
    cases hb

theorem pn_three (p0 p1 p2 : List UInt8) : pn [p0, p1, p2] 0 = (tnR p0).1 ∧ pn [p0, p1, p2] 1 = (tnR p1).1 ∧ pn [p0, p1, p2] 2 = (tnR p2).1 := ⟨rfl, rfl, rfl⟩

/-- Three numbers. -/
theorem tv_good {l : List UInt8} {p0 p1 p2 : List UInt8} (h : pcs 47 l = [p0, p1, p2]) (h0 : (tnR p0).2 = true) (h1 : (tnR p1).2 = true) (h2 : (tnR p2).2 = true) :
    tvR l = bif vokB (tnR p0).1 (tnR p1).1 (tnR p2).1 then (((tnR p0).1, (tnR p1).1, (tnR p2).1), true) else ((0, 0, 0), false) := by
  have hj := join_pcs 47 l
  rw [h] at hj
  have el : l = numL (tnR p0).1 ++ [47] ++ numL (tnR p1).1 ++ [47] ++ numL (tnR p2).1 := by
    rw [← tn_true h0, ← tn_true h1, ← tn_true h2, ← hj]
    simp [joinB]
  cases hv : vokB (tnR p0).1 (tnR p1).1 (tnR p2).1
  · apply tv_false
    rw [h, (pn_three p0 p1 p2).1, (pn_three p0 p1 p2).2.1, (pn_three p0 p1 p2).2.2, vtL, hv]
    intro e
    rw [← e] at el
    simp at el
  · have e : vtL (pn (pcs 47 l) 0) (pn (pcs 47 l) 1) (pn (pcs 47 l) 2) = l := by
      rw [h, (pn_three p0 p1 p2).1, (pn_three p0 p1 p2).2.1, (pn_three p0 p1 p2).2.2, vtL, hv]
      exact el.symm
    rw [tv_true e, h]
    rfl
end Go.Proofs.YtejleghdgdbbnaaDoor
