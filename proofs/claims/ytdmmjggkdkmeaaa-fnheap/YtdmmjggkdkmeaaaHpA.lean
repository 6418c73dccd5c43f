/- A heap in a list: lists alone. -/
import Derived.Test.YtdmmjggkdkmeaaaBase
namespace Go.Proofs.Ytdmmjggkdkmeaaa

/-- A time and a number. -/
structure Du where
  t : Int
  n : Int
def duL (a b : Du) : Bool := decide (a.t < b.t) || (a.t == b.t && decide (a.n < b.n))
theorem duL_iff {a b : Du} : duL a b = true ↔ a.t < b.t ∨ (a.t = b.t ∧ a.n < b.n) := by simp [duL]
theorem duL_no {a b : Du} : duL a b = false ↔ b.t < a.t ∨ (a.t = b.t ∧ b.n ≤ a.n) := by
  rw [← Bool.not_eq_true, duL_iff]; omega
theorem du_self (a : Du) : duL a a = false := duL_no.2 (.inr ⟨rfl, Int.le_refl _⟩)
/-- What comes not ahead of what comes not ahead. -/
theorem du_trans {a b c : Du} (h1 : duL b a = false) (h2 : duL c b = false) : duL c a = false := by
  rw [duL_no] at *; omega
theorem du_lt {a b : Du} (h : duL a b = true) : duL b a = false := by
  rw [duL_iff] at h; rw [duL_no]; omega
theorem du_eq {a b : Du} (h1 : duL a b = false) (h2 : duL b a = false) : a = b := by
  rw [duL_no] at *
  obtain ⟨x, y⟩ := a
  obtain ⟨u, v⟩ := b
  simp only at *
  have e1 : x = u := by omega
  have e2 : y = v := by omega
  rw [e1, e2]

def du0 : Du := ⟨0, 0⟩
def dg (l : List Du) (i : Nat) : Du := l.getD i du0
def dsw (l : List Du) (i j : Nat) : List Du := (l.set i (dg l j)).set j (dg l i)
theorem dsw_len (l : List Du) (i j : Nat) : (dsw l i j).length = l.length := by simp [dsw]
theorem dg_set {l : List Du} {i k : Nat} {x : Du} (hi : i < l.length) : dg (l.set i x) k = if k = i then x else dg l k := by
  unfold dg
  rw [List.getD_eq_getElem?_getD, List.getD_eq_getElem?_getD, List.getElem?_set]
  by_cases h : k = i
  · subst h; simp [hi]
  · rw [if_neg (fun e => h e.symm), if_neg h]
theorem dg_sw {l : List Du} {i j k : Nat} (hi : i < l.length) (hj : j < l.length) : dg (dsw l i j) k = if k = j then dg l i else if k = i then dg l j else dg l k := by
  unfold dsw
  rw [dg_set (by simpa using hj), dg_set hi]
theorem dg_eq {l : List Du} {i : Nat} (h : i < l.length) : dg l i = l[i] := by simp [dg, h]
theorem dsw_perm {l : List Du} {i j : Nat} (hi : i < l.length) (hj : j < l.length) : (dsw l i j).Perm l := by
  unfold dsw
  rw [dg_eq hi, dg_eq hj]
  exact List.set_set_perm hi hj

/-- Changes places upwards as long as it comes ahead. -/
def dup (l : List Du) (i : Nat) : List Du :=
  if _h : 0 < i ∧ duL (dg l i) (dg l ((i - 1) / 2)) = true then dup (dsw l i ((i - 1) / 2)) ((i - 1) / 2) else l
termination_by i
decreasing_by omega
/-- The place below that comes first; the list's length where there is none. -/
def dch (l : List Du) (i : Nat) : Nat :=
  if 2 * i + 1 < l.length then (if 2 * i + 2 < l.length ∧ duL (dg l (2 * i + 2)) (dg l (2 * i + 1)) = true then 2 * i + 2 else 2 * i + 1) else l.length
theorem dch_gt {l : List Du} {i : Nat} (h : dch l i < l.length) : i < dch l i := by
  unfold dch at *; split at h <;> split <;> (try split) <;> omega
/-- Changes places downwards as long as one below comes ahead. -/
def ddn (l : List Du) (i : Nat) : List Du :=
  if _h : dch l i < l.length ∧ duL (dg l (dch l i)) (dg l i) = true then ddn (dsw l i (dch l i)) (dch l i) else l
termination_by l.length - i
decreasing_by have := dch_gt (And.left (by assumption)); rw [dsw_len]; omega

/-- A heap. -/
def DHp (l : List Du) : Prop := ∀ i, 0 < i → i < l.length → duL (dg l i) (dg l ((i - 1) / 2)) = false
theorem dup_len (l : List Du) (i : Nat) : (dup l i).length = l.length := by
  induction i using Nat.strongRecOn generalizing l with
  | ind i ih =>
    rw [dup]
    split
    · rename_i h
      rw [ih _ (by omega), dsw_len]
    · rfl
theorem dup_perm {l : List Du} {i : Nat} (hi : i < l.length) : (dup l i).Perm l := by
  induction i using Nat.strongRecOn generalizing l with
  | ind i ih =>
    rw [dup]
    split
    · rename_i h
      exact (ih _ (by omega) (by rw [dsw_len]; omega)).trans (dsw_perm hi (by omega))
    · exact .refl _
/-- A heap but for the place i, which may come ahead of the one above it. -/
structure DHu (l : List Du) (i : Nat) : Prop where
  lt : i < l.length
  rest : ∀ j, 0 < j → j < l.length → j ≠ i → duL (dg l j) (dg l ((j - 1) / 2)) = false
  over : ∀ j, 0 < j → j < l.length → (j - 1) / 2 = i → 0 < i → duL (dg l j) (dg l ((i - 1) / 2)) = false
theorem dup_heap {l : List Du} {i : Nat} (h : DHu l i) : DHp (dup l i) := by
  induction i using Nat.strongRecOn generalizing l with
  | ind i ih =>
    have hi := h.lt
    rw [dup]
    split
    · rename_i hc
      obtain ⟨h0, hlt⟩ := hc
      have hp : (i - 1) / 2 < l.length := by omega
      have hpi : (i - 1) / 2 ≠ i := by omega
      refine ih _ (by omega) ⟨by rw [dsw_len]; omega, fun j j0 jl jn => ?_, fun j j0 jl jp p0 => ?_⟩
      · rw [dsw_len] at jl
        rw [dg_sw hi hp, dg_sw hi hp, if_neg jn]
        by_cases e : j = i
        · subst e
          rw [if_pos rfl, if_pos rfl]
          exact du_lt hlt
        · rw [if_neg e]
          by_cases e2 : (j - 1) / 2 = (i - 1) / 2
          · rw [if_pos e2]
            have := h.rest j j0 jl e
            rw [e2] at this
            exact du_trans (du_lt hlt) this
          · rw [if_neg e2]
            by_cases e3 : (j - 1) / 2 = i
            · rw [if_pos e3]
              exact h.over j j0 jl e3 h0
            · rw [if_neg e3]
              exact h.rest j j0 jl e
      · rw [dsw_len] at jl
        have hpp : ((i - 1) / 2 - 1) / 2 ≠ (i - 1) / 2 := by omega
        have hpp2 : ((i - 1) / 2 - 1) / 2 ≠ i := by omega
        rw [dg_sw hi hp, dg_sw hi hp, if_neg hpp, if_neg hpp2]
        have hup := h.rest _ p0 hp hpi
        by_cases e : j = (i - 1) / 2
        · omega
        · rw [if_neg e]
          by_cases e2 : j = i
          · rw [if_pos e2]
            exact hup
          · rw [if_neg e2]
            have := h.rest j j0 jl e2
            rw [jp] at this
            exact du_trans hup this
    · rename_i hc
      intro j j0 jl
      by_cases e : j = i
      · subst e
        cases hh : duL (dg l j) (dg l ((j - 1) / 2)) with
        | false => rfl
        | true => exact absurd ⟨j0, hh⟩ hc
      · exact h.rest j j0 jl e
theorem ddn_len (l : List Du) (i : Nat) : (ddn l i).length = l.length := by
  induction hm : l.length - i using Nat.strongRecOn generalizing l i with
  | ind m ih =>
    rw [ddn]
    split
    · rename_i h
      have := dch_gt h.1
      rw [ih _ (by rw [dsw_len]; omega) _ _ rfl, dsw_len]
    · rfl
theorem ddn_perm {l : List Du} {i : Nat} (hi : i < l.length) : (ddn l i).Perm l := by
  induction hm : l.length - i using Nat.strongRecOn generalizing l i with
  | ind m ih =>
    rw [ddn]
    split
    · rename_i h
      have := dch_gt h.1
      exact (ih _ (by rw [dsw_len]; omega) (by rw [dsw_len]; exact h.1) rfl).trans (dsw_perm hi h.1)
    · exact .refl _
/-- A heap but for the place i, ahead of which those below may come. -/
structure DHd (l : List Du) (i : Nat) : Prop where
  rest : ∀ j, 0 < j → j < l.length → (j - 1) / 2 ≠ i → duL (dg l j) (dg l ((j - 1) / 2)) = false
  over : ∀ j, 0 < j → j < l.length → (j - 1) / 2 = i → 0 < i → duL (dg l j) (dg l ((i - 1) / 2)) = false
theorem dch_is {l : List Du} {i : Nat} (h : dch l i < l.length) : (dch l i - 1) / 2 = i ∧ 0 < dch l i ∧ ∀ j, 0 < j → j < l.length → (j - 1) / 2 = i → duL (dg l j) (dg l (dch l i)) = false := by
  unfold dch at *
  split at h
  · rename_i h1
    rw [if_pos h1]
    split
    · rename_i h2
      refine ⟨by omega, by omega, fun j j0 jl jp => ?_⟩
      rcases (by omega : j = 2 * i + 1 ∨ j = 2 * i + 2) with rfl | rfl
      · exact du_lt h2.2
      · exact du_self _
    · rename_i h2
      refine ⟨by omega, by omega, fun j j0 jl jp => ?_⟩
      rcases (by omega : j = 2 * i + 1 ∨ j = 2 * i + 2) with rfl | rfl
      · exact du_self _
      · cases hh : duL (dg l (2 * i + 2)) (dg l (2 * i + 1)) with
        | false => rfl
        | true => exact absurd ⟨jl, hh⟩ h2
  · omega
theorem dch_none {l : List Du} {i : Nat} (h : ¬ dch l i < l.length) : ∀ j, 0 < j → j < l.length → (j - 1) / 2 ≠ i := by
  intro j j0 jl jp
  unfold dch at h
  rw [if_pos (by omega)] at h
  split at h <;> omega
theorem ddn_heap {l : List Du} {i : Nat} (hi : i < l.length) (h : DHd l i) : DHp (ddn l i) := by
  induction hm : l.length - i using Nat.strongRecOn generalizing l i with
  | ind m ih =>
    rw [ddn]
    split
    · rename_i hc
      obtain ⟨hk, hlt⟩ := hc
      have hgt := dch_gt hk
      obtain ⟨hpk, hk0, hbest⟩ := dch_is hk
      generalize dch l i = k at *
      refine ih _ (by rw [dsw_len]; omega) (by rw [dsw_len]; exact hk) ⟨fun j j0 jl jp => ?_, fun j j0 jl jp k0 => ?_⟩ rfl
      · rw [dsw_len] at jl
        rw [dg_sw hi hk, dg_sw hi hk, if_neg (fun e => jp e)]
        by_cases e : j = k
        · subst e
          rw [if_pos rfl, hpk, if_pos rfl]
          exact du_lt hlt
        · rw [if_neg e]
          by_cases e2 : j = i
          · subst e2
            rw [if_pos rfl, if_neg (by omega)]
            exact h.over k hk0 hk hpk j0
          · rw [if_neg e2]
            by_cases e3 : (j - 1) / 2 = i
            · rw [if_pos e3]
              exact hbest j j0 jl e3
            · rw [if_neg e3]
              exact h.rest j j0 jl e3
      · rw [dsw_len] at jl
        rw [hpk, dg_sw hi hk, dg_sw hi hk, if_neg (by omega), if_neg (by omega), if_neg (by omega), if_pos rfl]
        have := h.rest j j0 jl (by omega)
        rw [jp] at this
        exact this
    · rename_i hc
      intro j j0 jl
      by_cases e : (j - 1) / 2 = i
      · by_cases hk : dch l i < l.length
        · obtain ⟨_, _, hbest⟩ := dch_is hk
          have hno : duL (dg l (dch l i)) (dg l i) = false := by
            cases hh : duL (dg l (dch l i)) (dg l i) with
            | false => rfl
            | true => exact absurd ⟨hk, hh⟩ hc
          rw [e]
          exact du_trans hno (hbest j j0 jl e)
        · exact absurd e (dch_none hk j j0 jl)
      · exact h.rest j j0 jl e

/-- The first of a heap comes first. -/
theorem heap_first {l : List Du} (h : DHp l) : ∀ i, i < l.length → duL (dg l i) (dg l 0) = false := by
  intro i
  induction i using Nat.strongRecOn with
  | ind i ih =>
    intro hi
    by_cases h0 : i = 0
    · subst h0; exact du_self _
    · exact du_trans (ih ((i - 1) / 2) (by omega) (by omega)) (h i (by omega) hi)
/-- Put last, and up. -/
def dpush (l : List Du) (d : Du) : List Du := dup (l ++ [d]) l.length
theorem dg_app_l {l : List Du} {d : Du} {i : Nat} (h : i < l.length) : dg (l ++ [d]) i = dg l i := by
  unfold dg; rw [List.getD_eq_getElem?_getD, List.getD_eq_getElem?_getD, List.getElem?_append_left h]
theorem dpush_heap {l : List Du} (h : DHp l) (d : Du) : DHp (dpush l d) := by
  refine dup_heap ⟨by simp, fun j j0 jl jn => ?_, fun j j0 jl jp p0 => ?_⟩
  · simp only [List.length_append, List.length_singleton] at jl
    rw [dg_app_l (by omega), dg_app_l (by omega)]
    exact h j j0 (by omega)
  · simp only [List.length_append, List.length_singleton] at jl
    omega
theorem dpush_perm (l : List Du) (d : Du) : (dpush l d).Perm (l ++ [d]) := dup_perm (by simp)
theorem dpush_len (l : List Du) (d : Du) : (dpush l d).length = l.length + 1 := by rw [dpush, dup_len]; simp
/-- What is left when the first is taken: the last put in its place, and down. -/
def dpop (l : List Du) : List Du := ddn (l.dropLast.set 0 (dg l (l.length - 1))) 0
theorem dpop_len (l : List Du) : (dpop l).length = l.length - 1 := by rw [dpop, ddn_len]; simp
theorem dg_drop {l : List Du} {i : Nat} (h : i < l.length - 1) : dg l.dropLast i = dg l i := by
  unfold dg
  rw [List.getD_eq_getElem?_getD, List.getD_eq_getElem?_getD, List.getElem?_dropLast, if_pos h]
theorem dpop_heap {l : List Du} (h : DHp l) : DHp (dpop l) := by
  by_cases h1 : 1 < l.length
  · have hl : l.dropLast.length = l.length - 1 := by simp
    refine ddn_heap (by simp; omega) ⟨fun j j0 jl jp => ?_, fun j j0 jl jp p0 => by omega⟩
    simp only [List.length_set, List.length_dropLast] at jl
    rw [dg_set (by omega), dg_set (by omega), if_neg (by omega), if_neg jp, dg_drop jl, dg_drop (by omega)]
    exact h j j0 (by omega)
  · intro i i0 il
    rw [dpop_len] at il
    omega
theorem dpop_perm {l : List Du} (h : 0 < l.length) : (dg l 0 :: dpop l).Perm l := by
  by_cases h1 : 1 < l.length
  · have hp : (dpop l).Perm (l.dropLast.set 0 (dg l (l.length - 1))) := ddn_perm (by simp; omega)
    refine (hp.cons _).trans ?_
    match l, h1 with
    | a :: b :: r, _ =>
      have hne : (b :: r) ≠ [] := by simp
      have e1 : (a :: b :: r).dropLast = a :: (b :: r).dropLast := rfl
      have e2 : dg (a :: b :: r) ((a :: b :: r).length - 1) = (b :: r).getLast hne := by
        rw [dg_eq (by simp), List.getLast_eq_getElem]
        simp
      rw [e1, e2]
      have e3 : dg (a :: b :: r) 0 = a := rfl
      rw [e3]
      show (a :: (b :: r).getLast hne :: (b :: r).dropLast).Perm (a :: b :: r)
      refine List.Perm.cons _ ?_
      have := List.perm_append_comm (l₁ := (b :: r).dropLast) (l₂ := [(b :: r).getLast hne])
      rw [List.dropLast_concat_getLast] at this
      exact this.symm
  · match l, h, h1 with
    | [], h, _ => simp at h
    | _ :: _ :: _, _, h1 => simp at h1
    | [a], _, _ =>
      have : dpop [a] = [] := List.eq_nil_of_length_eq_zero (by rw [dpop_len]; rfl)
      rw [this]
      exact .refl _
/-- One after the other. -/
def dall : Nat → List Du → List Du
  | 0, _ => []
  | k + 1, l => if l.length = 0 then [] else dg l 0 :: dall k (dpop l)
theorem dall_perm : ∀ (k : Nat) (l : List Du), l.length ≤ k → (dall k l).Perm l
  | 0, l, h => by
    have : l = [] := List.eq_nil_of_length_eq_zero (by omega)
    subst this; exact .refl _
  | k + 1, l, h => by
    unfold dall
    split
    · rename_i h0
      have : l = [] := List.eq_nil_of_length_eq_zero h0
      subst this; exact .refl _
    · rename_i h0
      exact ((dall_perm k (dpop l) (by rw [dpop_len]; omega)).cons _).trans (dpop_perm (by omega))
theorem dall_sorted : ∀ (k : Nat) (l : List Du), l.length ≤ k → DHp l → (dall k l).Pairwise (fun a b => duL b a = false)
  | 0, _, _, _ => by simp [dall]
  | k + 1, l, h, hp => by
    unfold dall
    split
    · exact .nil
    · rename_i h0
      refine List.Pairwise.cons (fun b hb => ?_) (dall_sorted k (dpop l) (by rw [dpop_len]; omega) (dpop_heap hp))
      have hm : b ∈ l := by
        have h1 : b ∈ dpop l := ((dall_perm k (dpop l) (by rw [dpop_len]; omega)).mem_iff).1 hb
        exact ((dpop_perm (by omega)).mem_iff).1 (List.mem_cons_of_mem _ h1)
      obtain ⟨i, hi, e⟩ := List.mem_iff_getElem.1 hm
      rw [← e, ← dg_eq hi]
      exact heap_first hp i hi
end Go.Proofs.Ytdmmjggkdkmeaaa
