/- Records of a journal: lists alone. -/
import Derived.Test.YtpdmhpcejmankaaDoorNumP
import Derived.Test.YtpdmhpcejmankaaDoorRcA
import Derived.Lib.IndexLaws
import Derived.Lib.IndexMore
namespace Go.Proofs.YtpdmhpcejmankaaDoor

/-- The head of the record n: its number and a blank. -/
def hdL (n : Nat) : List UInt8 := numL (n : Int) ++ [32]

/-- The record n that the bytes begin with: its text, and what is behind it. -/
def rec1 (n : Nat) (l : List UInt8) : Option (List UInt8 × List UInt8) :=
  bif (hdL n).isPrefixOf l && (decide (0 ≤ Lib.indexByte (l.drop (hdL n).length) 10) && recB ((l.drop (hdL n).length).take (Lib.indexByte (l.drop (hdL n).length) 10).toNat)) then
    some ((l.drop (hdL n).length).take (Lib.indexByte (l.drop (hdL n).length) 10).toNat, (l.drop (hdL n).length).drop ((Lib.indexByte (l.drop (hdL n).length) 10).toNat + 1))
  else none

/-- From so many texts and bytes on, with so many rounds at most. -/
def rdF (l : List UInt8) : Nat → List (List UInt8) → Nat → List (List UInt8) × Nat
  | 0, acc, k => (acc, k)
  | f + 1, acc, k => match rec1 acc.length (l.drop k) with
    | none => (acc, k)
    | some (t, r) => rdF l f (acc ++ [t]) (l.length - r.length)

/-- The texts of the records that the bytes begin with, and how many bytes they are. -/
def rdR (l : List UInt8) : List (List UInt8) × Nat := rdF l l.length [] 0

theorem hd_pos (n : Nat) : 1 ≤ (hdL n).length := by simp [hdL]

theorem digit_byte : ∀ (u : Nat) (b : UInt8), b ∈ Lib.decDigits u → 48 ≤ b.toNat ∧ b.toNat ≤ 57 := by
  intro u
  induction u using Nat.strongRecOn with
  | _ u ih =>
    intro b hb
    by_cases hs : u < 10
    · rw [Lib.decDigits_one hs] at hb
      simp at hb
      subst hb
      simp
      omega
    · rw [Lib.decDigits, dif_neg hs, List.mem_append] at hb
      rcases hb with hb | hb
      · exact ih (u / 10) (by omega) b hb
      · simp at hb
        subst hb
        simp
        omega

theorem hd_no_ten (n : Nat) : ∀ b ∈ hdL n, b ≠ 10 := by
  intro b hb e
  subst e
  rw [hdL, List.mem_append] at hb
  rcases hb with hb | hb
  · rw [numL] at hb
    cases h : timB n
    · rw [h] at hb; simp at hb
    · rw [h] at hb
      have := (digit_byte _ _ hb).1
      exact absurd this (by decide)
  · simp at hb

theorem hd_len (n : Nat) : (hdL n).length ≤ 11 := by
  rw [hdL, List.length_append, numL]
  cases h : timB n
  · simp
  · have h1 := (tim_yes h).2
    have := digits_len ((n : Int).toNat) (by omega)
    simp only [cond_true, List.length_singleton]
    omega

theorem idx_append : ∀ (h r : List UInt8), (∀ b ∈ h, b ≠ 10) → Lib.indexByte (h ++ r) 10 = if Lib.indexByte r 10 = -1 then -1 else Lib.indexByte r 10 + h.length
  | [], r, _ => by
    simp only [List.nil_append, List.length_nil]
    split
    · assumption
    · simp
  | b :: h, r, hb => by
    have e := idx_append h r (fun x hx => hb x (List.mem_cons_of_mem _ hx))
    have hb0 : (b == (10 : UInt8)) = false := by rw [beq_eq_false_iff_ne]; exact hb b List.mem_cons_self
    have hge := Lib.indexByte_ge r 10
    simp only [List.cons_append, Lib.indexByte, hb0, Bool.false_eq_true, if_false, e, List.length_cons]
    by_cases hr : Lib.indexByte r 10 = -1
    · simp [hr]
    · rw [if_neg hr, if_neg hr]
      have : ¬ ((Lib.indexByte r 10 + (h.length : Int)) == -1) = true := by simp; omega
      rw [if_neg this]
      omega

theorem rec1_some {n : Nat} {l t r : List UInt8} (h : rec1 n l = some (t, r)) : l = hdL n ++ t ++ 10 :: r ∧ recB t = true ∧ Lib.indexByte (t ++ 10 :: r) 10 = t.length := by
  unfold rec1 at h
  cases hc : (hdL n).isPrefixOf l && (decide (0 ≤ Lib.indexByte (l.drop (hdL n).length) 10) && recB ((l.drop (hdL n).length).take (Lib.indexByte (l.drop (hdL n).length) 10).toNat))
  · rw [hc] at h; cases h
  · rw [hc] at h
    simp only [cond_true, Option.some.injEq, Prod.mk.injEq] at h
    obtain ⟨h1, h2⟩ := h
    simp only [Bool.and_eq_true, decide_eq_true_eq] at hc
    obtain ⟨hp, h0, hr⟩ := hc
    obtain ⟨x, rfl⟩ := List.isPrefixOf_iff_prefix.1 hp
    rw [List.drop_left] at h0 hr h1 h2
    obtain ⟨k, hk⟩ : ∃ k : Nat, Lib.indexByte x 10 = k := ⟨(Lib.indexByte x 10).toNat, by omega⟩
    rw [hk] at h1 h2 hr
    simp only [Int.toNat_natCast] at h1 h2 hr
    have hlt := (Lib.indexByte_some hk).1
    have hx : x = t ++ 10 :: r := by
      have hlen : k < x.length := (List.getElem?_eq_some_iff.1 hlt).1
      have hget : x[k] = 10 := (List.getElem?_eq_some_iff.1 hlt).2
      rw [← h1, ← h2, ← hget, ← List.drop_eq_getElem_cons hlen, List.take_append_drop]
    refine ⟨?_, by rw [← h1]; exact hr, ?_⟩
    · rw [List.append_assoc, ← hx]
    · rw [← hx, hk, ← h1, List.length_take]
      have hlen : k < x.length := (List.getElem?_eq_some_iff.1 hlt).1
      have : min k x.length = k := by omega
      rw [this]

/-- Where the bytes have no byte 10. -/
theorem rec1_noten {n : Nat} {l : List UInt8} (h : Lib.indexByte l 10 = -1) : rec1 n l = none := by
  cases e : rec1 n l with
  | none => rfl
  | some p =>
    obtain ⟨t, r⟩ := p
    obtain ⟨hl, _, hi⟩ := rec1_some e
    rw [hl, List.append_assoc, idx_append _ _ (hd_no_ten n)] at h
    rw [hi, if_neg (by omega)] at h
    omega

/-- The first byte 10 lies within the head. -/
theorem rec1_early {n i : Nat} {l : List UInt8} (h : Lib.indexByte l 10 = i) (hi : i < (hdL n).length) : rec1 n l = none := by
  cases e : rec1 n l with
  | none => rfl
  | some p =>
    obtain ⟨t, r⟩ := p
    obtain ⟨hl, _, hx⟩ := rec1_some e
    rw [hl, List.append_assoc, idx_append _ _ (hd_no_ten n)] at h
    rw [hx, if_neg (by omega)] at h
    omega

/-- What lies between the head and the first byte 10 is right. -/
theorem rec1_yes {n i : Nat} {l : List UInt8} (h : Lib.indexByte l 10 = i) (hi : (hdL n).length ≤ i) (hr : recB ((l.take i).drop (hdL n).length) = true) (he : hdL n ++ (l.take i).drop (hdL n).length ++ [10] = l.take (i + 1)) :
    rec1 n l = some ((l.take i).drop (hdL n).length, l.drop (i + 1)) := by
  have hl : l = hdL n ++ ((l.take i).drop (hdL n).length ++ 10 :: l.drop (i + 1)) := by
    have := List.take_append_drop (i + 1) l
    rw [← he] at this
    simpa using this.symm
  generalize ht : (l.take i).drop (hdL n).length = t at *
  generalize hrr : l.drop (i + 1) = r at *
  have hi2 : Lib.indexByte (t ++ 10 :: r) 10 = t.length := by
    have hlen : (l.take i).length = i := by
      have := (Lib.indexByte_some h).1
      have : i < l.length := (List.getElem?_eq_some_iff.1 this).1
      rw [List.length_take]; omega
    have h2 := h
    rw [hl, idx_append _ _ (hd_no_ten n)] at h2
    by_cases e : Lib.indexByte (t ++ 10 :: r) 10 = -1
    · rw [if_pos e] at h2; omega
    · rw [if_neg e] at h2
      have : t.length = i - (hdL n).length := by rw [← ht, List.length_drop, hlen]
      omega
  unfold rec1
  rw [hl, List.drop_left, hi2]
  have hp : (hdL n).isPrefixOf (hdL n ++ (t ++ 10 :: r)) = true := List.isPrefixOf_iff_prefix.2 ⟨_, rfl⟩
  rw [hp]
  simp only [Int.toNat_natCast, List.take_left', Bool.true_and]
  rw [hr, decide_eq_true (by omega)]
  simp

/-- Or it isn't. -/
theorem rec1_no {n i : Nat} {l : List UInt8} (h : Lib.indexByte l 10 = i) (hb : ¬ (recB ((l.take i).drop (hdL n).length) = true ∧ hdL n ++ (l.take i).drop (hdL n).length ++ [10] = l.take (i + 1))) : rec1 n l = none := by
  cases e : rec1 n l with
  | none => rfl
  | some p =>
    obtain ⟨t, r⟩ := p
    obtain ⟨hl, hr, hx⟩ := rec1_some e
    exfalso
    apply hb
    have h2 := h
    rw [hl, List.append_assoc, idx_append _ _ (hd_no_ten n), hx, if_neg (by omega)] at h2
    have hii : i = (hdL n).length + t.length := by omega
    have ht : (l.take i).drop (hdL n).length = t := by
      rw [hl, hii, ← List.length_append, List.take_left', List.drop_left]
      rfl
    rw [ht]
    refine ⟨hr, ?_⟩
    have : hdL n ++ t ++ 10 :: r = (hdL n ++ t ++ [10]) ++ r := by simp
    rw [hl, this, List.take_left']
    simp only [List.length_append, List.length_singleton]
    omega

/-- Where the reading stands. -/
def RdI (l : List UInt8) (acc : List (List UInt8)) (k : Nat) : Prop := k ≤ l.length ∧ acc.length ≤ k ∧ ∃ f, l.length ≤ k + f ∧ rdF l f acc k = rdR l

theorem rd_start (l : List UInt8) : RdI l [] 0 := ⟨Nat.zero_le _, Nat.le_refl _, l.length, by omega, rfl⟩

theorem rd_len {n : Nat} {l t r : List UInt8} (h : rec1 n l = some (t, r)) : l.length = (hdL n).length + t.length + 1 + r.length := by
  have := congrArg List.length (rec1_some h).1
  simp only [List.length_append, List.length_cons] at this
  omega

theorem rd_more {l : List UInt8} {acc : List (List UInt8)} {k : Nat} {t r : List UInt8} (h : RdI l acc k) (h1 : rec1 acc.length (l.drop k) = some (t, r)) :
    RdI l (acc ++ [t]) (l.length - r.length) ∧ k < l.length - r.length ∧ l.drop (l.length - r.length) = r := by
  obtain ⟨hk, ha, f, hf, he⟩ := h
  have hlen := rd_len h1
  rw [List.length_drop] at hlen
  have hp := hd_pos acc.length
  refine ⟨⟨by omega, by rw [List.length_append, List.length_singleton]; omega, ?_⟩, by omega, ?_⟩
  · cases f with
    | zero => omega
    | succ f =>
      refine ⟨f, by omega, ?_⟩
      rw [← he, rdF, h1]
  · have e := (rec1_some h1).1
    have hd : l.drop (l.length - r.length) = (l.drop k).drop (l.length - r.length - k) := by rw [List.drop_drop]; congr 1; omega
    rw [hd, e]
    have e2 : hdL acc.length ++ t ++ 10 :: r = (hdL acc.length ++ t ++ [10]) ++ r := by simp
    rw [e2, List.drop_left']
    simp only [List.length_append, List.length_singleton]
    omega

theorem rd_stop {l : List UInt8} {acc : List (List UInt8)} {k : Nat} (h : RdI l acc k) (h1 : rec1 acc.length (l.drop k) = none) : rdR l = (acc, k) := by
  obtain ⟨hk, ha, f, hf, he⟩ := h
  rw [← he]
  cases f with
  | zero => rfl
  | succ f => rw [rdF, h1]

/-- What is told is no more than the bytes. -/
theorem rd_bounds : ∀ (f : Nat) (l : List UInt8) (acc : List (List UInt8)) (k : Nat), k ≤ l.length → acc.length ≤ k → (∀ t ∈ acc, recB t = true) → (rdF l f acc k).2 ≤ l.length ∧ (rdF l f acc k).1.length ≤ (rdF l f acc k).2 ∧ ∀ t ∈ (rdF l f acc k).1, recB t = true
  | 0, l, acc, k, h1, h2, h3 => ⟨h1, h2, h3⟩
  | f + 1, l, acc, k, h1, h2, h3 => by
    rw [rdF]
    cases e : rec1 acc.length (l.drop k) with
    | none => exact ⟨h1, h2, h3⟩
    | some p =>
      obtain ⟨t, r⟩ := p
      have hlen := rd_len e
      rw [List.length_drop] at hlen
      have hp := hd_pos acc.length
      refine rd_bounds f l (acc ++ [t]) (l.length - r.length) (by omega) (by rw [List.length_append, List.length_singleton]; omega) (fun x hx => ?_)
      rcases List.mem_append.1 hx with hx | hx
      · exact h3 x hx
      · simp at hx; subst hx; exact (rec1_some e).2.1

theorem rd_le (l : List UInt8) : (rdR l).2 ≤ l.length ∧ (rdR l).1.length ≤ (rdR l).2 ∧ ∀ t ∈ (rdR l).1, recB t = true := rd_bounds _ l [] 0 (Nat.zero_le _) (Nat.le_refl _) (fun _ h => by simp at h)
end Go.Proofs.YtpdmhpcejmankaaDoor
