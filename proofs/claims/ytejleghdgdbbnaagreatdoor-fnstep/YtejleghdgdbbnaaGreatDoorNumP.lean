/- Plain facts on decimal texts: no program in sight. -/
import Derived.Test.YtejleghdgdbbnaaGreatDoorNumA
import Derived.Lib.Atoi
import Derived.Lib.AtoiTie
import Derived.Lib.AtoiAll
namespace Go.Proofs.YtejleghdgdbbnaaGreatDoor

theorem digit_of (d : Nat) (h : d < 10) : Lib.digitVal (UInt8.ofNat (48 + d)) = some d := by
  have : (UInt8.ofNat (48 + d)).toNat = 48 + d := by simp; omega
  unfold Lib.digitVal
  rw [this, if_pos (by omega)]
  simp

theorem decFrom_snoc : ∀ (l : List UInt8) (acc : Nat) (b : UInt8), Lib.decFrom acc (l ++ [b]) = (Lib.decFrom acc l).bind fun n => (Lib.digitVal b).map fun d => n * 10 + d
  | [], acc, b => by
    simp only [List.nil_append, Lib.decFrom, Option.bind_some]
    cases Lib.digitVal b <;> rfl
  | a :: l, acc, b => by
    simp only [List.cons_append, Lib.decFrom]
    cases h : Lib.digitVal a with
    | none => rfl
    | some d => exact decFrom_snoc l _ b

theorem decFrom_digits : ∀ (k u : Nat), u ≤ k → Lib.decFrom 0 (Lib.decDigits u) = some u
  | 0, u, h => by
    obtain rfl : u = 0 := by omega
    rw [Lib.decDigits_one (by omega)]
    simp only [Lib.decFrom, digit_of 0 (by omega)]
  | k + 1, u, h => by
    by_cases hs : u < 10
    · rw [Lib.decDigits_one hs]
      simp only [Lib.decFrom, digit_of u hs]
      simp
    · rw [Lib.decDigits, dif_neg hs, decFrom_snoc, decFrom_digits k (u / 10) (by omega), digit_of (u % 10) (by omega)]
      simp only [Option.bind_some, Option.map_some, Option.some.injEq]
      omega

theorem digits_ne_nil (u : Nat) : Lib.decDigits u ≠ [] := by
  rw [Lib.decDigits]
  split <;> simp

theorem digits_len (u : Nat) (h : u ≤ 1000000000) : (Lib.decDigits u).length ≤ 10 := by
  rw [Lib.decDigits_length]
  have hlt : ∀ (k v : Nat), v < 10 ^ (k + 1) → Lib.nDigits v ≤ k + 1 := by
    intro k
    induction k with
    | zero => intro v hv; rw [Lib.nDigits_small (by simpa using hv)]; omega
    | succ k ih =>
      intro v hv
      by_cases hs : v < 10
      · rw [Lib.nDigits_small hs]; omega
      · rw [Lib.nDigits_big hs]
        have := ih (v / 10) (by rw [Nat.pow_succ] at hv; omega)
        omega
  exact hlt 9 u (by omega)

theorem atoi_of_decFrom {l : List UInt8} {n : Nat} (hne : l ≠ []) (h : Lib.decFrom 0 l = some n) : Lib.atoi l = some (n : Int) := by
  cases l with
  | nil => exact absurd rfl hne
  | cons b r =>
    have hd : ∀ c : UInt8, Lib.digitVal c = none → b ≠ c := by
      intro c hc hb
      subst hb
      simp [Lib.decFrom, hc] at h
    have e1 : (b == 45) = false := by simpa using hd 45 rfl
    have e2 : (b == 43) = false := by simpa using hd 43 rfl
    simp [Lib.atoi, e1, e2, Lib.decNat, h]

theorem atoiAll_digits (u : Nat) (h : u ≤ 1000000000) : Lib.atoiAll (Lib.decDigits u) = .ok (u : Int) := by
  rw [Lib.atoiAll_short _ (by have := digits_len u h; omega), atoi_of_decFrom (digits_ne_nil u) (decFrom_digits u u (Nat.le_refl _))]
  rfl

/-- A text that is some number's text, and not empty. -/
theorem num_some {n : Int} {l : List UInt8} (h : numL n = l) (hne : l ≠ []) : timB n = true ∧ l = Lib.decDigits n.toNat := by
  cases ht : timB n
  · rw [numL, ht] at h; exact absurd h.symm hne
  · rw [numL, ht] at h; exact ⟨rfl, h.symm⟩

/-- What TextNum answers of a text. -/
def tnR (l : List UInt8) : Int × Bool :=
  match Lib.decFrom 0 l with
  | some n => if numL n = l then ((n : Int), true) else (0, false)
  | none => (0, false)

theorem num_ne_nil {l : List UInt8} {n : Nat} (hd : Lib.decFrom 0 l = some n) (h : numL n = l) : l ≠ [] := by
  intro e
  subst e
  simp only [Lib.decFrom, Option.some.injEq] at hd
  subst hd
  have ht : timB ((0 : Nat) : Int) = true := by decide
  rw [numL, ht] at h
  exact digits_ne_nil _ h

theorem tn_yes {l : List UInt8} {n : Nat} (hd : Lib.decFrom 0 l = some n) (h : numL n = l) : Lib.atoiAll l = .ok (n : Int) := by
  obtain ⟨ht, e⟩ := num_some h (num_ne_nil hd h)
  have := (tim_yes ht).2
  rw [e, Int.toNat_natCast]
  exact atoiAll_digits n (by omega)

/-- Where strconv.Atoi reads a number. -/
theorem tn_ok {l : List UInt8} {v : Int} (h : Lib.atoiAll l = .ok v) : tnR l = if numL v = l then (v, true) else (0, false) := by
  by_cases hv : numL v = l
  · have hne : l ≠ [] := by
      intro e
      subst e
      simp [Lib.atoiAll] at h
    obtain ⟨ht, e⟩ := num_some hv hne
    have h0 := (tim_yes ht).1
    have hd : Lib.decFrom 0 l = some v.toNat := by rw [e]; exact decFrom_digits _ _ (Nat.le_refl _)
    have ev : ((v.toNat : Nat) : Int) = v := by omega
    simp only [tnR, hd, ev]
  · rw [if_neg hv, tnR]
    cases hd : Lib.decFrom 0 l with
    | none => rfl
    | some n =>
      by_cases hn : numL n = l
      · have e := tn_yes hd hn
        rw [h] at e
        injection e with e
        subst e
        exact absurd hn hv
      · simp only [if_neg hn]

/-- Where it reads none. -/
theorem tn_err {l : List UInt8} (h : ∀ v, Lib.atoiAll l ≠ .ok v) : tnR l = (0, false) := by
  rw [tnR]
  cases hd : Lib.decFrom 0 l with
  | none => rfl
  | some n =>
    by_cases hn : numL n = l
    · exact absurd (tn_yes hd hn) (h n)
    · simp only [if_neg hn]

/-- A text that is too long is no number's. -/
theorem tn_long {l : List UInt8} (h : 10 < l.length) : tnR l = (0, false) := by
  rw [tnR]
  cases hd : Lib.decFrom 0 l with
  | none => rfl
  | some n =>
    have hn : ¬ numL n = l := by
      intro e
      obtain ⟨ht, e2⟩ := num_some e (num_ne_nil hd e)
      have h1 := (tim_yes ht).2
      have := digits_len ((n : Int).toNat) (by omega)
      rw [← e2] at this
      omega
    simp only [if_neg hn]

theorem tn_nil : tnR [] = (0, false) := tn_err (by intro v h; simp [Lib.atoiAll] at h)

/-- A byte that is no digit. -/
theorem decFrom_none : ∀ (l : List UInt8) (acc k : Nat) (b : UInt8), l[k]? = some b → Lib.digitVal b = none → Lib.decFrom acc l = none
  | [], _, k, b, h, _ => by simp at h
  | a :: l, acc, 0, b, h, hb => by
    obtain rfl : a = b := by simpa using h
    simp [Lib.decFrom, hb]
  | a :: l, acc, k + 1, b, h, hb => by
    simp only [Lib.decFrom]
    cases Lib.digitVal a with
    | none => rfl
    | some d => exact decFrom_none l _ k b (by simpa using h) hb
end Go.Proofs.YtejleghdgdbbnaaGreatDoor
