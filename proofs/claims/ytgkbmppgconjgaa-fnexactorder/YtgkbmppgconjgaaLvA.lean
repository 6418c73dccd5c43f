/- Levels of switches found from the last switch to the first: what the lists say, without the machine. -/
import Derived.Test.YtgkbmppgconjgaaTopF
namespace Go.Proofs.Ytgkbmppgconjgaa
open Go.RowKit

theorem kids_of (ps : List Int) (s : Int) : ∀ (k i : Nat), 1 ≤ i → i < k → ps[i]? = some s → (i : Int) ∈ kidsTo ps s k
  | 0, i, _, h, _ => by omega
  | k + 1, i, h1, h2, h3 => by
    unfold kidsTo
    by_cases e : i = k
    · subst e
      rw [if_pos ⟨h1, h3⟩]
      simp
    · have := kids_of ps s k i h1 (by omega) h3
      split
      · exact List.mem_append.2 (.inl this)
      · exact this

/-- A walk that doesn't fail: all are equally far. -/
theorem walk_same (lv : Int → Int) : ∀ (K : List Int) (i : Nat) (level : Int), 0 ≤ walkLv lv K i level →
    (∀ k ∈ K, 0 ≤ lv k ∧ walkLv lv K i level = lv k + 1) ∧ (0 < i → walkLv lv K i level = level + 1)
  | [], i, level, _ => ⟨fun k h => by simp at h, fun _ => by unfold walkLv; rfl⟩
  | k :: r, i, level, h => by
    unfold walkLv at h ⊢
    by_cases hc : lv k < 0 ∨ (0 < i ∧ lv k ≠ level)
    · rw [if_pos hc] at h; omega
    · rw [if_neg hc] at h ⊢
      obtain ⟨h1, h2⟩ := walk_same lv r (i + 1) (lv k) h
      have h3 := h2 (by omega)
      refine ⟨fun x hx => ?_, fun hi => ?_⟩
      · rcases List.mem_cons.1 hx with e | hx
        · subst e
          exact ⟨by apply Classical.byContradiction; intro hn; exact hc (.inl (by omega)), h3⟩
        · exact h1 x hx
      · rw [h3]
        have : lv k = level := by
          apply Classical.byContradiction
          intro hn
          exact hc (.inr ⟨hi, hn⟩)
        omega

/-- All equally far: one more. -/
theorem walk_const (lv : Int → Int) (c : Int) (hc : 0 ≤ c) : ∀ (K : List Int) (i : Nat) (level : Int), (∀ k ∈ K, lv k = c) → (0 < i → level = c) → (i = 0 → K ≠ []) → walkLv lv K i level = c + 1
  | [], i, level, _, h1, h2 => by
    unfold walkLv
    by_cases hi : i = 0
    · exact absurd rfl (h2 hi)
    · rw [h1 (by omega)]
  | k :: r, i, level, h, h1, h2 => by
    unfold walkLv
    have hk := h k (by simp)
    rw [if_neg (by rintro (h3 | ⟨h3, h4⟩); omega; exact h4 (by rw [hk, h1 h3]))]
    exact walk_const lv c hc r (i + 1) (lv k) (fun x hx => h x (by simp [hx])) (fun _ => hk) (fun h => by omega)

/-- The level of a switch, as far as there are switches. -/
def lvN (ps : List Int) (s : Int) : Int := lvF ps ps.length s

theorem lvN_eq {ps : List Int} (ht : treeB ps) (s : Nat) (hs : s < ps.length) : lvN ps s = walkLv (lvN ps) (kidsTo ps s ps.length) 0 (-1) := by
  unfold lvN
  obtain ⟨n, hn⟩ : ∃ n, ps.length = n + 1 := ⟨ps.length - 1, by omega⟩
  conv => lhs; rw [hn]
  rw [lvF]
  apply walk_congr
  intro k hk
  obtain ⟨i, rfl, hi1, hi2, hi3⟩ := kids_mem ps s _ k hk
  have := ht i s hi1 hi3
  exact lv_enough ht n ps.length i hi2 (by omega) (by omega)

/-- Where the top has a level, each switch has. -/
theorem lvN_all {ps : List Int} (ht : treeB ps) (h0 : 0 ≤ lvN ps 0) : ∀ (m j : Nat), j ≤ m → j < ps.length → 0 ≤ lvN ps j := by
  intro m
  induction m with
  | zero =>
    intro j hj _
    obtain rfl : j = 0 := by omega
    exact h0
  | succ m ih =>
    intro j hj hl
    by_cases e : j = 0
    · subst e; exact h0
    · have hx := ht j ps[j] (by omega) (List.getElem?_eq_getElem hl)
      obtain ⟨p, hp⟩ : ∃ p : Nat, ps[j] = p := ⟨ps[j].toNat, by omega⟩
      have hpl : p < j := by omega
      have h1 := ih p (by omega) (by omega)
      rw [lvN_eq ht p (by omega)] at h1
      exact ((walk_same (lvN ps) _ 0 (-1) h1).1 j (kids_of ps p ps.length j (by omega) hl (by rw [List.getElem?_eq_getElem hl, hp]))).1

theorem lvN_kid {ps : List Int} (ht : treeB ps) (h0 : 0 ≤ lvN ps 0) (p j : Nat) (hj1 : 1 ≤ j) (hj : j < ps.length) (hp : ps[j]? = some (p : Int)) : lvN ps p = lvN ps j + 1 := by
  have hx := ht j p hj1 hp
  have h1 := lvN_all ht h0 p p (Nat.le_refl _) (by omega)
  have h2 := h1
  rw [lvN_eq ht p (by omega)] at h2 ⊢
  exact ((walk_same (lvN ps) _ 0 (-1) h2).1 j (kids_of ps p ps.length j hj1 hj hp)).2

theorem lvN_leaf {ps : List Int} (ht : treeB ps) (h0 : 0 ≤ lvN ps 0) (p : Nat) (hp : p < ps.length) : lvN ps p = 0 ↔ kidsTo ps p ps.length = [] := by
  constructor
  · intro h
    cases hk : kidsTo ps p ps.length with
    | nil => rfl
    | cons k r =>
      exfalso
      obtain ⟨i, e, h1, h2, h3⟩ := kids_mem ps p ps.length k (by rw [hk]; simp)
      have := lvN_kid ht h0 p i h1 h2 h3
      have := lvN_all ht h0 i i (Nat.le_refl _) h2
      omega
  · intro h
    rw [lvN_eq ht p hp, h]
    unfold walkLv
    rfl

/-- The levels as they stand when the switches beyond s have been gone through. -/
structure LvAt (ps L : List Int) (s : Nat) : Prop where
  len : L.length = ps.length
  tree : ∀ (i : Nat) (x : Int), s < i → ps[i]? = some x → 0 ≤ x ∧ x < i
  kid : ∀ (i p : Nat), 1 ≤ i → s < i → ps[i]? = some (p : Int) → ∃ x y, L[i]? = some x ∧ L[p]? = some y ∧ y = x + 1
  none : ∀ (p : Nat) (y : Int), L[p]? = some y → (∀ i : Nat, 1 ≤ i → s < i → ps[i]? ≠ some (p : Int)) → y = 0
  pos : ∀ (p : Nat) (y : Int), L[p]? = some y → 0 ≤ y ∧ y ≤ ps.length - s

theorem LvAt.start (ps : List Int) (n : Nat) (h : ps.length = n + 1) : LvAt ps (List.replicate ps.length 0) n := by
  refine ⟨by simp, fun i x h1 h2 => ?_, fun i p _ h1 h2 => ?_, fun p y h1 _ => ?_, fun p y h1 => ?_⟩
  · have := (List.getElem?_eq_some_iff.1 h2).1; omega
  · have := (List.getElem?_eq_some_iff.1 h2).1; omega
  · obtain ⟨_, h2⟩ := List.getElem?_eq_some_iff.1 h1
    simpa using h2.symm
  · obtain ⟨_, h2⟩ := List.getElem?_eq_some_iff.1 h1
    have : y = 0 := by simpa using h2.symm
    omega

theorem LvAt.step {ps L : List Int} {s : Nat} (h : LvAt ps L (s + 1)) (p : Nat) (hp : ps[s + 1]? = some (p : Int)) (hlt : p < s + 1) (x y : Int) (hx : L[s + 1]? = some x) (hy : L[p]? = some y) (hok : ¬ (0 < y ∧ y ≠ x + 1)) : LvAt ps (L.set p (x + 1)) s := by
  have hpl : p < L.length := (List.getElem?_eq_some_iff.1 hy).1
  have hsl : s + 1 < L.length := (List.getElem?_eq_some_iff.1 hx).1
  have hlen := h.len
  refine ⟨by rw [List.length_set]; exact h.len, fun i z h1 h2 => ?_, fun i q h0 h1 h2 => ?_, fun q z h1 h2 => ?_, fun q z h1 => ?_⟩
  · by_cases e : i = s + 1
    · subst e
      rw [hp] at h2
      cases h2
      omega
    · exact h.tree i z (by omega) h2
  · by_cases e : i = s + 1
    · subst e
      rw [hp] at h2
      have e2 : p = q := by have := Option.some.inj h2; omega
      subst e2
      refine ⟨x, x + 1, ?_, List.getElem?_set_self hpl, rfl⟩
      rw [List.getElem?_set_ne (by omega)]
      exact hx
    · obtain ⟨x', y', h3, h4, h5⟩ := h.kid i q h0 (by omega) h2
      have hqi := (h.tree i q (by omega) h2).2
      by_cases e2 : q = p
      · subst e2
        rw [hy] at h4
        cases h4
        have hx' := (h.pos i x' h3).1
        have hyx : y = x + 1 := by
          apply Classical.byContradiction
          intro hn
          exact hok ⟨by omega, hn⟩
        refine ⟨x', x + 1, ?_, List.getElem?_set_self hpl, by omega⟩
        rw [List.getElem?_set_ne (by omega)]
        exact h3
      · refine ⟨x', y', ?_, ?_, h5⟩
        · rw [List.getElem?_set_ne (by omega)]
          exact h3
        · rw [List.getElem?_set_ne (by omega)]
          exact h4
  · by_cases e2 : q = p
    · subst e2
      exact absurd hp (h2 (s + 1) (by omega) (by omega))
    · rw [List.getElem?_set_ne (by omega)] at h1
      exact h.none q z h1 (fun i h3 h4 h5 => h2 i h3 (by omega) h5)
  · by_cases e2 : q = p
    · subst e2
      rw [List.getElem?_set_self hpl] at h1
      cases h1
      have := h.pos _ _ hx
      omega
    · rw [List.getElem?_set_ne (by omega)] at h1
      have := h.pos _ _ h1
      omega

theorem LvAt.isTree {ps L : List Int} (h : LvAt ps L 0) : treeB ps := fun i x h1 h2 => h.tree i x (by omega) h2

/-- What has been gone through is final. -/
theorem LvAt.final {ps L : List Int} {s : Nat} (h : LvAt ps L s) (ht : treeB ps) : ∀ (m i : Nat), ps.length ≤ i + m → s ≤ i → i < ps.length → L[i]? = some (lvN ps i) := by
  intro m
  induction m with
  | zero => intro i h1 _ h2; omega
  | succ m ih =>
    intro i h1 h2 h3
    have hl : i < L.length := by rw [h.len]; exact h3
    rw [List.getElem?_eq_getElem hl, lvN_eq ht i h3]
    congr 1
    cases hk : kidsTo ps i ps.length with
    | nil =>
      unfold walkLv
      rw [h.none i _ (List.getElem?_eq_getElem hl) (fun j hj1 hj2 hj3 => by
        have := kids_of ps i ps.length j hj1 (List.getElem?_eq_some_iff.1 hj3).1 hj3
        rw [hk] at this
        simp at this)]
      rfl
    | cons k r =>
      have key : ∀ z ∈ kidsTo ps i ps.length, lvN ps z + 1 = L[i] := fun z hz => by
        obtain ⟨j, rfl, hj1, hj2, hj3⟩ := kids_mem ps i ps.length z hz
        have hij := ht j i hj1 hj3
        obtain ⟨x, y, hx, hy, e⟩ := h.kid j i hj1 (by omega) hj3
        rw [ih j (by omega) (by omega) hj2] at hx
        rw [List.getElem?_eq_getElem hl] at hy
        rw [Option.some.inj hx, Option.some.inj hy, e]
      have hk0 := key k (by rw [hk]; simp)
      obtain ⟨j, rfl, hj1, hj2, hj3⟩ := kids_mem ps i ps.length k (by rw [hk]; simp)
      have hij := ht j i hj1 hj3
      have hp := (h.pos j _ (ih j (by omega) (by omega) hj2)).1
      rw [← hk]
      rw [walk_const (lvN ps) (lvN ps j) hp _ 0 (-1) (fun z hz => by have := key z hz; omega) (fun h => by omega) (fun _ => by rw [hk]; simp)]
      omega

/-- The parents make a right tree. -/
structure TreeOk (ps : List Int) : Prop where
  one : 1 ≤ ps.length
  few : ps.length ≤ 24
  top : ps[0]? = some 0
  tree : treeB ps
  level : 0 ≤ lvN ps 0

theorem LvAt.done {ps L : List Int} (h : LvAt ps L 0) (h1 : 1 ≤ ps.length) (h2 : ps.length ≤ 24) (h3 : ps[0]? = some 0) : TreeOk ps := by
  refine ⟨h1, h2, h3, h.isTree, ?_⟩
  have := h.final h.isTree ps.length 0 (by omega) (Nat.le_refl _) (by omega)
  exact (h.pos 0 _ this).1

theorem LvAt.bad {ps L : List Int} {s : Nat} (h : LvAt ps L (s + 1)) (p : Nat) (hp : ps[s + 1]? = some (p : Int)) (x y : Int) (hx : L[s + 1]? = some x) (hy : L[p]? = some y) (hbad : 0 < y ∧ y ≠ x + 1) : ¬ TreeOk ps := by
  intro t
  have hsl : s + 1 < ps.length := (List.getElem?_eq_some_iff.1 hp).1
  have hne : ¬ ∀ i : Nat, 1 ≤ i → s + 1 < i → ps[i]? ≠ some (p : Int) := fun hn => by
    have := h.none p y hy hn
    omega
  obtain ⟨i, hi1, hi2, hi3⟩ : ∃ i : Nat, 1 ≤ i ∧ s + 1 < i ∧ ps[i]? = some (p : Int) := by
    apply Classical.byContradiction
    intro hn
    exact hne (fun i a b c => hn ⟨i, a, b, c⟩)
  have hil := (List.getElem?_eq_some_iff.1 hi3).1
  obtain ⟨x', y', h3, h4, h5⟩ := h.kid i p hi1 hi2 hi3
  rw [hy] at h4
  cases h4
  have e1 := lvN_kid t.tree t.level p i hi1 hil hi3
  have e2 := lvN_kid t.tree t.level p (s + 1) (by omega) hsl hp
  have f1 := h.final t.tree ps.length i (by omega) (by omega) hil
  have f2 := h.final t.tree ps.length (s + 1) (by omega) (Nat.le_refl _) hsl
  rw [h3] at f1
  rw [hx] at f2
  have g1 := Option.some.inj f1
  have g2 := Option.some.inj f2
  omega
end Go.Proofs.Ytgkbmppgconjgaa
