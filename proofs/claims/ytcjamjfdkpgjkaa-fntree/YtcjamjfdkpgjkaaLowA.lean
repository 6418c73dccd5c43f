/- The lowest switch of nodes: what the lists say, without the machine. -/
import Derived.Test.YtcjamjfdkpgjkaaLfB
import Derived.Test.YtcjamjfdkpgjkaaWayA
namespace Go.Proofs.Ytcjamjfdkpgjkaa
open Go.RowKit

/-- The way up from the leaf of a node. -/
def upLeaf (ps : List Int) (ns : List Nd) (x : Int) : List Int := upF ps (leafOf ns x).toNat (leafOf ns x).toNat
/-- All these nodes lie below s, or at it. -/
def cov (ps : List Int) (ns : List Nd) (xs : List Int) (s : Int) : Prop := ∀ x ∈ xs, s ∈ upLeaf ps ns x

open Classical in
/-- Of the first k switches the last that has all below it; -1 where none has. -/
noncomputable def bestTo (ps : List Int) (ns : List Nd) (xs : List Int) : Nat → Int
  | 0 => -1
  | k + 1 => if cov ps ns xs (k : Int) then (k : Int) else bestTo ps ns xs k

open Classical in
/-- What 'Lowest' answers. -/
noncomputable def lowR (ps : List Int) (ns : List Nd) (xs : List Int) : Int := if NdOk ps ns xs ∧ xs ≠ [] then bestTo ps ns xs ps.length else -1

theorem best_cases (ps : List Int) (ns : List Nd) (xs : List Int) : ∀ k, (bestTo ps ns xs k = -1 ∧ ∀ s : Nat, s < k → ¬ cov ps ns xs s) ∨ ∃ r : Nat, r < k ∧ bestTo ps ns xs k = r ∧ cov ps ns xs r ∧ ∀ s : Nat, s < k → cov ps ns xs s → s ≤ r
  | 0 => .inl ⟨rfl, fun s h => by omega⟩
  | k + 1 => by
    unfold bestTo
    by_cases hc : cov ps ns xs (k : Int)
    · rw [if_pos hc]
      exact .inr ⟨k, by omega, rfl, hc, fun s hs _ => by omega⟩
    · rw [if_neg hc]
      rcases best_cases ps ns xs k with ⟨h1, h2⟩ | ⟨r, h1, h2, h3, h4⟩
      · refine .inl ⟨h1, fun s hs => ?_⟩
        by_cases e : s = k
        · subst e; exact hc
        · exact h2 s (by omega)
      · refine .inr ⟨r, by omega, h2, h3, fun s hs h => ?_⟩
        by_cases e : s = k
        · subst e; exact absurd h hc
        · exact h4 s (by omega) h

theorem best_is {ps : List Int} {ns : List Nd} {xs : List Int} {k r : Nat} (h1 : r < k) (h2 : cov ps ns xs r) (h3 : ∀ s : Nat, s < k → cov ps ns xs s → s ≤ r) : bestTo ps ns xs k = r := by
  rcases best_cases ps ns xs k with ⟨_, h⟩ | ⟨q, a, b, c, d⟩
  · exact absurd h2 (h r h1)
  · have := h3 q a c
    have := d r h1 h2
    rw [b]
    omega

/-- On the way up numbers fall and levels rise. -/
theorem up_lv {ps : List Int} (ht : treeB ps) (h0 : 0 ≤ lvN ps 0) : ∀ (m j : Nat), j ≤ m → j < ps.length → ∀ z ∈ upF ps j j, z = (j : Int) ∨ (0 ≤ z ∧ z < (j : Int) ∧ lvN ps j < lvN ps z) := by
  intro m
  induction m with
  | zero =>
    intro j hj hl z hz
    obtain rfl : j = 0 := by omega
    rw [up_zero] at hz
    exact .inl (by simpa using hz)
  | succ m ih =>
    intro j hj hl z hz
    by_cases e : j = 0
    · subst e
      rw [up_zero] at hz
      exact .inl (by simpa using hz)
    · have hx := ht j ps[j] (by omega) (List.getElem?_eq_getElem hl)
      obtain ⟨p, hp⟩ : ∃ p : Nat, ps[j] = p := ⟨ps[j].toNat, by omega⟩
      have hpe : ps[j]? = some (p : Int) := by rw [List.getElem?_eq_getElem hl, hp]
      rw [up_step ht j p (by omega) hl hpe] at hz
      have hk := lvN_kid ht h0 p j (by omega) hl hpe
      rcases List.mem_cons.1 hz with h | h
      · exact .inl h
      · rcases ih p (by omega) (by omega) z h with h | ⟨h1, h2, h3⟩
        · subst h
          exact .inr ⟨by omega, by omega, by omega⟩
        · exact .inr ⟨h1, by omega, by omega⟩

/-- Of two on one way up the lesser number has the greater level. -/
theorem up_two {ps : List Int} (ht : treeB ps) (h0 : 0 ≤ lvN ps 0) : ∀ (m j : Nat), j ≤ m → j < ps.length → ∀ x ∈ upF ps j j, ∀ y ∈ upF ps j j, x < y → lvN ps y < lvN ps x := by
  intro m
  induction m with
  | zero =>
    intro j hj hl x hx y hy hxy
    obtain rfl : j = 0 := by omega
    rw [up_zero] at hx hy
    simp at hx hy
    omega
  | succ m ih =>
    intro j hj hl x hx y hy hxy
    by_cases e : j = 0
    · subst e
      rw [up_zero] at hx hy
      simp at hx hy
      omega
    · have hq := ht j ps[j] (by omega) (List.getElem?_eq_getElem hl)
      obtain ⟨p, hp⟩ : ∃ p : Nat, ps[j] = p := ⟨ps[j].toNat, by omega⟩
      have hpe : ps[j]? = some (p : Int) := by rw [List.getElem?_eq_getElem hl, hp]
      have ux := up_lv ht h0 j j (Nat.le_refl _) hl x hx
      have uy := up_lv ht h0 j j (Nat.le_refl _) hl y hy
      rw [up_step ht j p (by omega) hl hpe] at hx hy
      rcases uy with rfl | ⟨_, hy1, _⟩
      · rcases ux with rfl | ⟨_, _, h⟩
        · omega
        · exact h
      · have hx' : x ∈ upF ps p p := (List.mem_cons.1 hx).resolve_left (by omega)
        have hy' : y ∈ upF ps p p := (List.mem_cons.1 hy).resolve_left (by omega)
        exact ih p (by omega) (by omega) x hx' y hy' hxy

/-- The specification's look: whoever has all is no higher than the best so far. -/
theorem best_step {ps : List Int} {ns : List Nd} {xs : List Int} (hok : NdOk ps ns xs) (hne : xs ≠ []) (k : Nat) (h : cov ps ns xs k) (hb : 0 ≤ bestTo ps ns xs k) : lvN ps k ≤ lvN ps (bestTo ps ns xs k) := by
  rcases best_cases ps ns xs k with ⟨h1, _⟩ | ⟨r, h1, h2, h3, _⟩
  · omega
  · rw [h2]
    cases xs with
    | nil => exact absurd rfl hne
    | cons x rest =>
      obtain ⟨q, n, l, rfl, _, _, _, hll, hlf⟩ := leaf_of hok.1 (hok.2 x (by simp))
      have a1 := h _ (List.mem_cons_self ..)
      have a2 := h3 _ (List.mem_cons_self ..)
      unfold upLeaf at a1 a2
      rw [hlf, Int.toNat_natCast] at a1 a2
      exact Int.le_of_lt (up_two hok.1.tree hok.1.level l l (Nat.le_refl _) hll _ a2 _ a1 (by omega))

/-- The program's look: the first on the way up from the first node that has all. -/
theorem best_first {ps : List Int} {ns : List Nd} {x : Int} {rest : List Int} (hok : NdOk ps ns (x :: rest)) (pre post : List Int) (r : Nat) (hu : upLeaf ps ns x = pre ++ (r : Int) :: post) (hr : cov ps ns (x :: rest) r) (hpre : ∀ y ∈ pre, ¬ cov ps ns (x :: rest) y) : bestTo ps ns (x :: rest) ps.length = r := by
  obtain ⟨q, n, l, rfl, _, _, _, hll, hlf⟩ := leaf_of hok.1 (hok.2 x (by simp))
  have hul : upF ps l l = pre ++ (r : Int) :: post := by rw [← hu, upLeaf, hlf, Int.toNat_natCast]
  have hrl : (r : Int) ∈ upF ps l l := by rw [hul]; simp
  have hr1 := up_mem hok.1.tree l l (Nat.le_refl _) hll r hrl
  have hpw : ∀ (m j : Nat), j ≤ m → j < ps.length → List.Pairwise (· > ·) (upF ps j j) := by
    intro m
    induction m with
    | zero =>
      intro j hj _
      obtain rfl : j = 0 := by omega
      rw [up_zero]
      simp
    | succ m ih =>
      intro j hj hl
      by_cases e : j = 0
      · subst e
        rw [up_zero]
        simp
      · have hq := hok.1.tree j ps[j] (by omega) (List.getElem?_eq_getElem hl)
        obtain ⟨p, hp⟩ : ∃ p : Nat, ps[j] = p := ⟨ps[j].toNat, by omega⟩
        rw [up_step hok.1.tree j p (by omega) hl (by rw [List.getElem?_eq_getElem hl, hp])]
        refine List.Pairwise.cons (fun z hz => ?_) (ih p (by omega) (by omega))
        have := up_mem hok.1.tree p p (Nat.le_refl _) (by omega) z hz
        show z < (j : Int)
        omega
  have hp := hpw l l (Nat.le_refl _) hll
  rw [hul] at hp
  refine best_is (by omega) hr (fun s hs hc => ?_)
  have hsm : (s : Int) ∈ upF ps l l := by
    have := hc _ (List.mem_cons_self ..)
    rwa [upLeaf, hlf, Int.toNat_natCast] at this
  rw [hul] at hsm
  rcases List.mem_append.1 hsm with h | h
  · exact absurd hc (hpre _ h)
  · rcases List.mem_cons.1 h with h | h
    · omega
    · have := (List.pairwise_cons.1 (List.pairwise_append.1 hp).2.1).1 _ h
      have h2 : (s : Int) < r := this
      omega

theorem up_top {ps : List Int} (ht : treeB ps) : ∀ (m j : Nat), j ≤ m → j < ps.length → (0 : Int) ∈ upF ps j j := by
  intro m
  induction m with
  | zero =>
    intro j hj _
    obtain rfl : j = 0 := by omega
    rw [up_zero]
    simp
  | succ m ih =>
    intro j hj hl
    by_cases e : j = 0
    · subst e
      rw [up_zero]
      simp
    · have hq := ht j ps[j] (by omega) (List.getElem?_eq_getElem hl)
      obtain ⟨p, hp⟩ : ∃ p : Nat, ps[j] = p := ⟨ps[j].toNat, by omega⟩
      rw [up_step ht j p (by omega) hl (by rw [List.getElem?_eq_getElem hl, hp])]
      exact List.mem_cons_of_mem _ (ih p (by omega) (by omega))

/-- The top has all. -/
theorem cov_top {ps : List Int} {ns : List Nd} {xs : List Int} (hok : NdOk ps ns xs) : cov ps ns xs 0 := fun x hx => by
  obtain ⟨q, n, l, rfl, _, _, _, hll, hlf⟩ := leaf_of hok.1 (hok.2 x hx)
  rw [upLeaf, hlf, Int.toNat_natCast]
  exact up_top hok.1.tree l l (Nat.le_refl _) hll
end Go.Proofs.Ytcjamjfdkpgjkaa
