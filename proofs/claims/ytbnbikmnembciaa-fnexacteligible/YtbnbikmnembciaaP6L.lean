/- What is free, taken and given back: lists. -/
import Derived.Test.YtbnbikmnembciaaTkE
namespace Go.Proofs.Ytbnbikmnembciaa
open Go.RowKit

/-- Of each of the three no more. -/
def le3 (x m : Nd) : Prop := x.a ≤ m.a ∧ x.b ≤ m.b ∧ x.c ≤ m.c
theorem le3_self (x : Nd) : le3 x x := ⟨Int.le_refl _, Int.le_refl _, Int.le_refl _⟩
theorem le3_min (x m n : Nd) : le3 x (vmin m n) ↔ le3 x m ∧ le3 x n := by
  simp only [le3, vmin, Int.le_min]
  constructor
  · rintro ⟨⟨h1, h2⟩, ⟨h3, h4⟩, h5, h6⟩
    exact ⟨⟨h1, h3, h5⟩, h2, h4, h6⟩
  · rintro ⟨⟨h1, h3, h5⟩, h2, h4, h6⟩
    exact ⟨⟨h1, h2⟩, ⟨h3, h4⟩, h5, h6⟩

theorem le_minTo {ns : List Nd} {f t : Int} {x : Nd} : ∀ j, le3 x (minTo ns f t j) ↔ le3 x (atL ns f) ∧ ∀ n ∈ ns.take j, f ≤ n.l → n.l < t → le3 x n
  | 0 => by simp [minTo]
  | j + 1 => by
    have ih := le_minTo (ns := ns) (f := f) (t := t) (x := x) j
    by_cases hj : j < ns.length
    · have e := List.getElem?_eq_getElem hj
      rw [min_next e, List.take_add_one, e]
      generalize ns[j] = nj at *
      simp only [Option.toList_some, List.mem_append, List.mem_singleton]
      by_cases hc : f ≤ nj.l ∧ nj.l < t
      · rw [if_pos hc, le3_min, ih]
        constructor
        · rintro ⟨⟨h1, h2⟩, h3⟩
          refine ⟨h1, fun n hn => ?_⟩
          rcases hn with hn | rfl
          · exact h2 n hn
          · exact fun _ _ => h3
        · rintro ⟨h1, h2⟩
          exact ⟨⟨h1, fun n hn => h2 n (.inl hn)⟩, h2 _ (.inr rfl) hc.1 hc.2⟩
      · rw [if_neg hc, ih]
        constructor
        · rintro ⟨h1, h2⟩
          refine ⟨h1, fun n hn => ?_⟩
          rcases hn with hn | rfl
          · exact h2 n hn
          · exact fun a b => absurd ⟨a, b⟩ hc
        · rintro ⟨h1, h2⟩
          exact ⟨h1, fun n hn => h2 n (.inl hn)⟩
    · have e1 : ns.take (j + 1) = ns := List.take_of_length_le (by omega)
      have e2 : ns.take j = ns := List.take_of_length_le (by omega)
      unfold minTo at *
      rw [e2] at ih
      rw [e1]
      exact ih

theorem StepAt.le {ns : List Nd} {t : Int} {s : Nat} {n : Nd} (h : StepAt ns t s) (hn : ns[s]? = some n) : n.l ≤ t := by
  obtain ⟨n', hn', hle, _⟩ := h
  rw [hn] at hn'
  cases hn'
  exact hle

theorem min_at {ns : List Nd} (h : POk ns) {f t s : Int} (hf : 0 ≤ f) (h1 : f ≤ s) (h2 : s < t) : le3 (minTo ns f t ns.length) (atL ns s) := by
  obtain ⟨ha, hb⟩ := (le_minTo ns.length).1 (le3_self (minTo ns f t ns.length))
  obtain ⟨i, n, hs, hn, hat⟩ := h.at_mem (t := s) (by omega)
  have hle := hs.le hn
  rw [hat]
  by_cases hl : f ≤ n.l
  · exact hb n (by rw [List.take_length]; exact List.mem_of_getElem? hn) hl (by omega)
  · have hf' : StepAt ns f i := by
      obtain ⟨n', hn', _, hlt⟩ := hs
      exact ⟨n, hn, by omega, fun k m hk hm => by have := hlt k m hk hm; omega⟩
    rw [hf'.at hn] at ha
    exact ha
theorem min_less {ns : List Nd} {f t t' : Int} (ht : t' ≤ t) : le3 (minTo ns f t ns.length) (minTo ns f t' ns.length) := by
  obtain ⟨ha, hb⟩ := (le_minTo ns.length).1 (le3_self (minTo ns f t ns.length))
  exact (le_minTo _).2 ⟨ha, fun n hn h1 h2 => hb n hn h1 (by omega)⟩

theorem fit_le {x m : Nd} (h1 : vokN x = true) (h2 : vokN m = true) (h : le3 x m) : fitB x.a x.b x.c m.a m.b m.c = true := by
  obtain ⟨ha, hb, hc⟩ := h
  unfold vokN at h1 h2
  simp [fitB, h1, h2, nabB, ha, hb, hc]

/-- The three amounts of a point. -/
def val (n : Nd) : Int × Int × Int := (n.a, n.b, n.c)
theorem same_val (m n : Nd) : sameV m n = true ↔ val m = val n := by
  obtain ⟨l, a, b, c⟩ := m
  obtain ⟨l', a', b', c'⟩ := n
  simp [sameV, val]
theorem same_not (m n : Nd) : sameV m n = false ↔ val m ≠ val n := by
  rw [← Bool.not_eq_true, same_val]

/-- Points that rise and of which two next to each other differ. -/
structure Cn (ns : List Nd) : Prop where
  rise : Rising ns
  diff : ∀ (i : Nat) m n, ns[i]? = some m → ns[i + 1]? = some n → val m ≠ val n
theorem POk.cn {ns : List Nd} (h : POk ns) : Cn ns := ⟨h.rising, fun i m n hm hn => (same_not m n).1 (h.step i m n hm hn).2⟩
theorem Gd.cn {ns : List Nd} {t : Int} (h : Gd ns t) : Cn ns := ⟨fun i m n hm hn => (h.step i m n hm hn).1, fun i m n hm hn => (same_not m n).1 (h.step i m n hm hn).2⟩
theorem Cn.tail {x : Nd} {r : List Nd} (h : Cn (x :: r)) : Cn r := ⟨fun i m n hm hn => h.rise (i + 1) m n hm hn, fun i m n hm hn => h.diff (i + 1) m n hm hn⟩

theorem at_cons (x : Nd) (r : List Nd) (t : Int) : atL (x :: r) t = r.foldl (fun o n => if n.l ≤ t then n else o) (if x.l ≤ t then x else nd0) := rfl

/-- Ahead of all points nothing turns. -/
theorem fold_late {r : List Nd} {t : Int} (h : ∀ n ∈ r, t < n.l) (o : Nd) : r.foldl (fun o n => if n.l ≤ t then n else o) o = o := by
  induction r generalizing o with
  | nil => rfl
  | cons x r ih =>
    rw [List.foldl_cons, if_neg (by have := h x (by simp); omega)]
    exact ih (fun n hn => h n (by simp [hn])) o
theorem Cn.after {x : Nd} {r : List Nd} (h : Cn (x :: r)) : ∀ n ∈ r, x.l < n.l := fun n hn => by
  obtain ⟨i, hi⟩ := List.getElem?_of_mem hn
  exact h.rise.mono (i := 0) (j := i + 1) rfl hi (by omega)
theorem at_here {x : Nd} {r : List Nd} (h : Cn (x :: r)) {t : Int} (h1 : x.l ≤ t) (h2 : ∀ n, r.head? = some n → t < n.l) : atL (x :: r) t = x := by
  rw [at_cons, if_pos h1]
  refine fold_late (fun n hn => ?_) x
  cases r with
  | nil => simp at hn
  | cons y r =>
    have hy := h2 y rfl
    rcases List.mem_cons.1 hn with rfl | hn
    · exact hy
    · have := h.tail.after n hn; omega
theorem at_skip {x y : Nd} {r : List Nd} (_h : Cn (x :: y :: r)) {t : Int} (h1 : y.l ≤ t) : atL (x :: y :: r) t = atL (y :: r) t := by
  rw [at_cons, List.foldl_cons, if_pos h1, at_cons, if_pos h1]

/-- Two of them that show the same from the first time on are the same. -/
theorem cn_same : ∀ (ms ns : List Nd), Cn ms → Cn ns → ∀ m n, ms.head? = some m → ns.head? = some n → m.l = n.l → (∀ t, m.l ≤ t → t ≤ 1000000000 → val (atL ms t) = val (atL ns t)) → (∀ x ∈ ms, x.l ≤ 1000000000) → (∀ x ∈ ns, x.l ≤ 1000000000) → ms = ns
  | [], _, _, _, _, _, h, _, _, _, _, _ => by cases h
  | _ :: _, [], _, _, _, _, _, h, _, _, _, _ => by cases h
  | x :: r, y :: s, hm, hn, m, n, e1, e2, hl, hv, hbm, hbn => by
    cases e1
    cases e2
    have hxb := hbm x (by simp)
    have hxy : x = y := by
      have h0 := hv x.l (Int.le_refl _) hxb
      rw [at_here hm (Int.le_refl _) (fun n h => hm.after n (List.mem_of_mem_head? h)), at_here hn (by omega) (fun n h => by have := hn.after n (List.mem_of_mem_head? h); omega)] at h0
      obtain ⟨l, a, b, c⟩ := x
      obtain ⟨l', a', b', c'⟩ := y
      simp [val] at h0 hl
      simp [h0, hl]
    subst hxy
    congr 1
    cases r with
    | nil =>
      cases s with
      | nil => rfl
      | cons z s =>
        exfalso
        have hz := hn.after z (by simp)
        have hzb := hbn z (by simp)
        have h0 := hv z.l (by omega) hzb
        rw [at_here hm (by omega) (fun n h => by cases h), at_skip hn (Int.le_refl _), at_here hn.tail (Int.le_refl _) (fun n h => hn.tail.after n (List.mem_of_mem_head? h))] at h0
        exact hn.diff 0 x z rfl rfl h0
    | cons u r =>
      have hu := hm.after u (by simp)
      have hub := hbm u (by simp)
      cases s with
      | nil =>
        exfalso
        have h0 := hv u.l (by omega) hub
        rw [at_here hn (by omega) (fun n h => by cases h), at_skip hm (Int.le_refl _), at_here hm.tail (Int.le_refl _) (fun n h => hm.tail.after n (List.mem_of_mem_head? h))] at h0
        exact hm.diff 0 x u rfl rfl h0.symm
      | cons z s =>
        have hz := hn.after z (by simp)
        have hzb := hbn z (by simp)
        have huz : u.l = z.l := by
          rcases Int.lt_trichotomy u.l z.l with h | h | h
          · exfalso
            have h0 := hv u.l (by omega) hub
            rw [at_here hn (by omega) (fun n hh => by cases hh; exact h), at_skip hm (Int.le_refl _), at_here hm.tail (Int.le_refl _) (fun n h => hm.tail.after n (List.mem_of_mem_head? h))] at h0
            exact hm.diff 0 x u rfl rfl h0.symm
          · exact h
          · exfalso
            have h0 := hv z.l (by omega) hzb
            rw [at_here hm (by omega) (fun n hh => by cases hh; exact h), at_skip hn (Int.le_refl _), at_here hn.tail (Int.le_refl _) (fun n h => hn.tail.after n (List.mem_of_mem_head? h))] at h0
            exact hn.diff 0 x z rfl rfl h0
        refine cn_same (u :: r) (z :: s) hm.tail hn.tail u z rfl rfl huz (fun t h1 h2 => ?_) (fun n hn => hbm n (by simp [hn])) (fun n hn => hbn n (by simp [hn]))
        have h0 := hv t (by omega) h2
        rw [at_skip hm h1, at_skip hn (by omega)] at h0
        exact h0
end Go.Proofs.Ytbnbikmnembciaa
