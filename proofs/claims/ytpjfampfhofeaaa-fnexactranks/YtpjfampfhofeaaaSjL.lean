/- Accounts: names are ordered, ranks differ, what a charge leaves: lists alone. -/
import Derived.Test.YtpjfampfhofeaaaShK
namespace Go.Proofs.Ytpjfampfhofeaaa
open Go.ChangeShapes Go.WideShapes Go.ChangeAt Go.RowKit

theorem bl_irr (x : List UInt8) : Op.bytesLess x x = false := by
  rw [bytesLess_eq]
  exact decide_eq_false (List.lt_irrefl x)
theorem bl_trans {x y z : List UInt8} (h1 : Op.bytesLess x y = true) (h2 : Op.bytesLess y z = true) : Op.bytesLess x z = true := by
  rw [bytesLess_eq] at *
  exact decide_eq_true (List.lt_trans (of_decide_eq_true h1) (of_decide_eq_true h2))
theorem bl_tot {x y : List UInt8} (h1 : Op.bytesLess x y = false) (h2 : Op.bytesLess y x = false) : x = y := by
  rw [bytesLess_eq] at *
  exact List.le_antisymm (List.not_lt.1 (of_decide_eq_false h2)) (List.not_lt.1 (of_decide_eq_false h1))
theorem nt_trans {a b c : ByteArray} (h1 : ntL a b = true) (h2 : ntL b c = true) : ntL a c = true := bl_trans h1 h2
/-- Names rise. -/
theorem names_rise {l : List Ac} (h : AOk l) : ∀ (j i : Nat), i < j → j < l.length → ntL (ag l i).nm (ag l j).nm = true
  | 0, i, h1, _ => by omega
  | j + 1, i, h1, h2 => by
    have hs := (h.2 (j + 1) h2).2 (by omega)
    rw [Nat.add_sub_cancel] at hs
    by_cases e : i = j
    · subst e; exact hs
    · exact nt_trans (names_rise h j i (by omega) (by omega)) hs
theorem nt_ne {a b : ByteArray} (h : ntL a b = true) : (a.toList == b.toList) = false := by
  rw [beq_eq_false_iff_ne]
  intro e
  unfold ntL at h
  rw [e, bl_irr] at h
  cases h
/-- Two places, two names. -/
theorem names_ne {l : List Ac} (h : AOk l) {i j : Nat} (hi : i < l.length) (hj : j < l.length) (e : i ≠ j) : (l[i].nm.toList == l[j].nm.toList) = false := by
  rcases Nat.lt_or_gt_of_ne e with g | g
  · have := nt_ne (names_rise h j i g hj)
    rwa [ag_eq hi, ag_eq hj] at this
  · have := nt_ne (names_rise h i j g hi)
    rw [ag_eq hi, ag_eq hj] at this
    rw [beq_eq_false_iff_ne] at *
    exact fun t => this t.symm
theorem atF_at : ∀ (l : List Ac) (s : ByteArray) (k i : Nat) (h : i < l.length), nmB l[i] s = true → (∀ m (hm : m < i), nmB (l[m]'(by omega)) s = false) → atF l s k = ((k + i : Nat) : Int)
  | [], s, k, i, h, _, _ => by simp at h
  | x :: r, s, k, 0, h, h1, _ => by
    unfold atF
    rw [if_pos (show nmB x s = true from h1)]
    simp
  | x :: r, s, k, i + 1, h, h1, h2 => by
    have hx : nmB x s = false := h2 0 (by omega)
    unfold atF
    rw [if_neg (by rw [hx]; decide)]
    rw [atF_at r s (k + 1) i (by simpa using h) (by simpa using h1) (fun m hm => by have := h2 (m + 1) (by omega); simpa using this)]
    congr 1; omega
/-- Where a name stands that is one of theirs. -/
theorem aAt_at {l : List Ac} (h : AOk l) {i : Nat} (hi : i < l.length) {s : ByteArray} (hs : (l[i].nm.toList == s.toList) = true) : aAt l s = (i : Int) := by
  unfold aAt
  rw [if_pos h, atF_at l s 0 i hi hs ?_, Nat.zero_add]
  intro m hm
  have h1 := names_ne h (i := m) (j := i) (by omega) hi (by omega)
  have e : l[i].nm.toList = s.toList := eq_of_beq hs
  rw [e] at h1
  exact h1
theorem aAt_ne {l : List Ac} {s : ByteArray} {i : Nat} (hi : i < l.length) (ha : aAt l s = (i : Int)) : (l[i].nm.toList == s.toList) = true := by
  have key : ∀ (l : List Ac) (k i : Nat) (h : i < l.length), atF l s k = ((k + i : Nat) : Int) → nmB l[i] s = true := by
    intro l
    induction l with
    | nil => intro k i h; simp at h
    | cons x r ih =>
      intro k i h e
      unfold atF at e
      split at e
      · have : i = 0 := by omega
        subst this
        assumption
      · cases i with
        | zero =>
          rcases atF_in r s (k + 1) with h2 | ⟨m, _, h2⟩
          · rw [h2] at e; omega
          · rw [h2] at e; omega
        | succ i => 
          have := ih (k + 1) i (by simpa using h) (by rw [e]; congr 1; omega)
          simpa using this
  unfold aAt at ha
  split at ha
  · exact key l 0 i hi (by rw [ha, Nat.zero_add])
  · omega
/-- Nobody is ahead of himself. -/
theorem ah_irr (x : Ac) : ahB x x = false := by
  simp [ahB, ntL, bl_irr]
theorem cross_le {a b c d e f : Int} (hb : 0 < b) (hd : 0 < d) (hf : 0 < f) (h1 : a * d ≤ c * b) (h2 : c * f ≤ e * d) : a * f ≤ e * b := by
  have t1 := Int.mul_le_mul_of_nonneg_right h1 (Int.le_of_lt hf)
  have t2 := Int.mul_le_mul_of_nonneg_right h2 (Int.le_of_lt hb)
  have e1 : a * d * f = a * f * d := by rw [Int.mul_assoc, Int.mul_comm d f, ← Int.mul_assoc]
  have e2 : c * b * f = c * f * b := by rw [Int.mul_assoc, Int.mul_comm b f, ← Int.mul_assoc]
  have e3 : e * d * b = e * b * d := by rw [Int.mul_assoc, Int.mul_comm d b, ← Int.mul_assoc]
  rw [e1, e2] at t1
  rw [e3] at t2
  exact Int.le_of_mul_le_mul_right (Int.le_trans t1 t2) hd
/-- Shares are held against use crosswise: ahead of one that is ahead is ahead. -/
theorem ah_trans {x y z : Ac} (hx : 1 ≤ x.sh) (hy : 1 ≤ y.sh) (hz : 1 ≤ z.sh) (h1 : ahB x y = true) (h2 : ahB y z = true) : ahB x z = true := by
  simp only [ahB, Bool.or_eq_true, decide_eq_true_eq, Bool.and_eq_true, beq_iff_eq] at *
  have l1 : x.us * y.sh ≤ y.us * x.sh := by rcases h1 with h | h <;> omega
  have l2 : y.us * z.sh ≤ z.us * y.sh := by rcases h2 with h | h <;> omega
  have l3 := cross_le (by omega : 0 < x.sh) (by omega : 0 < y.sh) (by omega : 0 < z.sh) l1 l2
  by_cases e : x.us * z.sh = z.us * x.sh
  · have r1 : z.us * y.sh ≤ y.us * z.sh := cross_le (by omega : 0 < z.sh) (by omega : 0 < x.sh) (by omega : 0 < y.sh) (by omega) l1
    have r2 : y.us * x.sh ≤ x.us * y.sh := cross_le (by omega : 0 < y.sh) (by omega : 0 < z.sh) (by omega : 0 < x.sh) l2 (by omega)
    have n1 := h1.resolve_left (by omega)
    have n2 := h2.resolve_left (by omega)
    exact .inr ⟨e, nt_trans n1.2 n2.2⟩
  · exact .inl (by omega)
/-- Of two that bear two names, one is ahead. -/
theorem ah_tot {x y : Ac} (h : (x.nm.toList == y.nm.toList) = false) : ahB x y = true ∨ ahB y x = true := by
  simp only [ahB, Bool.or_eq_true, decide_eq_true_eq, Bool.and_eq_true, beq_iff_eq]
  by_cases e : x.us * y.sh = y.us * x.sh
  · cases h1 : ntL x.nm y.nm
    · cases h2 : ntL y.nm x.nm
      · rw [beq_eq_false_iff_ne] at h
        exact absurd (bl_tot h1 h2) h
      · exact .inr (.inr ⟨e.symm, rfl⟩)
    · exact .inl (.inr ⟨e, rfl⟩)
  · rcases Int.lt_or_gt_of_ne e with g | g
    · exact .inl (.inl g)
    · exact .inr (.inl g)
theorem countP_less {α : Type} {p q : α → Bool} : ∀ (l : List α), (∀ x ∈ l, p x = true → q x = true) → ∀ a ∈ l, p a = false → q a = true → l.countP p < l.countP q
  | [], _, a, ha, _, _ => by simp at ha
  | x :: r, h, a, ha, h1, h2 => by
    rw [List.countP_cons, List.countP_cons]
    have hm : r.countP p ≤ r.countP q := List.countP_mono_left (fun y hy => h y (List.mem_cons_of_mem _ hy))
    rcases List.mem_cons.1 ha with rfl | ha
    · rw [h1, h2]; simp; omega
    · have := countP_less r (fun y hy => h y (List.mem_cons_of_mem _ hy)) a ha h1 h2
      cases hp : p x
      · simp; split <;> omega
      · rw [h x List.mem_cons_self hp]; simp; omega
theorem rk_less {l : List Ac} (h : AOk l) {x y : Ac} (hx : x ∈ l) (hy : y ∈ l) (g : ahB x y = true) : rkOf l x < rkOf l y :=
  countP_less l (fun _ hz t => ah_trans (acc_parts (h.acc hz)).2.1 (acc_parts (h.acc hx)).2.1 (acc_parts (h.acc hy)).2.1 t g) x hx (ah_irr x) g
/-- Two places, two ranks. -/
theorem rk_ne {l : List Ac} (h : AOk l) {i j : Nat} (hi : i < l.length) (hj : j < l.length) (e : i ≠ j) : rkOf l l[i] ≠ rkOf l l[j] := by
  rcases ah_tot (names_ne h hi hj e) with g | g
  · have := rk_less h (List.getElem_mem hi) (List.getElem_mem hj) g; omega
  · have := rk_less h (List.getElem_mem hj) (List.getElem_mem hi) g; omega
theorem rk_lt {l : List Ac} {i : Nat} (hi : i < l.length) : rkOf l l[i] < l.length := by
  have h1 : l.countP (fun a => ahB a l[i]) < l.countP (fun _ => true) := countP_less l (fun _ _ _ => rfl) l[i] (List.getElem_mem hi) (ah_irr _) rfl
  have h2 : l.countP (fun _ : Ac => true) ≤ l.length := List.countP_le_length
  show l.countP _ < _
  omega
theorem rkL_at {l : List Ac} (h : AOk l) {i : Nat} (hi : i < l.length) : (rkL l)[i]? = some (rkOf l l[i] : Int) := by
  rw [rkL_yes h, List.getElem?_map, List.getElem?_eq_getElem hi]; rfl
theorem rkL_len {l : List Ac} (h : AOk l) : (rkL l).length = l.length := by rw [rkL_yes h, List.length_map]
/-- A rank isn't told twice. -/
theorem rk_new {l : List Ac} (h : AOk l) {i : Nat} (hi : i < l.length) : ∀ (m : Nat) (x : Int), m < i → (rkL l)[m]? = some x → x ≠ (rkOf l l[i] : Int) := by
  intro m x hm hx
  have hm' : m < l.length := by omega
  rw [rkL_at h hm'] at hx
  cases hx
  have := rk_ne h hm' hi (by omega)
  omega
/-- The priority that a rank leaves. -/
theorem rp_at {l : List Ac} (h : AOk l) {i : Nat} (hi : i < l.length) : rpI l l[i].nm 999 = 999 - (rkOf l l[i] : Int) := by
  have ha : aAt l l[i].nm = (i : Int) := aAt_at h hi (by simp)
  have h12 := h.1
  have hr := rk_lt hi
  have hg : (rkL l).getD (aAt l l[i].nm).toNat 0 = (rkOf l l[i] : Int) := by
    rw [ha, Int.toNat_natCast, List.getD_eq_getElem?_getD, rkL_at h hi]; rfl
  rw [rpI_yes ⟨by rw [ha]; omega, by decide, by decide⟩, hg, if_neg (by omega)]

/-- Who is charged stands in a right list, and what is left is right. -/
theorem ch_ok {l : List Ac} {s : ByteArray} {n : Int} (h : chP l s n) : AOk l ∧ AOk (chR l s n) := by
  obtain ⟨h0, hn⟩ := h
  rcases aAt_in l s with ha | ⟨i, hi, ha, hok⟩
  · omega
  refine ⟨hok, ?_⟩
  have hn' : 0 ≤ n ∧ n ≤ 1000000000 := by simpa [useB] using hn
  unfold chR chL
  rw [ha, Int.toNat_natCast]
  have hnm : ∀ m, (ag (l.set i (chA (ag l i) n)) m).nm = (ag l m).nm := by
    intro m
    unfold ag
    rw [List.getD_eq_getElem?_getD, List.getD_eq_getElem?_getD, List.getElem?_set]
    by_cases e : i = m
    · subst e
      simp [hi, chA]
    · simp [e]
  refine ⟨by rw [List.length_set]; exact hok.1, fun m hm => ?_⟩
  rw [List.length_set] at hm
  have hq := hok.2 m hm
  refine ⟨?_, fun t => by rw [hnm, hnm]; exact hq.2 t⟩
  by_cases e : i = m
  · subst e
    have hp := acc_parts hq.1
    have hg : ag (l.set i (chA (ag l i) n)) i = chA (ag l i) n := by
      rw [ag_eq (by rw [List.length_set]; exact hi)]; simp
    rw [hg]
    unfold accB chA useB
    have h1 : 0 ≤ min ((ag l i).us + n) 1000000000 := by omega
    have h2 : min ((ag l i).us + n) 1000000000 ≤ 1000000000 := by omega
    rw [decide_eq_true hp.2.1, decide_eq_true hp.2.2.1, decide_eq_true h1, decide_eq_true h2, hp.1]
    rfl
  · have hg : ag (l.set i (chA (ag l i) n)) m = ag l m := by
      rw [ag_eq (by rw [List.length_set]; exact hm), ag_eq hm, List.getElem_set_ne e]
    rw [hg]; exact hq.1
/-- An account of what a charge leaves: its name stands, others are as they were, nobody's use falls; fading halves. -/
theorem ch_at {l : List Ac} {s : ByteArray} {n : Int} (h : chP l s n) {i : Nat} (hi : i < l.length) :
    ∃ u f : Int, (chR l s n)[i]? = some ⟨l[i].nm, l[i].sh, u⟩ ∧ (fdL (chR l s n))[i]? = some ⟨l[i].nm, l[i].sh, f⟩ ∧ f = u.tdiv 2 ∧ l[i].us ≤ u ∧ 0 ≤ u ∧ u ≤ 1000000000 ∧ ((l[i].nm.toList == s.toList) = false → u = l[i].us) := by
  obtain ⟨hok, hok2⟩ := ch_ok h
  obtain ⟨h0, hn⟩ := h
  have hn' : 0 ≤ n ∧ n ≤ 1000000000 := by simpa [useB] using hn
  have hfd : fdL (chR l s n) = (chR l s n).map fdA := by unfold fdL; rw [if_pos hok2]
  have hp := acc_parts (hok.acc (List.getElem_mem hi))
  rcases aAt_in l s with ha | ⟨k, hk, ha, _⟩
  · omega
  have hc : chR l s n = l.set k (chA (ag l k) n) := by unfold chR chL; rw [ha, Int.toNat_natCast]
  by_cases e : k = i
  · subst e
    have h1 : (chR l s n)[k]? = some { l[k] with us := min (l[k].us + n) 1000000000 } := by
      rw [hc, List.getElem?_set_self hk, ag_eq hk]; rfl
    refine ⟨min (l[k].us + n) 1000000000, (min (l[k].us + n) 1000000000).tdiv 2, h1, ?_, rfl, by omega, by omega, by omega, fun t => ?_⟩
    · rw [hfd, List.getElem?_map, h1]; rfl
    · rw [aAt_ne hk ha] at t; cases t
  · have h1 : (chR l s n)[i]? = some l[i] := by
      rw [hc, List.getElem?_set_ne e, List.getElem?_eq_getElem hi]
    refine ⟨l[i].us, l[i].us.tdiv 2, h1, ?_, rfl, by omega, by omega, by omega, fun _ => rfl⟩
    rw [hfd, List.getElem?_map, h1]; rfl
theorem fd_len {l : List Ac} {s : ByteArray} {n : Int} (h : chP l s n) : (fdL (chR l s n)).length = l.length := by
  have hok2 := (ch_ok h).2
  unfold fdL
  rw [if_pos hok2, List.length_map, lenCharge]
/-- Ranks told, with room for all of them. -/
def RetRC (w : World) (r : List Int) (e : Ending) (w' : World) : Prop :=
  ∃ a cap, e = .returned (.slice a r.length cap) ∧ r.length ≤ cap ∧ Ans w.heap.size w'.heap.size w' (ints r) (.slice a r.length cap) ∧ Below w.heap.size w w'
theorem RetRC.ret {w w' : World} {r : List Int} {e : Ending} (h : RetRC w r e w') : RetR w r e w' := by
  obtain ⟨a, cap, he, _, ha, hb⟩ := h
  exact ⟨_, he, ha, hb⟩
end Go.Proofs.Ytpjfampfhofeaaa
