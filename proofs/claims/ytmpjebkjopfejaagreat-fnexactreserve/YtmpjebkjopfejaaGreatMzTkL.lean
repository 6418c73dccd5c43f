/- What is taken from a profile and given to it: lists. -/
import Derived.Test.YtmpjebkjopfejaaGreatMgRh
namespace Go.Proofs.YtmpjebkjopfejaaGreat
open Go.RowKit

/-- A time put into a list. -/
def insT (t : Int) : List Int → List Int
  | [] => [t]
  | x :: r => if t ≤ x then t :: (x :: r).filter (fun y => decide (y ≠ t)) else x :: insT t r

/-- Numbers that rise. -/
def Up (xs : List Int) : Prop := List.Pairwise (· < ·) xs

theorem ins_le (t x : Int) (r : List Int) (h : x < t) : insT t (x :: r) = x :: insT t r := by rw [insT, if_neg (by omega)]
theorem ins_eq (x : Int) (r : List Int) (h : Up (x :: r)) : insT x (x :: r) = x :: r := by
  rw [insT, if_pos (by omega)]
  have h1 := (List.pairwise_cons.1 h).1
  simp only [ne_eq, not_true_eq_false, decide_false, Bool.false_eq_true, not_false_eq_true, List.filter_cons_of_neg]
  congr 1
  rw [List.filter_eq_self]
  intro y hy
  have := h1 y hy
  simp
  omega
theorem ins_gt (t x : Int) (r : List Int) (h : t < x) (hu : Up (x :: r)) : insT t (x :: r) = t :: x :: r := by
  rw [insT, if_pos (by omega)]
  congr 1
  rw [List.filter_eq_self]
  intro y hy
  rcases List.mem_cons.1 hy with rfl | hy
  · simp; omega
  · have := (List.pairwise_cons.1 hu).1 y hy
    simp
    omega

theorem ins_mem (t : Int) : ∀ (xs : List Int) (y : Int), y ∈ insT t xs → y = t ∨ y ∈ xs
  | [], y, h => .inl (by simpa [insT] using h)
  | x :: r, y, h => by
    rw [insT] at h
    split at h
    · rcases List.mem_cons.1 h with h | h
      · exact .inl h
      · exact .inr (List.mem_filter.1 h).1
    · rcases List.mem_cons.1 h with h | h
      · exact .inr (by simp [h])
      · rcases ins_mem t r y h with h | h
        · exact .inl h
        · exact .inr (List.mem_cons_of_mem _ h)

theorem ins_up (t : Int) : ∀ (xs : List Int), Up xs → Up (insT t xs)
  | [], _ => by simp [insT, Up]
  | x :: r, h => by
    by_cases h1 : x < t
    · rw [ins_le t x r h1]
      refine List.Pairwise.cons (fun y hy => ?_) (ins_up t r (List.pairwise_cons.1 h).2)
      rcases ins_mem t r y hy with rfl | hy
      · exact h1
      · exact (List.pairwise_cons.1 h).1 y hy
    · by_cases h2 : x = t
      · subst h2; rw [ins_eq x r h]; exact h
      · rw [ins_gt t x r (by omega) h]
        refine List.Pairwise.cons (fun y hy => ?_) h
        rcases List.mem_cons.1 hy with rfl | hy
        · omega
        · have := (List.pairwise_cons.1 h).1 y hy; omega

theorem ins_len (t : Int) : ∀ (xs : List Int), (insT t xs).length ≤ xs.length + 1
  | [] => by simp [insT]
  | x :: r => by
    rw [insT]
    split
    · have := List.length_filter_le (fun y => decide (y ≠ t)) (x :: r)
      simp at this ⊢
      omega
    · have := ins_len t r
      simp
      omega

/-- Two rising lists as one; the second has two at most. -/
def mg (a b : List Int) : List Int := b.foldl (fun acc t => insT t acc) a

theorem ins_front (x t : Int) (r : List Int) (h : x < t) : insT t (x :: r) = x :: insT t r := ins_le t x r h
theorem mg_less {x y : Int} {a b : List Int} (h : x < y) (hb : Up (y :: b)) : mg (x :: a) (y :: b) = x :: mg a (y :: b) := by
  have key : ∀ (c acc : List Int), (∀ z ∈ c, x < z) → c.foldl (fun acc t => insT t acc) (x :: acc) = x :: c.foldl (fun acc t => insT t acc) acc := by
    intro c
    induction c with
    | nil => intro acc _; rfl
    | cons z c ih =>
      intro acc hz
      simp only [List.foldl_cons]
      rw [ins_le z x acc (hz z (by simp)), ih _ (fun u hu => hz u (by simp [hu]))]
  unfold mg
  exact key (y :: b) a (fun z hz => by
    rcases List.mem_cons.1 hz with rfl | hz
    · exact h
    · have := (List.pairwise_cons.1 hb).1 z hz; omega)
theorem mg_same {x : Int} {a b : List Int} (ha : Up (x :: a)) (hb : Up (x :: b)) : mg (x :: a) (x :: b) = x :: mg a b := by
  unfold mg
  rw [List.foldl_cons, ins_eq x a ha]
  cases b with
  | nil => rfl
  | cons y b => exact mg_less ((List.pairwise_cons.1 hb).1 y (by simp)) (List.pairwise_cons.1 hb).2
theorem mg_more {x y : Int} {a b : List Int} (h : y < x) (ha : Up (x :: a)) (hb : Up (y :: b)) : mg (x :: a) (y :: b) = y :: mg (x :: a) b := by
  unfold mg
  rw [List.foldl_cons, ins_gt y x a h ha]
  cases b with
  | nil => rfl
  | cons z b => exact mg_less ((List.pairwise_cons.1 hb).1 z (by simp)) (List.pairwise_cons.1 hb).2
theorem mg_nil (a : List Int) : mg a [] = a := rfl
theorem mg_none {b : List Int} (hb : Up b) (h2 : b.length ≤ 2) : mg [] b = b := by
  match b, h2 with
  | [], _ => rfl
  | [x], _ => rfl
  | [x, y], _ =>
    have : x < y := (List.pairwise_cons.1 hb).1 y (by simp)
    show insT y [x] = [x, y]
    rw [ins_le y x [] this]
    rfl

/-- A point put behind the others, unless it changes nothing. -/
def putN (out : List Nd) (n : Nd) : List Nd := match out.getLast? with
  | some m => if sameV m n then out else out ++ [n]
  | none => out ++ [n]

/-- What comes of the times: what is free at each, changed from f to u. -/
def chTo (g : Nd → Option Nd) (ns : List Nd) (f u : Int) : List Int → List Nd → Option (List Nd)
  | [], out => some out
  | t :: r, out => if f ≤ t ∧ t < u then
      match g (atL ns t) with
      | none => none
      | some m => chTo g ns f u r (putN out ⟨t, m.a, m.b, m.c⟩)
    else chTo g ns f u r (putN out ⟨t, (atL ns t).a, (atL ns t).b, (atL ns t).c⟩)

/-- Points that are right as far as they go, all ahead of t. -/
structure Gd (out : List Nd) (t : Int) : Prop where
  each : ∀ n ∈ out, timeB n.l = true ∧ vokN n = true ∧ n.l < t
  head : ∀ n, out[0]? = some n → n.l = 0
  step : ∀ (i : Nat) m n, out[i]? = some m → out[i + 1]? = some n → m.l < n.l ∧ sameV m n = false

theorem put_gd {out : List Nd} {n : Nd} {t : Int} (h : Gd out n.l) (hn : timeB n.l = true) (hv : vokN n = true) (ht : n.l < t) (h0 : out = [] → n.l = 0) : Gd (putN out n) t ∧ putN out n ≠ [] := by
  have hold : ∀ m ∈ out, timeB m.l = true ∧ vokN m = true ∧ m.l < t := fun m hm => ⟨(h.each m hm).1, (h.each m hm).2.1, by have := (h.each m hm).2.2; omega⟩
  have hnew : (∀ m, out.getLast? = some m → sameV m n = false) → Gd (out ++ [n]) t ∧ out ++ [n] ≠ [] := fun hs => by
    refine ⟨⟨fun m hm => ?_, fun m hm => ?_, fun i m k hm hk => ?_⟩, by simp⟩
    · rcases List.mem_append.1 hm with hm | hm
      · exact hold m hm
      · obtain rfl := List.mem_singleton.1 hm
        exact ⟨hn, hv, ht⟩
    · cases out with
      | nil => simp at hm; subst hm; exact h0 rfl
      | cons x r => simp at hm; subst hm; exact h.head _ rfl
    · by_cases hi : i + 1 < out.length
      · rw [List.getElem?_append_left (by omega)] at hm hk
        exact h.step i m k hm hk
      · have hil : i + 1 = out.length := by
          have := (List.getElem?_eq_some_iff.1 hk).1
          simp at this
          omega
        rw [List.getElem?_append_left (by omega)] at hm
        rw [List.getElem?_append_right (by omega), hil] at hk
        simp at hk
        subst hk
        have hl : out.getLast? = some m := by rw [List.getLast?_eq_getElem?, ← hil]; exact hm
        exact ⟨(h.each m (List.mem_of_getElem? hm)).2.2, hs m hl⟩
  unfold putN
  cases hl : out.getLast? with
  | none => exact hnew (fun m hm => by rw [hl] at hm; cases hm)
  | some m =>
    show Gd (if sameV m n = true then out else out ++ [n]) t ∧ (if sameV m n = true then out else out ++ [n]) ≠ []
    by_cases hs : sameV m n = true
    · rw [if_pos hs]
      refine ⟨⟨hold, h.head, h.step⟩, ?_⟩
      intro e
      rw [e] at hl
      simp at hl
    · rw [if_neg hs]
      exact hnew (fun m' hm => by rw [hl] at hm; cases hm; simpa using hs)

theorem ch_gd {g : Nd → Option Nd} (hg : ∀ m m', vokN m = true → g m = some m' → vokN m' = true) {ns : List Nd} (hok : POk ns) (f u : Int) : ∀ (ts : List Int) (out r : List Nd), Up ts → (∀ t ∈ ts, timeB t = true) → (∀ t ∈ ts, Gd out t) → Gd out 1000000001 →
    (out = [] → ∀ t, ts.head? = some t → t = 0) → chTo g ns f u ts out = some r → (ts ≠ [] ∨ out ≠ []) → Gd r 1000000001 ∧ r ≠ []
  | [], out, r, _, _, _, hT, _, h, hne => by
    simp [chTo] at h
    subst h
    exact ⟨hT, hne.resolve_left (by simp)⟩
  | t :: ts, out, r, hu, ht, hgd, hT, h0, h, _ => by
    have htt := time_iff.1 (ht t (by simp))
    have hok1 : vokN (atL ns t) = true := hok.at_ok htt.1
    have step : ∀ m : Nd, vokN m = true → chTo g ns f u ts (putN out ⟨t, m.a, m.b, m.c⟩) = some r → Gd r 1000000001 ∧ r ≠ [] := fun m hm hr => by
      have hp : ∀ T, t < T → Gd (putN out ⟨t, m.a, m.b, m.c⟩) T ∧ putN out ⟨t, m.a, m.b, m.c⟩ ≠ [] := fun T hlt =>
        put_gd (n := ⟨t, m.a, m.b, m.c⟩) (hgd t (by simp)) (ht t (by simp)) hm hlt (fun e => h0 e t rfl)
      have hne := (hp 1000000001 (by omega)).2
      exact ch_gd hg hok f u ts _ r (List.pairwise_cons.1 hu).2 (fun y hy => ht y (by simp [hy])) (fun y hy => (hp y ((List.pairwise_cons.1 hu).1 y hy)).1) (hp 1000000001 (by omega)).1 (fun e => absurd e hne) hr (.inr hne)
    rw [chTo] at h
    by_cases hc : f ≤ t ∧ t < u
    · rw [if_pos hc] at h
      cases hgm : g (atL ns t) with
      | none => rw [hgm] at h; cases h
      | some m => rw [hgm] at h; exact step m (hg _ _ hok1 hgm) h
    · rw [if_neg hc] at h
      exact step (atL ns t) hok1 h

/-- The times of a change. -/
def tmsL (ns : List Nd) (f u : Int) : List Int := insT u (insT f (ns.map (·.l)))

theorem ats_up {ns : List Nd} (h : Rising ns) : Up (ns.map (·.l)) := by
  have hp : List.Pairwise (fun m n : Nd => m.l < n.l) ns := by
    rw [List.pairwise_iff_getElem]
    intro i j hi hj hij
    exact h.mono (List.getElem?_eq_getElem hi) (List.getElem?_eq_getElem hj) hij
  unfold Up
  rw [List.pairwise_map]
  exact hp

theorem tms_up {ns : List Nd} (h : Rising ns) (f u : Int) : Up (tmsL ns f u) := ins_up u _ (ins_up f _ (ats_up h))
theorem tms_time {ns : List Nd} (h : POk ns) {f u : Int} (hs : spanB f u = true) : ∀ t ∈ tmsL ns f u, timeB t = true := fun t ht => by
  have hsp := span_iff.1 hs
  rcases ins_mem u _ t ht with rfl | ht
  · exact time_iff.2 hsp.2.1
  · rcases ins_mem f _ t ht with rfl | ht
    · exact time_iff.2 hsp.1
    · obtain ⟨n, hn, rfl⟩ := List.mem_map.1 ht
      obtain ⟨i, hi⟩ := List.getElem?_of_mem hn
      exact (h.each i n hi).1
theorem tms_len (ns : List Nd) (f u : Int) : (tmsL ns f u).length ≤ ns.length + 2 := by
  have h1 := ins_len u (insT f (ns.map (·.l)))
  have h2 := ins_len f (ns.map (·.l))
  rw [List.length_map] at h2
  unfold tmsL
  omega
theorem tms_head {ns : List Nd} (h : POk ns) {f u : Int} (hs : spanB f u = true) : ∀ t, (tmsL ns f u).head? = some t → t = 0 := fun t ht => by
  have hsp := span_iff.1 hs
  obtain ⟨n0, hn0, hl0⟩ := h.head
  cases ns with
  | nil => simp at hn0
  | cons x r =>
    simp at hn0
    subst hn0
    unfold tmsL at ht
    rw [List.map_cons, hl0] at ht
    by_cases hf : f = 0
    · subst hf
      have hu : Up ((0 : Int) :: r.map (·.l)) := by have := ats_up h.rising; rw [List.map_cons, hl0] at this; exact this
      rw [ins_eq 0 _ hu, ins_le u 0 _ (by omega)] at ht
      simpa using ht.symm
    · rw [ins_le f 0 _ (by omega), ins_le u 0 _ (by omega)] at ht
      simpa using ht.symm

theorem tms_ne (ns : List Nd) (f u : Int) : tmsL ns f u ≠ [] := by
  unfold tmsL
  generalize insT f _ = xs
  cases xs with
  | nil => simp [insT]
  | cons x r => rw [insT]; split <;> simp

/-- What comes of a change is right just where it has few points. -/
theorem ch_ok {g : Nd → Option Nd} (hg : ∀ m m', vokN m = true → g m = some m' → vokN m' = true) {ns : List Nd} (hok : POk ns) {f u : Int} (hs : spanB f u = true) {r : List Nd} (h : chTo g ns f u (tmsL ns f u) [] = some r) : POk r ↔ r.length ≤ 200 := by
  have hnil : ∀ T, Gd [] T := fun T => ⟨fun n h => by simp at h, fun n h => by simp at h, fun i m n h => by simp at h⟩
  obtain ⟨hgd, hne⟩ := ch_gd hg hok f u (tmsL ns f u) [] r (tms_up hok.rising f u) (tms_time hok hs) (fun t _ => hnil t) (hnil _) (fun _ => tms_head hok hs) h (.inl (tms_ne ns f u))
  refine ⟨fun p => p.few, fun hl => ⟨?_, hl, hgd.head, fun i n hn => ?_, hgd.step⟩⟩
  · cases r with
    | nil => exact absurd rfl hne
    | cons x y => simp
  · have := hgd.each n (List.mem_of_getElem? hn)
    exact ⟨this.1, this.2.1⟩

theorem put_len (out : List Nd) (n : Nd) : (putN out n).length ≤ out.length + 1 := by
  unfold putN
  split
  · split <;> simp
  · simp
end Go.Proofs.YtmpjebkjopfejaaGreat
