/- What Reserve and Release answer, as five values: held against another, marked, found marked. -/
import Derived.Test.YtmpjebkjopfejaaGreatMzTkE
import Derived.Test.YtmpjebkjopfejaaGreatMgRd
import Derived.Test.YtmpjebkjopfejaaGreatMgRe
import Derived.Test.YtmpjebkjopfejaaGreatMzJbA
import Derived.Test.YtmpjebkjopfejaaGreatMzLfA
import Derived.Test.YtmpjebkjopfejaaGreatMzTkL
namespace Go.Proofs.YtmpjebkjopfejaaGreat
open Go.RowKit

/-- Of each of the three no more. -/
def le3 (x m : Nd) : Prop := x.a ≤ m.a ∧ x.b ≤ m.b ∧ x.c ≤ m.c
theorem le3_self (x : Nd) : le3 x x := ⟨Int.le_refl _, Int.le_refl _, Int.le_refl _⟩
theorem le3_min (x m n : Nd) : le3 x (vmin m n) ↔ le3 x m ∧ le3 x n := by
  simp only [le3, vmin, Int.le_min]
  constructor
  · rintro ⟨⟨h1, h2⟩, ⟨h3, h4⟩, h5, h6⟩
    exact ⟨⟨h1, h3, h5⟩, h2, h4, h6⟩
  · rintro ⟨⟨h1, h3, h5⟩, h2, h4, h6⟩
    exact ⟨⟨h1, h2⟩, ⟨h3, h4⟩, h5, h6⟩

theorem le_minTo {ns : List Nd} {f t : Int} {x : Nd} : ∀ j, le3 x (minTo ns f t j) ↔ le3 x (atL ns f) ∧ ∀ n ∈ ns.take j, f ≤ n.l → n.l < t → le3 x n
  | 0 => by simp [minTo]
  | j + 1 => by
    have ih := le_minTo (ns := ns) (f := f) (t := t) (x := x) j
    by_cases hj : j < ns.length
    · have e := List.getElem?_eq_getElem hj
      rw [min_next e, List.take_add_one, e]
      generalize ns[j] = nj at *
      simp only [Option.toList_some, List.mem_append, List.mem_singleton]
      by_cases hc : f ≤ nj.l ∧ nj.l < t
      · rw [if_pos hc, le3_min, ih]
        constructor
        · rintro ⟨⟨h1, h2⟩, h3⟩
          refine ⟨h1, fun n hn => ?_⟩
          rcases hn with hn | rfl
          · exact h2 n hn
          · exact fun _ _ => h3
        · rintro ⟨h1, h2⟩
          exact ⟨⟨h1, fun n hn => h2 n (.inl hn)⟩, h2 _ (.inr rfl) hc.1 hc.2⟩
      · rw [if_neg hc, ih]
        constructor
        · rintro ⟨h1, h2⟩
          refine ⟨h1, fun n hn => ?_⟩
          rcases hn with hn | rfl
          · exact h2 n hn
          · exact fun a b => absurd ⟨a, b⟩ hc
        · rintro ⟨h1, h2⟩
          exact ⟨h1, fun n hn => h2 n (.inl hn)⟩
    · have e1 : ns.take (j + 1) = ns := List.take_of_length_le (by omega)
      have e2 : ns.take j = ns := List.take_of_length_le (by omega)
      unfold minTo at *
      rw [e2] at ih
      rw [e1]
      exact ih

theorem StepAt.le {ns : List Nd} {t : Int} {s : Nat} {n : Nd} (h : StepAt ns t s) (hn : ns[s]? = some n) : n.l ≤ t := by
  obtain ⟨n', hn', hle, _⟩ := h
  rw [hn] at hn'
  cases hn'
  exact hle

theorem min_at {ns : List Nd} (h : POk ns) {f t s : Int} (hf : 0 ≤ f) (h1 : f ≤ s) (h2 : s < t) : le3 (minTo ns f t ns.length) (atL ns s) := by
  obtain ⟨ha, hb⟩ := (le_minTo ns.length).1 (le3_self (minTo ns f t ns.length))
  obtain ⟨i, n, hs, hn, hat⟩ := h.at_mem (t := s) (by omega)
  have hle := hs.le hn
  rw [hat]
  by_cases hl : f ≤ n.l
  · exact hb n (by rw [List.take_length]; exact List.mem_of_getElem? hn) hl (by omega)
  · have hf' : StepAt ns f i := by
      obtain ⟨n', hn', _, hlt⟩ := hs
      exact ⟨n, hn, by omega, fun k m hk hm => by have := hlt k m hk hm; omega⟩
    rw [hf'.at hn] at ha
    exact ha
theorem min_less {ns : List Nd} {f t t' : Int} (ht : t' ≤ t) : le3 (minTo ns f t ns.length) (minTo ns f t' ns.length) := by
  obtain ⟨ha, hb⟩ := (le_minTo ns.length).1 (le3_self (minTo ns f t ns.length))
  exact (le_minTo _).2 ⟨ha, fun n hn h1 h2 => hb n hn h1 (by omega)⟩

theorem fit_le {x m : Nd} (h1 : vokN x = true) (h2 : vokN m = true) (h : le3 x m) : fitB x.a x.b x.c m.a m.b m.c = true := by
  obtain ⟨ha, hb, hc⟩ := h
  unfold vokN at h1 h2
  simp [fitB, h1, h2, nabB, ha, hb, hc]

/-- The three amounts of a point. -/
def val (n : Nd) : Int × Int × Int := (n.a, n.b, n.c)
theorem same_val (m n : Nd) : sameV m n = true ↔ val m = val n := by
  obtain ⟨l, a, b, c⟩ := m
  obtain ⟨l', a', b', c'⟩ := n
  simp [sameV, val]
theorem same_not (m n : Nd) : sameV m n = false ↔ val m ≠ val n := by
  rw [← Bool.not_eq_true, same_val]

/-- Points that rise and of which two next to each other differ. -/
structure Cn (ns : List Nd) : Prop where
  rise : Rising ns
  diff : ∀ (i : Nat) m n, ns[i]? = some m → ns[i + 1]? = some n → val m ≠ val n
theorem POk.cn {ns : List Nd} (h : POk ns) : Cn ns := ⟨h.rising, fun i m n hm hn => (same_not m n).1 (h.step i m n hm hn).2⟩
theorem Gd.cn {ns : List Nd} {t : Int} (h : Gd ns t) : Cn ns := ⟨fun i m n hm hn => (h.step i m n hm hn).1, fun i m n hm hn => (same_not m n).1 (h.step i m n hm hn).2⟩
theorem Cn.tail {x : Nd} {r : List Nd} (h : Cn (x :: r)) : Cn r := ⟨fun i m n hm hn => h.rise (i + 1) m n hm hn, fun i m n hm hn => h.diff (i + 1) m n hm hn⟩

theorem at_cons (x : Nd) (r : List Nd) (t : Int) : atL (x :: r) t = r.foldl (fun o n => if n.l ≤ t then n else o) (if x.l ≤ t then x else nd0) := rfl

/-- Ahead of all points nothing turns. -/
theorem fold_late {r : List Nd} {t : Int} (h : ∀ n ∈ r, t < n.l) (o : Nd) : r.foldl (fun o n => if n.l ≤ t then n else o) o = o := by
  induction r generalizing o with
  | nil => rfl
  | cons x r ih =>
    rw [List.foldl_cons, if_neg (by have := h x (by simp); omega)]
    exact ih (fun n hn => h n (by simp [hn])) o
theorem Cn.after {x : Nd} {r : List Nd} (h : Cn (x :: r)) : ∀ n ∈ r, x.l < n.l := fun n hn => by
  obtain ⟨i, hi⟩ := List.getElem?_of_mem hn
  exact h.rise.mono (i := 0) (j := i + 1) rfl hi (by omega)
theorem at_here {x : Nd} {r : List Nd} (h : Cn (x :: r)) {t : Int} (h1 : x.l ≤ t) (h2 : ∀ n, r.head? = some n → t < n.l) : atL (x :: r) t = x := by
  rw [at_cons, if_pos h1]
  refine fold_late (fun n hn => ?_) x
  cases r with
  | nil => simp at hn
  | cons y r =>
    have hy := h2 y rfl
    rcases List.mem_cons.1 hn with rfl | hn
    · exact hy
    · have := h.tail.after n hn; omega
theorem at_skip {x y : Nd} {r : List Nd} (_h : Cn (x :: y :: r)) {t : Int} (h1 : y.l ≤ t) : atL (x :: y :: r) t = atL (y :: r) t := by
  rw [at_cons, List.foldl_cons, if_pos h1, at_cons, if_pos h1]

/-- Two of them that show the same from the first time on are the same. -/
theorem cn_same : ∀ (ms ns : List Nd), Cn ms → Cn ns → ∀ m n, ms.head? = some m → ns.head? = some n → m.l = n.l → (∀ t, m.l ≤ t → t ≤ 1000000000 → val (atL ms t) = val (atL ns t)) → (∀ x ∈ ms, x.l ≤ 1000000000) → (∀ x ∈ ns, x.l ≤ 1000000000) → ms = ns
  | [], _, _, _, _, _, h, _, _, _, _, _ => by cases h
  | _ :: _, [], _, _, _, _, _, h, _, _, _, _ => by cases h
  | x :: r, y :: s, hm, hn, m, n, e1, e2, hl, hv, hbm, hbn => by
    cases e1
    cases e2
    have hxb := hbm x (by simp)
    have hxy : x = y := by
      have h0 := hv x.l (Int.le_refl _) hxb
      rw [at_here hm (Int.le_refl _) (fun n h => hm.after n (List.mem_of_mem_head? h)), at_here hn (by omega) (fun n h => by have := hn.after n (List.mem_of_mem_head? h); omega)] at h0
      obtain ⟨l, a, b, c⟩ := x
      obtain ⟨l', a', b', c'⟩ := y
      simp [val] at h0 hl
      simp [h0, hl]
    subst hxy
    congr 1
    cases r with
    | nil =>
      cases s with
      | nil => rfl
      | cons z s =>
        exfalso
        have hz := hn.after z (by simp)
        have hzb := hbn z (by simp)
        have h0 := hv z.l (by omega) hzb
        rw [at_here hm (by omega) (fun n h => by cases h), at_skip hn (Int.le_refl _), at_here hn.tail (Int.le_refl _) (fun n h => hn.tail.after n (List.mem_of_mem_head? h))] at h0
        exact hn.diff 0 x z rfl rfl h0
    | cons u r =>
      have hu := hm.after u (by simp)
      have hub := hbm u (by simp)
      cases s with
      | nil =>
        exfalso
        have h0 := hv u.l (by omega) hub
        rw [at_here hn (by omega) (fun n h => by cases h), at_skip hm (Int.le_refl _), at_here hm.tail (Int.le_refl _) (fun n h => hm.tail.after n (List.mem_of_mem_head? h))] at h0
        exact hm.diff 0 x u rfl rfl h0.symm
      | cons z s =>
        have hz := hn.after z (by simp)
        have hzb := hbn z (by simp)
        have huz : u.l = z.l := by
          rcases Int.lt_trichotomy u.l z.l with h | h | h
          · exfalso
            have h0 := hv u.l (by omega) hub
            rw [at_here hn (by omega) (fun n hh => by cases hh; exact h), at_skip hm (Int.le_refl _), at_here hm.tail (Int.le_refl _) (fun n h => hm.tail.after n (List.mem_of_mem_head? h))] at h0
            exact hm.diff 0 x u rfl rfl h0.symm
          · exact h
          · exfalso
            have h0 := hv z.l (by omega) hzb
            rw [at_here hm (by omega) (fun n hh => by cases hh; exact h), at_skip hn (Int.le_refl _), at_here hn.tail (Int.le_refl _) (fun n h => hn.tail.after n (List.mem_of_mem_head? h))] at h0
            exact hn.diff 0 x z rfl rfl h0
        refine cn_same (u :: r) (z :: s) hm.tail hn.tail u z rfl rfl huz (fun t h1 h2 => ?_) (fun n hn => hbm n (by simp [hn])) (fun n hn => hbn n (by simp [hn]))
        have h0 := hv t (by omega) h2
        rw [at_skip hm h1, at_skip hn (by omega)] at h0
        exact h0
end Go.Proofs.YtmpjebkjopfejaaGreat

namespace Go.Proofs.YtmpjebkjopfejaaGreat
open Go.RowKit

theorem ins_self (t : Int) : ∀ xs : List Int, t ∈ insT t xs
  | [] => by simp [insT]
  | x :: r => by
    rw [insT]
    split
    · simp
    · exact List.mem_cons_of_mem _ (ins_self t r)
theorem ins_old (t y : Int) : ∀ xs : List Int, y ∈ xs → y ∈ insT t xs
  | [], h => by simp at h
  | x :: r, h => by
    rw [insT]
    split
    · by_cases e : y = t
      · subst e; simp
      · exact List.mem_cons_of_mem _ (List.mem_filter.2 ⟨h, by simpa using e⟩)
    · rcases List.mem_cons.1 h with rfl | h
      · simp
      · exact List.mem_cons_of_mem _ (ins_old t y r h)
theorem tms_f (ns : List Nd) (f u : Int) : f ∈ tmsL ns f u := ins_old _ _ _ (ins_self _ _)
theorem tms_u (ns : List Nd) (f u : Int) : u ∈ tmsL ns f u := ins_self _ _
theorem tms_n {ns : List Nd} (f u : Int) {n : Nd} (h : n ∈ ns) : n.l ∈ tmsL ns f u := ins_old _ _ _ (ins_old _ _ _ (List.mem_map.2 ⟨n, h, rfl⟩))

/-- The last of rising times that isn't later. -/
theorem fold_last {α : Type} (G : Int → α) {s : Int} : ∀ (ts : List Int) (o : α), Up ts → (∃ t ∈ ts, t ≤ s) → ∃ t ∈ ts, t ≤ s ∧ (∀ t' ∈ ts, t' ≤ s → t' ≤ t) ∧ ts.foldl (fun o t => if t ≤ s then G t else o) o = G t
  | [], _, _, ⟨_, h, _⟩ => by simp at h
  | x :: r, o, hu, hex => by
    have hx := (List.pairwise_cons.1 hu).1
    by_cases hr : ∃ t ∈ r, t ≤ s
    · obtain ⟨t, ht, hts, hmax, hf⟩ := fold_last G r (if x ≤ s then G x else o) (List.pairwise_cons.1 hu).2 hr
      refine ⟨t, List.mem_cons_of_mem _ ht, hts, fun t' h' hs' => ?_, hf⟩
      rcases List.mem_cons.1 h' with rfl | h'
      · have := hx t ht; omega
      · exact hmax t' h' hs'
    · have hall : ∀ t ∈ r, ¬ t ≤ s := fun t ht h => hr ⟨t, ht, h⟩
      have hxs : x ≤ s := by
        obtain ⟨t, ht, h⟩ := hex
        rcases List.mem_cons.1 ht with rfl | ht
        · exact h
        · exact absurd h (hall t ht)
      refine ⟨x, by simp, hxs, fun t' h' hs' => ?_, ?_⟩
      · rcases List.mem_cons.1 h' with rfl | h'
        · exact Int.le_refl _
        · exact absurd hs' (hall t' h')
      · rw [List.foldl_cons, if_pos hxs]
        clear hr hex hu hx
        induction r with
        | nil => rfl
        | cons y r ih =>
          rw [List.foldl_cons, if_neg (hall y (by simp))]
          exact ih (fun t ht => hall t (by simp [ht]))

theorem at_last {out : List Nd} {m : Nd} {s : Int} (hl : out.getLast? = some m) (h : ∀ n ∈ out, n.l ≤ s) : atL out s = m := by
  obtain ⟨r, rfl⟩ : ∃ r, out = r ++ [m] := by
    rw [List.getLast?_eq_some_iff] at hl
    exact hl
  unfold atL
  rw [List.foldl_append, List.foldl_cons, List.foldl_nil, if_pos (h m (by simp))]

theorem put_at {out : List Nd} {n : Nd} (h : ∀ m ∈ out, m.l < n.l) (s : Int) : val (atL (putN out n) s) = if n.l ≤ s then val n else val (atL out s) := by
  have happ : val (atL (out ++ [n]) s) = if n.l ≤ s then val n else val (atL out s) := by
    unfold atL
    rw [List.foldl_append, List.foldl_cons, List.foldl_nil]
    split <;> rfl
  unfold putN
  cases hl : out.getLast? with
  | none => exact happ
  | some m =>
    show val (atL (if sameV m n = true then out else out ++ [n]) s) = _
    by_cases hs : sameV m n = true
    · rw [if_pos hs]
      by_cases hn : n.l ≤ s
      · rw [if_pos hn, at_last hl (fun k hk => by have := h k hk; omega)]
        exact (same_val m n).1 hs
      · rw [if_neg hn]
    · rw [if_neg hs]
      exact happ

theorem put_mem {out : List Nd} {n m : Nd} (h : m ∈ putN out n) : m ∈ out ∨ m = n := by
  unfold putN at h
  split at h
  · split at h
    · exact .inl h
    · rcases List.mem_append.1 h with h | h
      · exact .inl h
      · exact .inr (List.mem_singleton.1 h)
  · rcases List.mem_append.1 h with h | h
    · exact .inl h
    · exact .inr (List.mem_singleton.1 h)

/-- What a change shows at one of its times. -/
def gv (g : Nd → Option Nd) (ns : List Nd) (f u t : Int) : Int × Int × Int := if f ≤ t ∧ t < u then ((g (atL ns t)).map val).getD (0, 0, 0) else val (atL ns t)

theorem ch_fold {g : Nd → Option Nd} {ns : List Nd} {f u : Int} (s : Int) : ∀ (ts : List Int) (out r : List Nd), Up ts → (∀ t ∈ ts, ∀ m ∈ out, m.l < t) → chTo g ns f u ts out = some r →
    val (atL r s) = ts.foldl (fun o t => if t ≤ s then gv g ns f u t else o) (val (atL out s))
  | [], out, r, _, _, h => by
    simp [chTo] at h
    subst h
    rfl
  | t :: ts, out, r, hu, hlt, h => by
    have hut := List.pairwise_cons.1 hu
    have step : ∀ m : Nd, gv g ns f u t = val m → chTo g ns f u ts (putN out ⟨t, m.a, m.b, m.c⟩) = some r → val (atL r s) = (t :: ts).foldl (fun o t => if t ≤ s then gv g ns f u t else o) (val (atL out s)) := fun m hm hr => by
      rw [ch_fold s ts _ r hut.2 (fun t' ht' k hk => by
        rcases put_mem hk with hk | rfl
        · have := hlt t (by simp) k hk
          have := hut.1 t' ht'
          omega
        · exact hut.1 t' ht') hr, List.foldl_cons, put_at (n := ⟨t, m.a, m.b, m.c⟩) (hlt t (by simp)) s, hm]
      rfl
    rw [chTo] at h
    by_cases hc : f ≤ t ∧ t < u
    · rw [if_pos hc] at h
      cases hgm : g (atL ns t) with
      | none => rw [hgm] at h; cases h
      | some m =>
        rw [hgm] at h
        exact step m (by rw [gv, if_pos hc, hgm]; rfl) h
    · rw [if_neg hc] at h
      exact step (atL ns t) (by rw [gv, if_neg hc]) h

theorem ch_all {g : Nd → Option Nd} {ns : List Nd} {f u : Int} : ∀ (ts : List Int) (out r : List Nd), chTo g ns f u ts out = some r → ∀ t ∈ ts, f ≤ t → t < u → ∃ m, g (atL ns t) = some m
  | [], _, _, _, t, ht, _, _ => by simp at ht
  | x :: ts, out, r, h, t, ht, h1, h2 => by
    rw [chTo] at h
    by_cases hc : f ≤ x ∧ x < u
    · rw [if_pos hc] at h
      cases hgm : g (atL ns x) with
      | none => rw [hgm] at h; cases h
      | some m =>
        rw [hgm] at h
        rcases List.mem_cons.1 ht with rfl | ht
        · exact ⟨m, hgm⟩
        · exact ch_all ts _ r h t ht h1 h2
    · rw [if_neg hc] at h
      rcases List.mem_cons.1 ht with rfl | ht
      · exact absurd ⟨h1, h2⟩ hc
      · exact ch_all ts _ r h t ht h1 h2
theorem ch_can {g : Nd → Option Nd} {ns : List Nd} {f u : Int} : ∀ (ts : List Int) (out : List Nd), (∀ t ∈ ts, f ≤ t → t < u → ∃ m, g (atL ns t) = some m) → ∃ r, chTo g ns f u ts out = some r
  | [], out, _ => ⟨out, rfl⟩
  | x :: ts, out, h => by
    rw [chTo]
    by_cases hc : f ≤ x ∧ x < u
    · rw [if_pos hc]
      obtain ⟨m, hm⟩ := h x (by simp) hc.1 hc.2
      rw [hm]
      exact ch_can ts _ (fun t ht => h t (by simp [ht]))
    · rw [if_neg hc]
      exact ch_can ts _ (fun t ht => h t (by simp [ht]))

/-- What a change shows at any time. -/
theorem ch_rep {g : Nd → Option Nd} {ns : List Nd} (hok : POk ns) {f u : Int} (_hs : spanB f u = true) {r : List Nd} (h : chTo g ns f u (tmsL ns f u) [] = some r) {s : Int} (h0 : 0 ≤ s) :
    val (atL r s) = gv g ns f u s ∧ (f ≤ s → s < u → ∃ m, g (atL ns s) = some m ∧ val (atL r s) = val m) := by
  have hup := tms_up hok.rising f u
  obtain ⟨n0, hn0, hl0⟩ := hok.head
  have hz : (0 : Int) ∈ tmsL ns f u := by have := tms_n f u (List.mem_of_getElem? hn0); rwa [hl0] at this
  obtain ⟨t, ht, hts, hmax, hf⟩ := fold_last (gv g ns f u) (s := s) (tmsL ns f u) (val (atL [] s)) hup ⟨0, hz, h0⟩
  have h1 := ch_fold s (tmsL ns f u) [] r hup (fun t _ m hm => by simp at hm) h
  rw [hf] at h1
  have hft : f ≤ s → f ≤ t := fun hh => hmax f (tms_f ns f u) hh
  have hut : u ≤ s → u ≤ t := fun hh => hmax u (tms_u ns f u) hh
  have hat : atL ns t = atL ns s := by
    obtain ⟨i, n, hst, hn, hat⟩ := hok.at_mem h0
    rw [hat]
    refine StepAt.at (s := i) ⟨n, hn, hmax n.l (tms_n f u (List.mem_of_getElem? hn)) (hst.le hn), fun k m hk hm => ?_⟩ hn
    obtain ⟨_, _, _, hlt⟩ := hst
    have := hlt k m hk hm
    omega
  have hg : gv g ns f u t = gv g ns f u s := by
    unfold gv
    rw [hat]
    by_cases hc : f ≤ s ∧ s < u
    · rw [if_pos hc, if_pos ⟨hft hc.1, by omega⟩]
    · rw [if_neg hc, if_neg (fun hc' => hc ⟨by omega, by
        rcases Int.lt_or_le s u with hh | hh
        · exact hh
        · have := hut hh; omega⟩)]
  refine ⟨h1.trans hg, fun hf1 hf2 => ?_⟩
  obtain ⟨m, hm⟩ := ch_all (tmsL ns f u) [] r h t ht (hft hf1) (by omega)
  rw [hat] at hm
  refine ⟨m, hm, ?_⟩
  rw [h1, hg, gv, if_pos ⟨hf1, hf2⟩, hm]
  rfl

/-- What is taken off is added again. -/
theorem ch_back {v m m' b : Nd} (h : chG false v m = some m') (hb : val b = val m') : ∃ c, chG true v b = some c ∧ val c = val m := by
  obtain ⟨l, a, b', c⟩ := b
  simp only [chG, Bool.false_eq_true, if_false] at h
  split at h
  · rename_i hc
    cases h
    simp only [val, Prod.mk.injEq] at hb
    obtain ⟨rfl, rfl, rfl⟩ := hb
    simp only [subB, Bool.and_eq_true] at hc
    refine ⟨⟨0, m.a - v.a + v.a, m.b - v.b + v.b, m.c - v.c + v.c⟩, ?_, by simp [val]⟩
    simp only [chG, if_true]
    rw [if_pos]
    simp only [addB, Bool.and_eq_true, Int.sub_add_cancel]
    exact ⟨⟨hc.2, hc.1.2⟩, hc.1.1⟩
  · cases h

theorem tk_some {add : Bool} {v : Nd} {ns r : List Nd} {f u : Int} (h : tkR add v ns f u = some r) : POk ns ∧ spanB f u = true ∧ chTo (chG add v) ns f u (tmsL ns f u) [] = some r ∧ POk r := by
  unfold tkR at h
  cases hk : minK ns f u with
  | false => rw [hk] at h; cases h
  | true =>
    rw [hk] at h
    obtain ⟨hok, hs⟩ := minK_iff hk
    have h' : chgR add v ns f u = some r := h
    unfold chgR at h'
    rw [Option.filter_eq_some_iff] at h'
    exact ⟨hok, hs, h'.1, (ch_ok (fun m m' _ hm => ch_vok add v m m' hm) hok hs h'.1).2 (by simpa using h'.2)⟩

theorem POk.head? {ns : List Nd} (h : POk ns) : ∃ n, ns.head? = some n ∧ n.l = 0 := by
  obtain ⟨n, hn, hl⟩ := h.head
  exact ⟨n, by rw [List.head?_eq_getElem?]; exact hn, hl⟩
theorem POk.in_time {ns : List Nd} (h : POk ns) : ∀ n ∈ ns, 0 ≤ n.l ∧ n.l ≤ 1000000000 := fun n hn => by
  obtain ⟨i, hi⟩ := List.getElem?_of_mem hn
  exact time_iff.1 (h.each i n hi).1

/-- What was taken and is given back leaves the profile as it was. -/
theorem tk_back {v : Nd} {ns r : List Nd} {f u : Int} (h : tkR false v ns f u = some r) : tkR true v r f u = some ns := by
  obtain ⟨hok, hs, hch, hr⟩ := tk_some h
  have hsp := span_iff.1 hs
  obtain ⟨r', hr'⟩ := ch_can (g := chG true v) (ns := r) (f := f) (u := u) (tmsL r f u) [] (fun t ht h1 h2 => by
    obtain ⟨m, hm, hv⟩ := (ch_rep hok hs hch (s := t) (by omega)).2 h1 h2
    obtain ⟨c, hc, _⟩ := ch_back hm hv
    exact ⟨c, hc⟩)
  have hnil : ∀ T, Gd [] T := fun T => ⟨fun n h => by simp at h, fun n h => by simp at h, fun i m n h => by simp at h⟩
  obtain ⟨hgd, hne⟩ := ch_gd (fun m m' _ hm => ch_vok true v m m' hm) hr f u (tmsL r f u) [] r' (tms_up hr.rising f u) (tms_time hr hs) (fun t _ => hnil t) (hnil _) (fun _ => tms_head hr hs) hr' (.inl (tms_ne r f u))
  have heq : r' = ns := by
    obtain ⟨n, hn, hnl⟩ := hok.head?
    cases hr0 : r' with
    | nil => exact absurd hr0 hne
    | cons x q =>
      rw [← hr0]
      have hx0 : x.l = 0 := hgd.head x (by rw [hr0]; rfl)
      refine cn_same r' ns hgd.cn hok.cn x n (by rw [hr0]; rfl) hn (by omega) (fun t h1 h2 => ?_) (fun y hy => (time_iff.1 (hgd.each y hy).1).2) (fun y hy => (hok.in_time y hy).2)
      have a1 := ch_rep hr hs hr' (s := t) (by omega)
      have a2 := ch_rep hok hs hch (s := t) (by omega)
      by_cases hc : f ≤ t ∧ t < u
      · obtain ⟨m, hm, hv⟩ := a2.2 hc.1 hc.2
        obtain ⟨c, hcc, hcv⟩ := ch_back hm hv
        obtain ⟨m2, hm2, hv2⟩ := a1.2 hc.1 hc.2
        rw [hcc] at hm2
        cases hm2
        rw [hv2, hcv]
      · rw [a1.1, gv, if_neg hc, a2.1, gv, if_neg hc]
  subst heq
  unfold tkR
  have hk : minK r f u = true := (minK_yes hr hs).1
  rw [hk]
  show chgR true v r f u = some r'
  rw [chgR, hr']
  simp [Option.filter, hok.few]

/-- At each time what was taken is missing, elsewhere nothing is. -/
theorem tk_at {v : Nd} {ns r : List Nd} {f u t : Int} (h : tkR false v ns f u = some r) (ht : 0 ≤ t) :
    (f ≤ t ∧ t < u → ∃ c, chG true v (atL r t) = some c ∧ val c = val (atL ns t)) ∧ (¬ (f ≤ t ∧ t < u) → val (atL r t) = val (atL ns t)) := by
  obtain ⟨hok, hs, hch, hr⟩ := tk_some h
  have a := ch_rep hok hs hch (s := t) ht
  refine ⟨fun hc => ?_, fun hc => ?_⟩
  · obtain ⟨m, hm, hv⟩ := a.2 hc.1 hc.2
    exact ch_back hm hv
  · rw [a.1, gv, if_neg hc]

theorem cutp_yes {ns : List Nd} (h : POk ns) {t : Int} (ht : timeB t = true) : cutR ns t = at0 ns t :: ns.filter (fun n => decide (t < n.l)) := by
  unfold cutR
  rw [if_pos ⟨h, ht⟩, lateTo, List.take_length]

theorem cut_pok {ns : List Nd} (h : POk ns) {t : Int} (ht : timeB t = true) : POk (cutR ns t) := by
  have ht0 := (time_iff.1 ht).1
  obtain ⟨s, n, hs, hn, hat⟩ := h.at_mem ht0
  have hd := late_all h.rising hs
  have hsl := (List.getElem?_eq_some_iff.1 hn).1
  have hfew := h.few
  have hr : cutR ns t = at0 ns t :: ns.drop (s + 1) := by
    unfold cutR
    rw [if_pos ⟨h, ht⟩, hd]
  rw [hr]
  refine ⟨by simp, by simp; omega, fun m hm => ?_, fun i m hm => ?_, fun i m k hm hk => ?_⟩
  · simp at hm
    rw [← hm]
    rfl
  · cases i with
    | zero =>
      simp at hm
      rw [← hm]
      exact ⟨by show timeB 0 = true; decide, h.at_ok ht0⟩
    | succ i =>
      simp only [List.getElem?_cons_succ, List.getElem?_drop] at hm
      exact h.each _ m hm
  · cases i with
    | zero =>
      simp only [List.getElem?_cons_zero, Option.some.injEq] at hm
      simp only [List.getElem?_cons_succ, List.getElem?_drop, Nat.add_zero] at hk
      have hst := h.step s n k hn hk
      rw [← hm]
      have hnt := time_iff.1 (h.each s n hn).1
      refine ⟨by show (0 : Int) < k.l; omega, ?_⟩
      have : sameV (at0 ns t) k = sameV n k := by rw [at0, hat]; rfl
      rw [this]
      exact hst.2
    | succ i =>
      simp only [List.getElem?_cons_succ, List.getElem?_drop] at hm hk
      exact h.step _ m k hm (by rw [show s + 1 + i + 1 = s + 1 + (i + 1) by omega]; exact hk)

theorem fold_filter {t y : Int} (hty : t ≤ y) : ∀ (ns : List Nd) (o : Nd), (ns.filter (fun n => decide (t < n.l))).foldl (fun o n => if n.l ≤ y then n else o) o = ns.foldl (fun o n => if n.l ≤ y then (if t < n.l then n else o) else o) o
  | [], _ => rfl
  | x :: r, o => by
    rw [List.filter_cons]
    by_cases h : t < x.l
    · rw [if_pos (by simpa using h), List.foldl_cons, List.foldl_cons, if_pos h]
      exact fold_filter hty r _
    · rw [if_neg (by simpa using h), List.foldl_cons, if_neg h]
      rw [show (if x.l ≤ y then o else o) = o by split <;> rfl]
      exact fold_filter hty r o

theorem cut_at {ns : List Nd} (h : POk ns) {t y : Int} (ht : timeB t = true) (hy : t ≤ y) : val (atL (cutR ns t) y) = val (atL ns y) := by
  have ht0 := (time_iff.1 ht).1
  have hc := cut_pok h ht
  obtain ⟨s, n, hs, hn, hat⟩ := h.at_mem ht0
  have hd := late_all h.rising hs
  have hr : cutR ns t = at0 ns t :: ns.drop (s + 1) := by
    unfold cutR
    rw [if_pos ⟨h, ht⟩, hd]
  obtain ⟨j, m, hj, hm, hatj⟩ := h.at_mem (t := y) (by omega)
  rw [hatj]
  have hjs : s ≤ j := by
    rcases Nat.lt_or_ge j s with hlt | hge
    · obtain ⟨_, _, _, hh⟩ := hj
      have := hh s n hlt hn
      have := hs.le hn
      omega
    · exact hge
  have hstep : ∀ k : Nat, (cutR ns t)[k + 1]? = ns[s + 1 + k]? := fun k => by rw [hr, List.getElem?_cons_succ, List.getElem?_drop]
  by_cases e : j = s
  · subst e
    rw [hn] at hm
    cases hm
    have h0 : (cutR ns t)[0]? = some (at0 ns t) := by rw [hr]; rfl
    have hst : StepAt (cutR ns t) y 0 := ⟨_, h0, by show (0 : Int) ≤ y; omega, fun k q hk hq => by
      obtain ⟨k', rfl⟩ : ∃ k', k = k' + 1 := ⟨k - 1, by omega⟩
      rw [hstep] at hq
      obtain ⟨_, _, _, hh⟩ := hj
      exact hh _ q (by omega) hq⟩
    rw [hst.at h0, at0, hat]
    rfl
  · obtain ⟨i, rfl⟩ : ∃ i, j = s + 1 + i := ⟨j - s - 1, by omega⟩
    have h0 : (cutR ns t)[i + 1]? = some m := by rw [hstep]; exact hm
    have hst : StepAt (cutR ns t) y (i + 1) := ⟨_, h0, hj.le hm, fun k q hk hq => by
      obtain ⟨k', rfl⟩ : ∃ k', k = k' + 1 := ⟨k - 1, by omega⟩
      rw [hstep] at hq
      obtain ⟨_, _, _, hh⟩ := hj
      exact hh _ q (by omega) hq⟩
    rw [hst.at h0]

theorem at_point {ns : List Nd} (h : POk ns) {i : Nat} {x : Nd} (hx : ns[i]? = some x) : atL ns x.l = x :=
  StepAt.at (s := i) ⟨x, hx, Int.le_refl _, fun _ _ hk hm => h.rising.mono hx hm hk⟩ hx

theorem cut_first {ns : List Nd} (h : POk ns) {t : Int} (ht : timeB t = true) : val (atL (cutR ns t) 0) = val (atL ns t) := by
  have hc := cut_pok h ht
  have h0 : (cutR ns t)[0]? = some (at0 ns t) := by rw [cutp_yes h ht]; rfl
  have := at_point hc h0
  rw [show (at0 ns t).l = 0 from rfl] at this
  rw [this]
  rfl

theorem cut_again {ns : List Nd} (h : POk ns) {t : Int} (ht : timeB t = true) : cutR (cutR ns t) t = cutR ns t := by
  have hc := cut_pok h ht
  have ht0 := (time_iff.1 ht).1
  have ha : at0 (cutR ns t) t = at0 ns t := by
    have := cut_at h ht (Int.le_refl t)
    simp only [val, Prod.mk.injEq] at this
    obtain ⟨h1, h2, h3⟩ := this
    unfold at0
    rw [h1, h2, h3]
  rw [cutp_yes hc ht, ha, cutp_yes h ht, List.filter_cons, if_neg (by rw [decide_eq_true_eq]; show ¬ t < (0 : Int); omega), List.filter_filter]
  simp
theorem cutp_no {ns : List Nd} {t : Int} (h : ¬ (POk ns ∧ timeB t = true)) : cutR ns t = [] := by
  unfold cutR
  rw [if_neg h]
theorem cut_less {ns : List Nd} (h : POk ns) {t : Int} (ht : timeB t = true) : (cutR ns t).length ≤ ns.length := by
  have ht0 := (time_iff.1 ht).1
  obtain ⟨s, n, hs, hn, hat⟩ := h.at_mem ht0
  have hd := late_all h.rising hs
  have hsl := (List.getElem?_eq_some_iff.1 hn).1
  have hr : cutR ns t = at0 ns t :: ns.drop (s + 1) := by
    unfold cutR
    rw [if_pos ⟨h, ht⟩, hd]
  rw [hr]
  simp
  omega
end Go.Proofs.YtmpjebkjopfejaaGreat

namespace Go.Proofs.YtmpjebkjopfejaaGreat
open Go.ChangeShapes Go.WideShapes Go.ChangeAt Go.RowKit

def Jb.need (j : Jb) : Nd := ⟨0, j.na, j.nb, j.nc⟩
def Jb.lic (j : Jb) : Nd := ⟨0, j.la, j.lb, j.lc⟩
/-- The profiles of the nodes changed, one node after the other. -/
noncomputable def mvP (add : Bool) (v : Nd) (f u : Int) : List (List Nd) → List Int → Option (List (List Nd))
  | pss, [] => some pss
  | pss, n :: r => match tkR add v (pss.getD n.toNat []) f u with
    | none => none
    | some x => mvP add v f u (pss.set n.toNat x) r
theorem mvP_none {add : Bool} {v : Nd} {f u : Int} {pss : List (List Nd)} {n : Int} {r : List Int} (h : tkR add v (pss.getD n.toNat []) f u = none) : mvP add v f u pss (n :: r) = none := by rw [mvP, h]
theorem mvP_some {add : Bool} {v : Nd} {f u : Int} {pss : List (List Nd)} {n : Int} {r : List Int} {x : List Nd} (h : tkR add v (pss.getD n.toNat []) f u = some x) : mvP add v f u pss (n :: r) = mvP add v f u (pss.set n.toNat x) r := by rw [mvP, h]
/-- What is asked of room, job and nodes. -/
structure MvOk (R : Rm) (j : Jb) (xs : List Int) : Prop where
  room : ROk R
  job : jobB j = true
  len : (xs.length : Int) = j.nd
  there : ∀ x ∈ xs, isNd R.ns x
  differ : xs.Nodup
open Classical in
/-- The room with a job's amounts taken or given back. -/
noncomputable def mvR (add : Bool) (R : Rm) (j : Jb) (f u : Int) (xs : List Int) : Option Rm :=
  if MvOk R j xs then match tkR add j.lic R.lic f u with
    | none => none
    | some L => match mvP add j.need f u R.pss xs with
      | none => none
      | some Q => some { R with lic := L, pss := Q }
  else none
theorem mvR_no {add : Bool} {R : Rm} {j : Jb} {f u : Int} {xs : List Int} (h : ¬ MvOk R j xs) : mvR add R j f u xs = none := by rw [mvR, if_neg h]
theorem mvR_lic {add : Bool} {R : Rm} {j : Jb} {f u : Int} {xs : List Int} (h : MvOk R j xs) (hl : tkR add j.lic R.lic f u = none) : mvR add R j f u xs = none := by rw [mvR, if_pos h, hl]
theorem mvR_pss {add : Bool} {R : Rm} {j : Jb} {f u : Int} {xs : List Int} (hq : mvP add j.need f u R.pss xs = none) : mvR add R j f u xs = none := by
  unfold mvR
  split
  · rw [hq]; split <;> rfl
  · rfl
theorem mvR_yes {add : Bool} {R : Rm} {j : Jb} {f u : Int} {xs : List Int} {L : List Nd} {Q : List (List Nd)} (h : MvOk R j xs) (hl : tkR add j.lic R.lic f u = some L) (hq : mvP add j.need f u R.pss xs = some Q) : mvR add R j f u xs = some { R with lic := L, pss := Q } := by rw [mvR, if_pos h, hl, hq]

/-- What a function that answers a room and whether it could answers. -/
def RetR (w : World) (o : Option Rm) (e : Ending) (w' : World) : Prop :=
  match o with
  | none => e = .returned (.tuple #[.agg #[.slice none 0 0, .slice none 0 0, .slice none 0 0, .slice none 0 0, .slice none 0 0], .bool false]) ∧ Below w.heap.size w w'
  | some R => ∃ K : RK, e = .returned (.tuple #[.agg #[.slice (some ⟨K.gP, 0, none⟩) R.ps.length K.cP, .slice (some ⟨K.gN, 0, none⟩) R.ns.length K.cN, .slice (some ⟨K.gU, 0, none⟩) R.up.length K.cU, .slice (some ⟨K.gQ, 0, none⟩) R.pss.length K.cQ, .slice (some ⟨K.gL, 0, none⟩) R.lic.length K.cL], .bool true]) ∧ RStat R K w.heap.size w'.heap.size ∧ RX w' R K ∧ Below w.heap.size w w'
theorem retR_no {w w' : World} {e : Ending} {o : Option Rm} (h : o = none) (he : e = .returned (.tuple #[.agg #[.slice none 0 0, .slice none 0 0, .slice none 0 0, .slice none 0 0, .slice none 0 0], .bool false])) (hb : Below w.heap.size w w') : RetR w o e w' := by
  subst h
  exact ⟨he, hb⟩
theorem retR_yes {w w' : World} {e : Ending} {o : Option Rm} {R : Rm} (h : o = some R) (K : RK) (he : e = .returned (.tuple #[.agg #[.slice (some ⟨K.gP, 0, none⟩) R.ps.length K.cP, .slice (some ⟨K.gN, 0, none⟩) R.ns.length K.cN, .slice (some ⟨K.gU, 0, none⟩) R.up.length K.cU, .slice (some ⟨K.gQ, 0, none⟩) R.pss.length K.cQ, .slice (some ⟨K.gL, 0, none⟩) R.lic.length K.cL], .bool true])) (hs : RStat R K w.heap.size w'.heap.size) (hx : RX w' R K) (hb : Below w.heap.size w w') : RetR w o e w' := by
  subst h
  exact ⟨K, he, hs, hx, hb⟩
end Go.Proofs.YtmpjebkjopfejaaGreat

namespace Go.Proofs.YtmpjebkjopfejaaGreat
open Go.ChangeShapes Go.WideShapes Go.ChangeAt Go.RowKit

theorem mvP_ok {add : Bool} {v : Nd} {f u : Int} : ∀ {xs : List Int} {pss Q : List (List Nd)}, mvP add v f u pss xs = some Q → (∀ ns ∈ pss, POk ns) → Q.length = pss.length ∧ ∀ ns ∈ Q, POk ns := by
  intro xs
  induction xs with
  | nil => intro pss Q h hp; rw [mvP] at h; cases h; exact ⟨rfl, hp⟩
  | cons n r ih =>
    intro pss Q h hp
    cases hk : tkR add v (pss.getD n.toNat []) f u with
    | none => rw [mvP_none hk] at h; cases h
    | some x =>
      rw [mvP_some hk] at h
      obtain ⟨h1, h2⟩ := ih h (fun ns hm => by
        rcases List.mem_or_eq_of_mem_set hm with hm | rfl
        · exact hp ns hm
        · exact (tk_some hk).2.2.2)
      exact ⟨by rw [h1, List.length_set], h2⟩
theorem mvR_ok {add : Bool} {R R' : Rm} {j : Jb} {f u : Int} {xs : List Int} (h : mvR add R j f u xs = some R') : ROk R' := by
  unfold mvR at h
  split at h
  · rename_i hok
    cases hl : tkR add j.lic R.lic f u with
    | none => rw [hl] at h; cases h
    | some L =>
      rw [hl] at h
      cases hq : mvP add j.need f u R.pss xs with
      | none => rw [hq] at h; cases h
      | some Q =>
        rw [hq] at h
        cases h
        obtain ⟨h1, h2⟩ := mvP_ok hq hok.room.each
        exact ⟨hok.room.topo, hok.room.ups, by show Q.length = _; rw [h1]; exact hok.room.profs, (tk_some hl).2.2.2, h2⟩
  · cases h
theorem sum_le {pss : List (List Nd)} (h : ∀ ns ∈ pss, ns.length ≤ 200) : (pss.map List.length).sum ≤ 200 * pss.length := by
  induction pss with
  | nil => simp
  | cons x r ih =>
    have h1 := h x (by simp)
    have h2 := ih (fun ns hm => h ns (by simp [hm]))
    simp only [List.map_cons, List.sum_cons, List.length_cons]
    omega
theorem ROk.small {R : Rm} (h : ROk R) : RSmall R ∧ RTot R ∧ 0 < R.lic.length := by
  have h1 := h.topo.few
  have h2 := h.topo.nodes
  have h3 := h.ups
  have h4 := h.profs
  have h5 := h.lics.few
  have h6 := h.lics.one
  have h7 := sum_le (fun ns hm => (h.each ns hm).few)
  refine ⟨⟨by omega, by omega, by omega, by omega, fun ns hm => by have := (h.each ns hm).few; omega, by omega⟩, ?_, by omega⟩
  unfold RTot
  omega
def OSm (o : Option Rm) : Prop := ∀ R, o = some R → RSmall R ∧ RTot R ∧ 0 < R.lic.length
theorem mvR_small (add : Bool) (R : Rm) (j : Jb) (f u : Int) (xs : List Int) : OSm (mvR add R j f u xs) := fun _ h => (mvR_ok h).small

/-- The five values of an answer. -/
def RmV (B T : Nat) (w : World) (o : Option Rm) (c0 c1 c2 c3 c4 : Value) : Prop :=
  match o with
  | none => c0 = .slice none 0 0 ∧ c1 = .slice none 0 0 ∧ c2 = .slice none 0 0 ∧ c3 = .slice none 0 0 ∧ c4 = .slice none 0 0
  | some R => ∃ K : RK, (c0 = .slice (some ⟨K.gP, 0, none⟩) R.ps.length K.cP ∧ c1 = .slice (some ⟨K.gN, 0, none⟩) R.ns.length K.cN ∧ c2 = .slice (some ⟨K.gU, 0, none⟩) R.up.length K.cU ∧ c3 = .slice (some ⟨K.gQ, 0, none⟩) R.pss.length K.cQ ∧ c4 = .slice (some ⟨K.gL, 0, none⟩) R.lic.length K.cL) ∧ RStat R K B T ∧ RX w R K
/-- .. marked. -/
def RmM (B T : Nat) (w : World) (o : Option Rm) (c0 c1 c2 c3 c4 : Value) : Prop :=
  match o with
  | none => c0 = .slice none 0 0 ∧ c1 = .slice none 0 0 ∧ c2 = .slice none 0 0 ∧ c3 = .slice none 0 0 ∧ c4 = .slice none 0 0
  | some R => ∃ K : RK, (c0 = .slice (some ⟨K.gP, 0, none⟩) R.ps.length K.cP ∧ c1 = .slice (some ⟨K.gN, 0, none⟩) R.ns.length K.cN ∧ c2 = .slice (some ⟨K.gU, 0, none⟩) R.up.length K.cU ∧ c3 = .slice (some ⟨K.gQ, 0, none⟩) R.pss.length K.cQ ∧ c4 = .slice (some ⟨K.gL, 0, none⟩) R.lic.length K.cL) ∧ RStat R K B T ∧ RMk w R K
def mkE (o : Option Rm) : Nat := match o with
  | none => 1
  | some R => kEnd R
theorem RMk.keep {w w' : World} {R : Rm} {K : RK} (h : RMk w R K) (hk : ∀ b ∈ K.blocks, ∀ ys, Row w b ys → Row w' b ys) : RMk w' R K :=
  ⟨hk _ (by simp [RK.blocks]) _ h.rP, hk _ (by simp [RK.blocks]) _ h.rN, hk _ (by simp [RK.blocks]) _ h.rU, hk _ (by simp [RK.blocks]) _ h.rQ, fun i x ns h1 h2 => hk _ (mem_bl h1) _ (h.each i x ns h1 h2), hk _ (by simp [RK.blocks]) _ h.rL⟩
theorem RmV.below {B T : Nat} {w w' : World} {o : Option Rm} {c0 c1 c2 c3 c4 : Value} (h : RmV B T w o c0 c1 c2 c3 c4) (hb : Below w.heap.size w w') : RmV B T w' o c0 c1 c2 c3 c4 := by
  cases o with
  | none => exact h
  | some R =>
    obtain ⟨K, he, hs, hx⟩ := h
    exact ⟨K, he, hs, hx.below hb⟩
theorem RmV.wide {B T B' T' : Nat} {w : World} {o : Option Rm} {c0 c1 c2 c3 c4 : Value} (h : RmV B T w o c0 c1 c2 c3 c4) (hB : B' ≤ B) (hT : T ≤ T') : RmV B' T' w o c0 c1 c2 c3 c4 := by
  cases o with
  | none => exact h
  | some R =>
    obtain ⟨K, he, hs, hx⟩ := h
    exact ⟨K, he, ⟨hs.hh, hs.tqs, fun b hb => by have := hs.rng b hb; omega, hs.nd⟩, hx⟩
theorem RmV.keep {B T : Nat} {w w' : World} {o : Option Rm} {c0 c1 c2 c3 c4 : Value} (h : RmV B T w o c0 c1 c2 c3 c4) (hk : ∀ b ys, B ≤ b → b < T → Row w b ys → Row w' b ys) : RmV B T w' o c0 c1 c2 c3 c4 := by
  cases o with
  | none => exact h
  | some R =>
    obtain ⟨K, he, hs, hx⟩ := h
    exact ⟨K, he, hs, hx.keep (fun b hb ys hr => hk b ys (hs.rng b hb).1 (hs.rng b hb).2 hr)⟩
theorem RmM.below {B T : Nat} {w w' : World} {o : Option Rm} {c0 c1 c2 c3 c4 : Value} (h : RmM B T w o c0 c1 c2 c3 c4) (hb : Below w.heap.size w w') : RmM B T w' o c0 c1 c2 c3 c4 := by
  cases o with
  | none => exact h
  | some R =>
    obtain ⟨K, he, hs, hx⟩ := h
    exact ⟨K, he, hs, hx.below hb⟩
theorem RmM.wide {B T B' T' : Nat} {w : World} {o : Option Rm} {c0 c1 c2 c3 c4 : Value} (h : RmM B T w o c0 c1 c2 c3 c4) (hB : B' ≤ B) (hT : T ≤ T') : RmM B' T' w o c0 c1 c2 c3 c4 := by
  cases o with
  | none => exact h
  | some R =>
    obtain ⟨K, he, hs, hx⟩ := h
    exact ⟨K, he, ⟨hs.hh, hs.tqs, fun b hb => by have := hs.rng b hb; omega, hs.nd⟩, hx⟩
theorem RmM.keep {B T : Nat} {w w' : World} {o : Option Rm} {c0 c1 c2 c3 c4 : Value} (h : RmM B T w o c0 c1 c2 c3 c4) (hk : ∀ b ys, B ≤ b → b < T → Row w b ys → Row w' b ys) : RmM B T w' o c0 c1 c2 c3 c4 := by
  cases o with
  | none => exact h
  | some R =>
    obtain ⟨K, he, hs, hx⟩ := h
    exact ⟨K, he, hs, hx.keep (fun b hb ys hr => hk b ys (hs.rng b hb).1 (hs.rng b hb).2 hr)⟩
theorem RetR.vals {w w' : World} {o : Option Rm} {e : Ending} (h : RetR w o e w') : ∃ (a0 a1 a2 a3 a4 : Option Addr) (n0 n1 n2 n3 n4 m0 m1 m2 m3 m4 : Nat), e = .returned (.tuple #[.agg #[.slice a0 n0 m0, .slice a1 n1 m1, .slice a2 n2 m2, .slice a3 n3 m3, .slice a4 n4 m4], .bool o.isSome]) ∧ RmV w.heap.size w'.heap.size w' o (.slice a0 n0 m0) (.slice a1 n1 m1) (.slice a2 n2 m2) (.slice a3 n3 m3) (.slice a4 n4 m4) ∧ Below w.heap.size w w' := by
  cases o with
  | none =>
    obtain ⟨he, hb⟩ := h
    exact ⟨none, none, none, none, none, 0, 0, 0, 0, 0, 0, 0, 0, 0, 0, he, ⟨rfl, rfl, rfl, rfl, rfl⟩, hb⟩
  | some R =>
    obtain ⟨K, he, hs, hx, hb⟩ := h
    exact ⟨some ⟨K.gP, 0, none⟩, some ⟨K.gN, 0, none⟩, some ⟨K.gU, 0, none⟩, some ⟨K.gQ, 0, none⟩, some ⟨K.gL, 0, none⟩, R.ps.length, R.ns.length, R.up.length, R.pss.length, R.lic.length, K.cP, K.cN, K.cU, K.cQ, K.cL, he, ⟨K, ⟨rfl, rfl, rfl, rfl, rfl⟩, hs, hx⟩, hb⟩

theorem kEnd_le {R : Rm} (h : RTot R) : kEnd R ≤ 16777216 := by
  unfold RTot at h
  unfold kEnd kL kQ kU
  omega
theorem mkE_le {o : Option Rm} (h : OSm o) : 1 ≤ mkE o ∧ mkE o ≤ 16777216 := by
  cases o with
  | none => exact ⟨Nat.le_refl _, by show 1 ≤ 16777216; omega⟩
  | some R => exact ⟨by unfold mkE kEnd kL kQ kU; dsimp only; omega, kEnd_le (h R rfl).2.1⟩
theorem eqRoom_v {B T B' T' : Nat} {w : World} {o : Option Rm} {c0 c1 c2 c3 c4 d0 d1 d2 d3 d4 : Value} (ho : OSm o) (h : RmV B T w o c0 c1 c2 c3 c4) (h' : RmV B' T' w o d0 d1 d2 d3 d4) :
    Calls Tryz.prog 11 #[.agg #[c0, c1, c2, c3, c4], .agg #[d0, d1, d2, d3, d4]] w fun e w' => e = .returned (.bool true) ∧ Below w.heap.size w w' := by
  cases o with
  | none =>
    obtain ⟨rfl, rfl, rfl, rfl, rfl⟩ := h
    obtain ⟨rfl, rfl, rfl, rfl, rfl⟩ := h'
    have hz : RAt w ⟨none, none, none, none, none, 0, 0, 0, 0, 0⟩ ⟨[], [], [], [], []⟩ := ⟨⟨fun i u hu => by simp [ints] at hu⟩, ⟨fun i u hu => by simp [flat] at hu⟩, ⟨fun i u hu => by simp [bools] at hu⟩, ⟨fun i u hu => by simp at hu⟩, ⟨fun i u hu => by simp [flat] at hu⟩⟩
    exact eqRoom_c ⟨none, none, none, none, none, 0, 0, 0, 0, 0⟩ ⟨none, none, none, none, none, 0, 0, 0, 0, 0⟩ ⟨[], [], [], [], []⟩ ⟨by simp, by simp, by simp, by simp, by simp, by simp⟩ w hz hz
  | some R =>
    obtain ⟨K, ⟨rfl, rfl, rfl, rfl, rfl⟩, hs, hx⟩ := h
    obtain ⟨K', ⟨rfl, rfl, rfl, rfl, rfl⟩, hs', hx'⟩ := h'
    exact eqRoom_c K.ra K'.ra R (ho R rfl).1 w (hx.rat hs) (hx'.rat hs')
theorem markNodeS_nil (a : Option Addr) (cap k0 : Nat) (w : World) : Calls Tryz.prog 67 #[.slice a 0 cap, .int .i64 (k0 : Int)] w fun e w' => e = .returned (.int .i64 (k0 : Int)) ∧ w' = w := by
  go_enter Tryz.func67, Tryz.ntmps67
  go_wp2_with fail
  go_loopw [1, 5] (fun k i wr => i = .int .i64 0 ∧ k = .int .i64 (k0 : Int) ∧ wr = w) (fun _ _ _ => 0)
  case atStart => exact ⟨rfl, rfl, rfl⟩
  case round =>
    obtain ⟨rfl, rfl, rfl⟩ := hrel
    go_wp2_with fail
    go_ret
    exact ⟨rfl, rfl⟩
theorem heldNodeS_nil (a : Option Addr) (cap k0 : Nat) (w : World) : Calls Tryz.prog 70 #[.slice a 0 cap, .int .i64 (k0 : Int)] w fun e w' => e = .returned (.int .i64 (k0 : Int)) ∧ Below w.heap.size w w' := by
  go_enter Tryz.func70, Tryz.ntmps70
  go_wp2_with fail
  go_loopw [1, 5] (fun k i wr => i = .int .i64 0 ∧ k = .int .i64 (k0 : Int) ∧ wr = w) (fun _ _ _ => 0)
  case atStart => exact ⟨rfl, rfl, rfl⟩
  case round =>
    obtain ⟨rfl, rfl, rfl⟩ := hrel
    go_wp2_with fail
    go_ret
    exact ⟨rfl, Below.refl _ _⟩
theorem markBoolS_nil (a : Option Addr) (cap k0 : Nat) (w : World) : Calls Tryz.prog 38 #[.slice a 0 cap, .int .i64 (k0 : Int)] w fun e w' => e = .returned (.int .i64 (k0 : Int)) ∧ w' = w := by
  go_enter Tryz.func38, Tryz.ntmps38
  go_wp2_with fail
  go_loopw [1, 5] (fun k i wr => i = .int .i64 0 ∧ k = .int .i64 (k0 : Int) ∧ wr = w) (fun _ _ _ => 0)
  case atStart => exact ⟨rfl, rfl, rfl⟩
  case round =>
    obtain ⟨rfl, rfl, rfl⟩ := hrel
    go_wp2_with fail
    go_ret
    exact ⟨rfl, rfl⟩
theorem heldBoolS_nil (a : Option Addr) (cap k0 : Nat) (w : World) : Calls Tryz.prog 42 #[.slice a 0 cap, .int .i64 (k0 : Int)] w fun e w' => e = .returned (.int .i64 (k0 : Int)) ∧ Below w.heap.size w w' := by
  go_enter Tryz.func42, Tryz.ntmps42
  go_wp2_with fail
  go_loopw [1, 5] (fun k i wr => i = .int .i64 0 ∧ k = .int .i64 (k0 : Int) ∧ wr = w) (fun _ _ _ => 0)
  case atStart => exact ⟨rfl, rfl, rfl⟩
  case round =>
    obtain ⟨rfl, rfl, rfl⟩ := hrel
    go_wp2_with fail
    go_ret
    exact ⟨rfl, Below.refl _ _⟩
theorem markProfS_nil (a : Option Addr) (cap k0 : Nat) (w : World) : Calls Tryz.prog 39 #[.slice a 0 cap, .int .i64 (k0 : Int)] w fun e w' => e = .returned (.int .i64 (k0 : Int)) ∧ w' = w := by
  go_enter Tryz.func39, Tryz.ntmps39
  go_wp2_with fail
  go_loopw [1, 5] (fun k i wr => i = .int .i64 0 ∧ k = .int .i64 (k0 : Int) ∧ wr = w) (fun _ _ _ => 0)
  case atStart => exact ⟨rfl, rfl, rfl⟩
  case round =>
    obtain ⟨rfl, rfl, rfl⟩ := hrel
    go_wp2_with fail
    go_ret
    exact ⟨rfl, rfl⟩
theorem heldProfS_nil (a : Option Addr) (cap k0 : Nat) (w : World) : Calls Tryz.prog 43 #[.slice a 0 cap, .int .i64 (k0 : Int)] w fun e w' => e = .returned (.int .i64 (k0 : Int)) ∧ Below w.heap.size w w' := by
  go_enter Tryz.func43, Tryz.ntmps43
  go_wp2_with fail
  go_loopw [1, 5] (fun k i wr => i = .int .i64 0 ∧ k = .int .i64 (k0 : Int) ∧ wr = w) (fun _ _ _ => 0)
  case atStart => exact ⟨rfl, rfl, rfl⟩
  case round =>
    obtain ⟨rfl, rfl, rfl⟩ := hrel
    go_wp2_with fail
    go_ret
    exact ⟨rfl, Below.refl _ _⟩
theorem markTopo_nil (w : World) : Calls Tryz.prog 37 #[.agg #[.slice none 0 0, .slice none 0 0], .int .i64 1] w fun e w' => e = .returned (.int .i64 1) ∧ Below w.heap.size w w' := by
  go_enter Tryz.func37, Tryz.ntmps37
  go_wp2_with fail
  refine (markIntS_nil none 0 1 _).mono ?_
  rintro e w1 ⟨rfl, rfl⟩
  go_wp2_with fail
  refine (markNodeS_nil none 0 1 _).mono ?_
  rintro e w1 ⟨rfl, rfl⟩
  go_wp2_with fail
  go_ret
  exact ⟨rfl, low_alloc _ _⟩
theorem markRoom_nil (w : World) : Calls Tryz.prog 13 #[.agg #[.slice none 0 0, .slice none 0 0, .slice none 0 0, .slice none 0 0, .slice none 0 0], .int .i64 1] w fun e w' => e = .returned (.int .i64 1) ∧ Below w.heap.size w w' := by
  go_enter Tryz.func13, Tryz.ntmps13
  go_wp2_with fail
  have X : Hid (Row (w.alloc (.cells #[.slice none 0 0, .slice none 0 0, .slice none 0 0, .slice none 0 0, .slice none 0 0] 46)) w.heap.size [.slice none 0 0, .slice none 0 0, .slice none 0 0, .slice none 0 0, .slice none 0 0]) := row_fresh w [.slice none 0 0, .slice none 0 0, .slice none 0 0, .slice none 0 0, .slice none 0 0] 46
  have B0 : Hid (Below w.heap.size w (w.alloc (.cells #[.slice none 0 0, .slice none 0 0, .slice none 0 0, .slice none 0 0, .slice none 0 0] 46))) := low_alloc _ _
  generalize w.alloc (.cells #[.slice none 0 0, .slice none 0 0, .slice none 0 0, .slice none 0 0, .slice none 0 0] 46) = V at X B0
  refine (markTopo_nil V).mono ?_
  rintro e w1 ⟨rfl, hb⟩
  have B1 : Hid (Below w.heap.size w w1) := below_then B0.out hb
  have x2 := (X.out.below hb).cell 2 _ rfl
  have x3 := (X.out.below hb).cell 3 _ rfl
  have x4 := (X.out.below hb).cell 4 _ rfl
  clear hb
  go_wp2_with fail
  refine (markBoolS_nil none 0 1 _).mono ?_
  rintro e w2 ⟨rfl, rfl⟩
  go_wp2_with fail
  refine (markProfS_nil none 0 1 _).mono ?_
  rintro e w2 ⟨rfl, rfl⟩
  go_wp2_with fail
  refine (markProf_ans (k0 := 1) (AnsP.none w.heap.size w.heap.size _ none 0) (by omega) (by omega)).mono ?_
  rintro e w3 ⟨rfl, _, hap⟩
  have B3 : Hid (Below w.heap.size w w3) := hap.2.1 w B1.out (Nat.le_refl _)
  clear hap x2 x3 x4
  go_wp2_with fail
  go_ret
  exact ⟨rfl, B3.out⟩
theorem markRoom_v {B T : Nat} {w : World} {o : Option Rm} {c0 c1 c2 c3 c4 : Value} (ho : OSm o) (h : RmV B T w o c0 c1 c2 c3 c4) :
    Calls Tryz.prog 13 #[.agg #[c0, c1, c2, c3, c4], .int .i64 1] w fun e w' => e = .returned (.int .i64 ((mkE o : Nat) : Int)) ∧ RmM B T w' o c0 c1 c2 c3 c4 ∧ Apart B T w w' := by
  cases o with
  | none =>
    obtain ⟨rfl, rfl, rfl, rfl, rfl⟩ := h
    refine (markRoom_nil w).mono ?_
    rintro e w' ⟨rfl, hb⟩
    exact ⟨rfl, ⟨rfl, rfl, rfl, rfl, rfl⟩, fun _ _ hr _ => hr.below hb, fun _ h0 _ => below_then h0 hb, hb.size⟩
  | some R =>
    obtain ⟨K, ⟨rfl, rfl, rfl, rfl, rfl⟩, hs, hx⟩ := h
    obtain ⟨s1, s2, s3⟩ := ho R rfl
    refine (markRoom_f R K B T hs s1 s2 s3 w hx).mono ?_
    rintro e w' ⟨rfl, hm, hk⟩
    exact ⟨rfl, ⟨K, ⟨rfl, rfl, rfl, rfl, rfl⟩, hs, hm⟩, fun b ys hr hb => hk.1 b ys hr (fun hm => by have := hs.rng b hm; omega), fun w0 h0 h1 => hk.2.1 w0 h0 (fun b hb => by have := hs.rng b hb; omega), hk.2.2⟩
theorem heldTopo_nil (w : World) : Calls Tryz.prog 41 #[.agg #[.slice none 0 0, .slice none 0 0], .int .i64 1] w fun e w' => e = .returned (.int .i64 1) ∧ Below w.heap.size w w' := by
  go_enter Tryz.func41, Tryz.ntmps41
  go_wp2_with fail
  have X : Hid (Row (w.alloc (.cells #[.slice none 0 0, .slice none 0 0] 40)) w.heap.size [.slice none 0 0, .slice none 0 0]) := row_fresh w [.slice none 0 0, .slice none 0 0] 40
  have B0 : Hid (Below w.heap.size w (w.alloc (.cells #[.slice none 0 0, .slice none 0 0] 40))) := low_alloc _ _
  generalize w.alloc (.cells #[.slice none 0 0, .slice none 0 0] 40) = V at X B0
  refine (heldIntS_nil none 0 1 V).mono ?_
  rintro e w1 ⟨rfl, hb⟩
  have B1 : Hid (Below w.heap.size w w1) := below_then B0.out hb
  have x1 := (X.out.below hb).cell 1 _ rfl
  clear hb
  go_wp2_with fail
  refine (heldNodeS_nil none 0 1 _).mono ?_
  rintro e w2 ⟨rfl, hb⟩
  have B2 : Hid (Below w.heap.size w w2) := below_then B1.out hb
  clear hb x1
  go_wp2_with fail
  go_ret
  exact ⟨rfl, B2.out⟩
theorem heldRoom_nil (w : World) : Calls Tryz.prog 15 #[.agg #[.slice none 0 0, .slice none 0 0, .slice none 0 0, .slice none 0 0, .slice none 0 0], .int .i64 1] w fun e w' => e = .returned (.int .i64 1) ∧ Below w.heap.size w w' := by
  go_enter Tryz.func15, Tryz.ntmps15
  go_wp2_with fail
  have X : Hid (Row (w.alloc (.cells #[.slice none 0 0, .slice none 0 0, .slice none 0 0, .slice none 0 0, .slice none 0 0] 46)) w.heap.size [.slice none 0 0, .slice none 0 0, .slice none 0 0, .slice none 0 0, .slice none 0 0]) := row_fresh w [.slice none 0 0, .slice none 0 0, .slice none 0 0, .slice none 0 0, .slice none 0 0] 46
  have B0 : Hid (Below w.heap.size w (w.alloc (.cells #[.slice none 0 0, .slice none 0 0, .slice none 0 0, .slice none 0 0, .slice none 0 0] 46))) := low_alloc _ _
  generalize w.alloc (.cells #[.slice none 0 0, .slice none 0 0, .slice none 0 0, .slice none 0 0, .slice none 0 0] 46) = V at X B0
  refine (heldTopo_nil V).mono ?_
  rintro e w1 ⟨rfl, hb⟩
  have B1 : Hid (Below w.heap.size w w1) := below_then B0.out hb
  have X1 : Hid (Row w1 w.heap.size [.slice none 0 0, .slice none 0 0, .slice none 0 0, .slice none 0 0, .slice none 0 0]) := X.out.below hb
  have x2 := X1.out.cell 2 _ rfl
  clear hb X B0
  go_wp2_with fail
  refine (heldBoolS_nil none 0 1 _).mono ?_
  rintro e w2 ⟨rfl, hb⟩
  have B2 : Hid (Below w.heap.size w w2) := below_then B1.out hb
  have X2 : Hid (Row w2 w.heap.size [.slice none 0 0, .slice none 0 0, .slice none 0 0, .slice none 0 0, .slice none 0 0]) := X1.out.below hb
  have x3 := X2.out.cell 3 _ rfl
  clear hb X1 B1 x2
  go_wp2_with fail
  refine (heldProfS_nil none 0 1 _).mono ?_
  rintro e w3 ⟨rfl, hb⟩
  have B3 : Hid (Below w.heap.size w w3) := below_then B2.out hb
  have X3 : Hid (Row w3 w.heap.size [.slice none 0 0, .slice none 0 0, .slice none 0 0, .slice none 0 0, .slice none 0 0]) := X2.out.below hb
  have x4 := X3.out.cell 4 _ rfl
  clear hb X2 B2 x3
  go_wp2_with fail
  refine (heldProf_ans (k0 := 1) (n := 0) (AnsP.none (w3.heap.size) (w3.heap.size) w3 none 0) (by omega) (by omega)).mono ?_
  rintro e w4 ⟨rfl, hb⟩
  have B4 : Hid (Below w.heap.size w w4) := below_then B3.out hb
  clear hb x4
  go_wp2_with fail
  go_ret
  exact ⟨rfl, B4.out⟩
theorem heldRoom_v {B T : Nat} {w : World} {o : Option Rm} {c0 c1 c2 c3 c4 : Value} (ho : OSm o) (h : RmM B T w o c0 c1 c2 c3 c4) :
    Calls Tryz.prog 15 #[.agg #[c0, c1, c2, c3, c4], .int .i64 1] w fun e w' => e = .returned (.int .i64 ((mkE o : Nat) : Int)) ∧ Below w.heap.size w w' := by
  cases o with
  | none =>
    obtain ⟨rfl, rfl, rfl, rfl, rfl⟩ := h
    exact heldRoom_nil w
  | some R =>
    obtain ⟨K, ⟨rfl, rfl, rfl, rfl, rfl⟩, hs, hx⟩ := h
    obtain ⟨s1, s2, s3⟩ := ho R rfl
    exact heldRoom_f R K B T hs s1 s2 w hx
end Go.Proofs.YtmpjebkjopfejaaGreat
