/- A topology that is being drawn: what lies there. -/
import Derived.Test.YtdmgcbagijiohaaTkE
import Derived.Test.YtdmgcbagijiohaaPrfB
import Derived.Test.YtdmgcbagijiohaaPtB
import Derived.Test.YtdmgcbagijiohaaPartsP
import Derived.Deep.QuietTactic
import Derived.BigQuiet
import Derived.Deep.DeepCutAuto
import Derived.Test.YtdmgcbagijiohaaTopJ
import Derived.Deep.AppendLies
import Derived.RangeFuncBox
namespace Go.Proofs.Ytdmgcbagijiohaa
open Go.RowKit

/-- Of each of the three no more. -/
def le3 (x m : Nd) : Prop := x.a ≤ m.a ∧ x.b ≤ m.b ∧ x.c ≤ m.c
theorem le3_self (x : Nd) : le3 x x := ⟨Int.le_refl _, Int.le_refl _, Int.le_refl _⟩
theorem le3_min (x m n : Nd) : le3 x (vmin m n) ↔ le3 x m ∧ le3 x n := by
  simp only [le3, vmin, Int.le_min]
  constructor
  · rintro ⟨⟨h1, h2⟩, ⟨h3, h4⟩, h5, h6⟩
    exact ⟨⟨h1, h3, h5⟩, h2, h4, h6⟩
  · rintro ⟨⟨h1, h3, h5⟩, h2, h4, h6⟩
    exact ⟨⟨h1, h2⟩, ⟨h3, h4⟩, h5, h6⟩

theorem le_minTo {ns : List Nd} {f t : Int} {x : Nd} : ∀ j, le3 x (minTo ns f t j) ↔ le3 x (atL ns f) ∧ ∀ n ∈ ns.take j, f ≤ n.l → n.l < t → le3 x n
  | 0 => by simp [minTo]
  | j + 1 => by
    have ih := le_minTo (ns := ns) (f := f) (t := t) (x := x) j
    by_cases hj : j < ns.length
    · have e := List.getElem?_eq_getElem hj
      rw [min_next e, List.take_add_one, e]
      generalize ns[j] = nj at *
      simp only [Option.toList_some, List.mem_append, List.mem_singleton]
      by_cases hc : f ≤ nj.l ∧ nj.l < t
      · rw [if_pos hc, le3_min, ih]
        constructor
        · rintro ⟨⟨h1, h2⟩, h3⟩
          refine ⟨h1, fun n hn => ?_⟩
          rcases hn with hn | rfl
          · exact h2 n hn
          · exact fun _ _ => h3
        · rintro ⟨h1, h2⟩
          exact ⟨⟨h1, fun n hn => h2 n (.inl hn)⟩, h2 _ (.inr rfl) hc.1 hc.2⟩
      · rw [if_neg hc, ih]
        constructor
        · rintro ⟨h1, h2⟩
          refine ⟨h1, fun n hn => ?_⟩
          rcases hn with hn | rfl
          · exact h2 n hn
          · exact fun a b => absurd ⟨a, b⟩ hc
        · rintro ⟨h1, h2⟩
          exact ⟨h1, fun n hn => h2 n (.inl hn)⟩
    · have e1 : ns.take (j + 1) = ns := List.take_of_length_le (by omega)
      have e2 : ns.take j = ns := List.take_of_length_le (by omega)
      unfold minTo at *
      rw [e2] at ih
      rw [e1]
      exact ih

theorem StepAt.le {ns : List Nd} {t : Int} {s : Nat} {n : Nd} (h : StepAt ns t s) (hn : ns[s]? = some n) : n.l ≤ t := by
  obtain ⟨n', hn', hle, _⟩ := h
  rw [hn] at hn'
  cases hn'
  exact hle

theorem min_at {ns : List Nd} (h : POk ns) {f t s : Int} (hf : 0 ≤ f) (h1 : f ≤ s) (h2 : s < t) : le3 (minTo ns f t ns.length) (atL ns s) := by
  obtain ⟨ha, hb⟩ := (le_minTo ns.length).1 (le3_self (minTo ns f t ns.length))
  obtain ⟨i, n, hs, hn, hat⟩ := h.at_mem (t := s) (by omega)
  have hle := hs.le hn
  rw [hat]
  by_cases hl : f ≤ n.l
  · exact hb n (by rw [List.take_length]; exact List.mem_of_getElem? hn) hl (by omega)
  · have hf' : StepAt ns f i := by
      obtain ⟨n', hn', _, hlt⟩ := hs
      exact ⟨n, hn, by omega, fun k m hk hm => by have := hlt k m hk hm; omega⟩
    rw [hf'.at hn] at ha
    exact ha
theorem min_less {ns : List Nd} {f t t' : Int} (ht : t' ≤ t) : le3 (minTo ns f t ns.length) (minTo ns f t' ns.length) := by
  obtain ⟨ha, hb⟩ := (le_minTo ns.length).1 (le3_self (minTo ns f t ns.length))
  exact (le_minTo _).2 ⟨ha, fun n hn h1 h2 => hb n hn h1 (by omega)⟩

theorem fit_le {x m : Nd} (h1 : vokN x = true) (h2 : vokN m = true) (h : le3 x m) : fitB x.a x.b x.c m.a m.b m.c = true := by
  obtain ⟨ha, hb, hc⟩ := h
  unfold vokN at h1 h2
  simp [fitB, h1, h2, nabB, ha, hb, hc]

/-- The three amounts of a point. -/
def val (n : Nd) : Int × Int × Int := (n.a, n.b, n.c)
theorem same_val (m n : Nd) : sameV m n = true ↔ val m = val n := by
  obtain ⟨l, a, b, c⟩ := m
  obtain ⟨l', a', b', c'⟩ := n
  simp [sameV, val]
theorem same_not (m n : Nd) : sameV m n = false ↔ val m ≠ val n := by
  rw [← Bool.not_eq_true, same_val]

/-- Points that rise and of which two next to each other differ. -/
structure Cn (ns : List Nd) : Prop where
  rise : Rising ns
  diff : ∀ (i : Nat) m n, ns[i]? = some m → ns[i + 1]? = some n → val m ≠ val n
theorem POk.cn {ns : List Nd} (h : POk ns) : Cn ns := ⟨h.rising, fun i m n hm hn => (same_not m n).1 (h.step i m n hm hn).2⟩
theorem Gd.cn {ns : List Nd} {t : Int} (h : Gd ns t) : Cn ns := ⟨fun i m n hm hn => (h.step i m n hm hn).1, fun i m n hm hn => (same_not m n).1 (h.step i m n hm hn).2⟩
theorem Cn.tail {x : Nd} {r : List Nd} (h : Cn (x :: r)) : Cn r := ⟨fun i m n hm hn => h.rise (i + 1) m n hm hn, fun i m n hm hn => h.diff (i + 1) m n hm hn⟩

theorem at_cons (x : Nd) (r : List Nd) (t : Int) : atL (x :: r) t = r.foldl (fun o n => if n.l ≤ t then n else o) (if x.l ≤ t then x else nd0) := rfl

/-- Ahead of all points nothing turns. -/
theorem fold_late {r : List Nd} {t : Int} (h : ∀ n ∈ r, t < n.l) (o : Nd) : r.foldl (fun o n => if n.l ≤ t then n else o) o = o := by
  induction r generalizing o with
  | nil => rfl
  | cons x r ih =>
    rw [List.foldl_cons, if_neg (by have := h x (by simp); omega)]
    exact ih (fun n hn => h n (by simp [hn])) o
theorem Cn.after {x : Nd} {r : List Nd} (h : Cn (x :: r)) : ∀ n ∈ r, x.l < n.l := fun n hn => by
  obtain ⟨i, hi⟩ := List.getElem?_of_mem hn
  exact h.rise.mono (i := 0) (j := i + 1) rfl hi (by omega)
theorem at_here {x : Nd} {r : List Nd} (h : Cn (x :: r)) {t : Int} (h1 : x.l ≤ t) (h2 : ∀ n, r.head? = some n → t < n.l) : atL (x :: r) t = x := by
  rw [at_cons, if_pos h1]
  refine fold_late (fun n hn => ?_) x
  cases r with
  | nil => simp at hn
  | cons y r =>
    have hy := h2 y rfl
    rcases List.mem_cons.1 hn with rfl | hn
    · exact hy
    · have := h.tail.after n hn; omega
theorem at_skip {x y : Nd} {r : List Nd} (_h : Cn (x :: y :: r)) {t : Int} (h1 : y.l ≤ t) : atL (x :: y :: r) t = atL (y :: r) t := by
  rw [at_cons, List.foldl_cons, if_pos h1, at_cons, if_pos h1]

/-- Two of them that show the same from the first time on are the same. -/
theorem cn_same : ∀ (ms ns : List Nd), Cn ms → Cn ns → ∀ m n, ms.head? = some m → ns.head? = some n → m.l = n.l → (∀ t, m.l ≤ t → t ≤ 1000000000 → val (atL ms t) = val (atL ns t)) → (∀ x ∈ ms, x.l ≤ 1000000000) → (∀ x ∈ ns, x.l ≤ 1000000000) → ms = ns
  | [], _, _, _, _, _, h, _, _, _, _, _ => by cases h
  | _ :: _, [], _, _, _, _, _, h, _, _, _, _ => by cases h
  | x :: r, y :: s, hm, hn, m, n, e1, e2, hl, hv, hbm, hbn => by
    cases e1
    cases e2
    have hxb := hbm x (by simp)
    have hxy : x = y := by
      have h0 := hv x.l (Int.le_refl _) hxb
      rw [at_here hm (Int.le_refl _) (fun n h => hm.after n (List.mem_of_mem_head? h)), at_here hn (by omega) (fun n h => by have := hn.after n (List.mem_of_mem_head? h); omega)] at h0
      obtain ⟨l, a, b, c⟩ := x
      obtain ⟨l', a', b', c'⟩ := y
      simp [val] at h0 hl
      simp [h0, hl]
    subst hxy
    congr 1
    cases r with
    | nil =>
      cases s with
      | nil => rfl
      | cons z s =>
        exfalso
        have hz := hn.after z (by simp)
        have hzb := hbn z (by simp)
        have h0 := hv z.l (by omega) hzb
        rw [at_here hm (by omega) (fun n h => by cases h), at_skip hn (Int.le_refl _), at_here hn.tail (Int.le_refl _) (fun n h => hn.tail.after n (List.mem_of_mem_head? h))] at h0
        exact hn.diff 0 x z rfl rfl h0
    | cons u r =>
      have hu := hm.after u (by simp)
      have hub := hbm u (by simp)
      cases s with
      | nil =>
        exfalso
        have h0 := hv u.l (by omega) hub
        rw [at_here hn (by omega) (fun n h => by cases h), at_skip hm (Int.le_refl _), at_here hm.tail (Int.le_refl _) (fun n h => hm.tail.after n (List.mem_of_mem_head? h))] at h0
        exact hm.diff 0 x u rfl rfl h0.symm
      | cons z s =>
        have hz := hn.after z (by simp)
        have hzb := hbn z (by simp)
        have huz : u.l = z.l := by
          rcases Int.lt_trichotomy u.l z.l with h | h | h
          · exfalso
            have h0 := hv u.l (by omega) hub
            rw [at_here hn (by omega) (fun n hh => by cases hh; exact h), at_skip hm (Int.le_refl _), at_here hm.tail (Int.le_refl _) (fun n h => hm.tail.after n (List.mem_of_mem_head? h))] at h0
            exact hm.diff 0 x u rfl rfl h0.symm
          · exact h
          · exfalso
            have h0 := hv z.l (by omega) hzb
            rw [at_here hm (by omega) (fun n hh => by cases hh; exact h), at_skip hn (Int.le_refl _), at_here hn.tail (Int.le_refl _) (fun n h => hn.tail.after n (List.mem_of_mem_head? h))] at h0
            exact hn.diff 0 x z rfl rfl h0
        refine cn_same (u :: r) (z :: s) hm.tail hn.tail u z rfl rfl huz (fun t h1 h2 => ?_) (fun n hn => hbm n (by simp [hn])) (fun n hn => hbn n (by simp [hn]))
        have h0 := hv t (by omega) h2
        rw [at_skip hm h1, at_skip hn (by omega)] at h0
        exact h0
end Go.Proofs.Ytdmgcbagijiohaa

namespace Go.Proofs.Ytdmgcbagijiohaa
open Go.RowKit

theorem ins_self (t : Int) : ∀ xs : List Int, t ∈ insT t xs
  | [] => by simp [insT]
  | x :: r => by
    rw [insT]
    split
    · simp
    · exact List.mem_cons_of_mem _ (ins_self t r)
theorem ins_old (t y : Int) : ∀ xs : List Int, y ∈ xs → y ∈ insT t xs
  | [], h => by simp at h
  | x :: r, h => by
    rw [insT]
    split
    · by_cases e : y = t
      · subst e; simp
      · exact List.mem_cons_of_mem _ (List.mem_filter.2 ⟨h, by simpa using e⟩)
    · rcases List.mem_cons.1 h with rfl | h
      · simp
      · exact List.mem_cons_of_mem _ (ins_old t y r h)
theorem tms_f (ns : List Nd) (f u : Int) : f ∈ tmsL ns f u := ins_old _ _ _ (ins_self _ _)
theorem tms_u (ns : List Nd) (f u : Int) : u ∈ tmsL ns f u := ins_self _ _
theorem tms_n {ns : List Nd} (f u : Int) {n : Nd} (h : n ∈ ns) : n.l ∈ tmsL ns f u := ins_old _ _ _ (ins_old _ _ _ (List.mem_map.2 ⟨n, h, rfl⟩))

/-- The last of rising times that isn't later. -/
theorem fold_last {α : Type} (G : Int → α) {s : Int} : ∀ (ts : List Int) (o : α), Up ts → (∃ t ∈ ts, t ≤ s) → ∃ t ∈ ts, t ≤ s ∧ (∀ t' ∈ ts, t' ≤ s → t' ≤ t) ∧ ts.foldl (fun o t => if t ≤ s then G t else o) o = G t
  | [], _, _, ⟨_, h, _⟩ => by simp at h
  | x :: r, o, hu, hex => by
    have hx := (List.pairwise_cons.1 hu).1
    by_cases hr : ∃ t ∈ r, t ≤ s
    · obtain ⟨t, ht, hts, hmax, hf⟩ := fold_last G r (if x ≤ s then G x else o) (List.pairwise_cons.1 hu).2 hr
      refine ⟨t, List.mem_cons_of_mem _ ht, hts, fun t' h' hs' => ?_, hf⟩
      rcases List.mem_cons.1 h' with rfl | h'
      · have := hx t ht; omega
      · exact hmax t' h' hs'
    · have hall : ∀ t ∈ r, ¬ t ≤ s := fun t ht h => hr ⟨t, ht, h⟩
      have hxs : x ≤ s := by
        obtain ⟨t, ht, h⟩ := hex
        rcases List.mem_cons.1 ht with rfl | ht
        · exact h
        · exact absurd h (hall t ht)
      refine ⟨x, by simp, hxs, fun t' h' hs' => ?_, ?_⟩
      · rcases List.mem_cons.1 h' with rfl | h'
        · exact Int.le_refl _
        · exact absurd hs' (hall t' h')
      · rw [List.foldl_cons, if_pos hxs]
        clear hr hex hu hx
        induction r with
        | nil => rfl
        | cons y r ih =>
          rw [List.foldl_cons, if_neg (hall y (by simp))]
          exact ih (fun t ht => hall t (by simp [ht]))

theorem at_last {out : List Nd} {m : Nd} {s : Int} (hl : out.getLast? = some m) (h : ∀ n ∈ out, n.l ≤ s) : atL out s = m := by
  obtain ⟨r, rfl⟩ : ∃ r, out = r ++ [m] := by
    rw [List.getLast?_eq_some_iff] at hl
    exact hl
  unfold atL
  rw [List.foldl_append, List.foldl_cons, List.foldl_nil, if_pos (h m (by simp))]

theorem put_at {out : List Nd} {n : Nd} (h : ∀ m ∈ out, m.l < n.l) (s : Int) : val (atL (putN out n) s) = if n.l ≤ s then val n else val (atL out s) := by
  have happ : val (atL (out ++ [n]) s) = if n.l ≤ s then val n else val (atL out s) := by
    unfold atL
    rw [List.foldl_append, List.foldl_cons, List.foldl_nil]
    split <;> rfl
  unfold putN
  cases hl : out.getLast? with
  | none => exact happ
  | some m =>
    show val (atL (if sameV m n = true then out else out ++ [n]) s) = _
    by_cases hs : sameV m n = true
    · rw [if_pos hs]
      by_cases hn : n.l ≤ s
      · rw [if_pos hn, at_last hl (fun k hk => by have := h k hk; omega)]
        exact (same_val m n).1 hs
      · rw [if_neg hn]
    · rw [if_neg hs]
      exact happ

theorem put_mem {out : List Nd} {n m : Nd} (h : m ∈ putN out n) : m ∈ out ∨ m = n := by
  unfold putN at h
  split at h
  · split at h
    · exact .inl h
    · rcases List.mem_append.1 h with h | h
      · exact .inl h
      · exact .inr (List.mem_singleton.1 h)
  · rcases List.mem_append.1 h with h | h
    · exact .inl h
    · exact .inr (List.mem_singleton.1 h)

/-- What a change shows at one of its times. -/
def gv (g : Nd → Option Nd) (ns : List Nd) (f u t : Int) : Int × Int × Int := if f ≤ t ∧ t < u then ((g (atL ns t)).map val).getD (0, 0, 0) else val (atL ns t)

theorem ch_fold {g : Nd → Option Nd} {ns : List Nd} {f u : Int} (s : Int) : ∀ (ts : List Int) (out r : List Nd), Up ts → (∀ t ∈ ts, ∀ m ∈ out, m.l < t) → chTo g ns f u ts out = some r →
    val (atL r s) = ts.foldl (fun o t => if t ≤ s then gv g ns f u t else o) (val (atL out s))
  | [], out, r, _, _, h => by
    simp [chTo] at h
    subst h
    rfl
  | t :: ts, out, r, hu, hlt, h => by
    have hut := List.pairwise_cons.1 hu
    have step : ∀ m : Nd, gv g ns f u t = val m → chTo g ns f u ts (putN out ⟨t, m.a, m.b, m.c⟩) = some r → val (atL r s) = (t :: ts).foldl (fun o t => if t ≤ s then gv g ns f u t else o) (val (atL out s)) := fun m hm hr => by
      rw [ch_fold s ts _ r hut.2 (fun t' ht' k hk => by
        rcases put_mem hk with hk | rfl
        · have := hlt t (by simp) k hk
          have := hut.1 t' ht'
          omega
        · exact hut.1 t' ht') hr, List.foldl_cons, put_at (n := ⟨t, m.a, m.b, m.c⟩) (hlt t (by simp)) s, hm]
      rfl
    rw [chTo] at h
    by_cases hc : f ≤ t ∧ t < u
    · rw [if_pos hc] at h
      cases hgm : g (atL ns t) with
      | none => rw [hgm] at h; cases h
      | some m =>
        rw [hgm] at h
        exact step m (by rw [gv, if_pos hc, hgm]; rfl) h
    · rw [if_neg hc] at h
      exact step (atL ns t) (by rw [gv, if_neg hc]) h

theorem ch_all {g : Nd → Option Nd} {ns : List Nd} {f u : Int} : ∀ (ts : List Int) (out r : List Nd), chTo g ns f u ts out = some r → ∀ t ∈ ts, f ≤ t → t < u → ∃ m, g (atL ns t) = some m
  | [], _, _, _, t, ht, _, _ => by simp at ht
  | x :: ts, out, r, h, t, ht, h1, h2 => by
    rw [chTo] at h
    by_cases hc : f ≤ x ∧ x < u
    · rw [if_pos hc] at h
      cases hgm : g (atL ns x) with
      | none => rw [hgm] at h; cases h
      | some m =>
        rw [hgm] at h
        rcases List.mem_cons.1 ht with rfl | ht
        · exact ⟨m, hgm⟩
        · exact ch_all ts _ r h t ht h1 h2
    · rw [if_neg hc] at h
      rcases List.mem_cons.1 ht with rfl | ht
      · exact absurd ⟨h1, h2⟩ hc
      · exact ch_all ts _ r h t ht h1 h2
theorem ch_can {g : Nd → Option Nd} {ns : List Nd} {f u : Int} : ∀ (ts : List Int) (out : List Nd), (∀ t ∈ ts, f ≤ t → t < u → ∃ m, g (atL ns t) = some m) → ∃ r, chTo g ns f u ts out = some r
  | [], out, _ => ⟨out, rfl⟩
  | x :: ts, out, h => by
    rw [chTo]
    by_cases hc : f ≤ x ∧ x < u
    · rw [if_pos hc]
      obtain ⟨m, hm⟩ := h x (by simp) hc.1 hc.2
      rw [hm]
      exact ch_can ts _ (fun t ht => h t (by simp [ht]))
    · rw [if_neg hc]
      exact ch_can ts _ (fun t ht => h t (by simp [ht]))

/-- What a change shows at any time. -/
theorem ch_rep {g : Nd → Option Nd} {ns : List Nd} (hok : POk ns) {f u : Int} (_hs : spanB f u = true) {r : List Nd} (h : chTo g ns f u (tmsL ns f u) [] = some r) {s : Int} (h0 : 0 ≤ s) :
    val (atL r s) = gv g ns f u s ∧ (f ≤ s → s < u → ∃ m, g (atL ns s) = some m ∧ val (atL r s) = val m) := by
  have hup := tms_up hok.rising f u
  obtain ⟨n0, hn0, hl0⟩ := hok.head
  have hz : (0 : Int) ∈ tmsL ns f u := by have := tms_n f u (List.mem_of_getElem? hn0); rwa [hl0] at this
  obtain ⟨t, ht, hts, hmax, hf⟩ := fold_last (gv g ns f u) (s := s) (tmsL ns f u) (val (atL [] s)) hup ⟨0, hz, h0⟩
  have h1 := ch_fold s (tmsL ns f u) [] r hup (fun t _ m hm => by simp at hm) h
  rw [hf] at h1
  have hft : f ≤ s → f ≤ t := fun hh => hmax f (tms_f ns f u) hh
  have hut : u ≤ s → u ≤ t := fun hh => hmax u (tms_u ns f u) hh
  have hat : atL ns t = atL ns s := by
    obtain ⟨i, n, hst, hn, hat⟩ := hok.at_mem h0
    rw [hat]
    refine StepAt.at (s := i) ⟨n, hn, hmax n.l (tms_n f u (List.mem_of_getElem? hn)) (hst.le hn), fun k m hk hm => ?_⟩ hn
    obtain ⟨_, _, _, hlt⟩ := hst
    have := hlt k m hk hm
    omega
  have hg : gv g ns f u t = gv g ns f u s := by
    unfold gv
    rw [hat]
    by_cases hc : f ≤ s ∧ s < u
    · rw [if_pos hc, if_pos ⟨hft hc.1, by omega⟩]
    · rw [if_neg hc, if_neg (fun hc' => hc ⟨by omega, by
        rcases Int.lt_or_le s u with hh | hh
        · exact hh
        · have := hut hh; omega⟩)]
  refine ⟨h1.trans hg, fun hf1 hf2 => ?_⟩
  obtain ⟨m, hm⟩ := ch_all (tmsL ns f u) [] r h t ht (hft hf1) (by omega)
  rw [hat] at hm
  refine ⟨m, hm, ?_⟩
  rw [h1, hg, gv, if_pos ⟨hf1, hf2⟩, hm]
  rfl

/-- What is taken off is added again. -/
theorem ch_back {v m m' b : Nd} (h : chG false v m = some m') (hb : val b = val m') : ∃ c, chG true v b = some c ∧ val c = val m := by
  obtain ⟨l, a, b', c⟩ := b
  simp only [chG, Bool.false_eq_true, if_false] at h
  split at h
  · rename_i hc
    cases h
    simp only [val, Prod.mk.injEq] at hb
    obtain ⟨rfl, rfl, rfl⟩ := hb
    simp only [subB, Bool.and_eq_true] at hc
    refine ⟨⟨0, m.a - v.a + v.a, m.b - v.b + v.b, m.c - v.c + v.c⟩, ?_, by simp [val]⟩
    simp only [chG, if_true]
    rw [if_pos]
    simp only [addB, Bool.and_eq_true, Int.sub_add_cancel]
    exact ⟨⟨hc.2, hc.1.2⟩, hc.1.1⟩
  · cases h

theorem tk_some {add : Bool} {v : Nd} {ns r : List Nd} {f u : Int} (h : tkR add v ns f u = some r) : POk ns ∧ spanB f u = true ∧ chTo (chG add v) ns f u (tmsL ns f u) [] = some r ∧ POk r := by
  unfold tkR at h
  cases hk : minK ns f u with
  | false => rw [hk] at h; cases h
  | true =>
    rw [hk] at h
    obtain ⟨hok, hs⟩ := minK_iff hk
    have h' : chgR add v ns f u = some r := h
    unfold chgR at h'
    rw [Option.filter_eq_some_iff] at h'
    exact ⟨hok, hs, h'.1, (ch_ok (fun m m' _ hm => ch_vok add v m m' hm) hok hs h'.1).2 (by simpa using h'.2)⟩

theorem POk.head? {ns : List Nd} (h : POk ns) : ∃ n, ns.head? = some n ∧ n.l = 0 := by
  obtain ⟨n, hn, hl⟩ := h.head
  exact ⟨n, by rw [List.head?_eq_getElem?]; exact hn, hl⟩
theorem POk.in_time {ns : List Nd} (h : POk ns) : ∀ n ∈ ns, 0 ≤ n.l ∧ n.l ≤ 1000000000 := fun n hn => by
  obtain ⟨i, hi⟩ := List.getElem?_of_mem hn
  exact time_iff.1 (h.each i n hi).1

/-- What was taken and is given back leaves the profile as it was. -/
theorem tk_back {v : Nd} {ns r : List Nd} {f u : Int} (h : tkR false v ns f u = some r) : tkR true v r f u = some ns := by
  obtain ⟨hok, hs, hch, hr⟩ := tk_some h
  have hsp := span_iff.1 hs
  obtain ⟨r', hr'⟩ := ch_can (g := chG true v) (ns := r) (f := f) (u := u) (tmsL r f u) [] (fun t ht h1 h2 => by
    obtain ⟨m, hm, hv⟩ := (ch_rep hok hs hch (s := t) (by omega)).2 h1 h2
    obtain ⟨c, hc, _⟩ := ch_back hm hv
    exact ⟨c, hc⟩)
  have hnil : ∀ T, Gd [] T := fun T => ⟨fun n h => by simp at h, fun n h => by simp at h, fun i m n h => by simp at h⟩
  obtain ⟨hgd, hne⟩ := ch_gd (fun m m' _ hm => ch_vok true v m m' hm) hr f u (tmsL r f u) [] r' (tms_up hr.rising f u) (tms_time hr hs) (fun t _ => hnil t) (hnil _) (fun _ => tms_head hr hs) hr' (.inl (tms_ne r f u))
  have heq : r' = ns := by
    obtain ⟨n, hn, hnl⟩ := hok.head?
    cases hr0 : r' with
    | nil => exact absurd hr0 hne
    | cons x q =>
      rw [← hr0]
      have hx0 : x.l = 0 := hgd.head x (by rw [hr0]; rfl)
      refine cn_same r' ns hgd.cn hok.cn x n (by rw [hr0]; rfl) hn (by omega) (fun t h1 h2 => ?_) (fun y hy => (time_iff.1 (hgd.each y hy).1).2) (fun y hy => (hok.in_time y hy).2)
      have a1 := ch_rep hr hs hr' (s := t) (by omega)
      have a2 := ch_rep hok hs hch (s := t) (by omega)
      by_cases hc : f ≤ t ∧ t < u
      · obtain ⟨m, hm, hv⟩ := a2.2 hc.1 hc.2
        obtain ⟨c, hcc, hcv⟩ := ch_back hm hv
        obtain ⟨m2, hm2, hv2⟩ := a1.2 hc.1 hc.2
        rw [hcc] at hm2
        cases hm2
        rw [hv2, hcv]
      · rw [a1.1, gv, if_neg hc, a2.1, gv, if_neg hc]
  subst heq
  unfold tkR
  have hk : minK r f u = true := (minK_yes hr hs).1
  rw [hk]
  show chgR true v r f u = some r'
  rw [chgR, hr']
  simp [Option.filter, hok.few]

/-- At each time what was taken is missing, elsewhere nothing is. -/
theorem tk_at {v : Nd} {ns r : List Nd} {f u t : Int} (h : tkR false v ns f u = some r) (ht : 0 ≤ t) :
    (f ≤ t ∧ t < u → ∃ c, chG true v (atL r t) = some c ∧ val c = val (atL ns t)) ∧ (¬ (f ≤ t ∧ t < u) → val (atL r t) = val (atL ns t)) := by
  obtain ⟨hok, hs, hch, hr⟩ := tk_some h
  have a := ch_rep hok hs hch (s := t) ht
  refine ⟨fun hc => ?_, fun hc => ?_⟩
  · obtain ⟨m, hm, hv⟩ := a.2 hc.1 hc.2
    exact ch_back hm hv
  · rw [a.1, gv, if_neg hc]

theorem cutp_yes {ns : List Nd} (h : POk ns) {t : Int} (ht : timeB t = true) : cutR ns t = at0 ns t :: ns.filter (fun n => decide (t < n.l)) := by
  unfold cutR
  rw [if_pos ⟨h, ht⟩, lateTo, List.take_length]

theorem cut_pok {ns : List Nd} (h : POk ns) {t : Int} (ht : timeB t = true) : POk (cutR ns t) := by
  have ht0 := (time_iff.1 ht).1
  obtain ⟨s, n, hs, hn, hat⟩ := h.at_mem ht0
  have hd := late_all h.rising hs
  have hsl := (List.getElem?_eq_some_iff.1 hn).1
  have hfew := h.few
  have hr : cutR ns t = at0 ns t :: ns.drop (s + 1) := by
    unfold cutR
    rw [if_pos ⟨h, ht⟩, hd]
  rw [hr]
  refine ⟨by simp, by simp; omega, fun m hm => ?_, fun i m hm => ?_, fun i m k hm hk => ?_⟩
  · simp at hm
    rw [← hm]
    rfl
  · cases i with
    | zero =>
      simp at hm
      rw [← hm]
      exact ⟨by show timeB 0 = true; decide, h.at_ok ht0⟩
    | succ i =>
      simp only [List.getElem?_cons_succ, List.getElem?_drop] at hm
      exact h.each _ m hm
  · cases i with
    | zero =>
      simp only [List.getElem?_cons_zero, Option.some.injEq] at hm
      simp only [List.getElem?_cons_succ, List.getElem?_drop, Nat.add_zero] at hk
      have hst := h.step s n k hn hk
      rw [← hm]
      have hnt := time_iff.1 (h.each s n hn).1
      refine ⟨by show (0 : Int) < k.l; omega, ?_⟩
      have : sameV (at0 ns t) k = sameV n k := by rw [at0, hat]; rfl
      rw [this]
      exact hst.2
    | succ i =>
      simp only [List.getElem?_cons_succ, List.getElem?_drop] at hm hk
      exact h.step _ m k hm (by rw [show s + 1 + i + 1 = s + 1 + (i + 1) by omega]; exact hk)

theorem fold_filter {t y : Int} (hty : t ≤ y) : ∀ (ns : List Nd) (o : Nd), (ns.filter (fun n => decide (t < n.l))).foldl (fun o n => if n.l ≤ y then n else o) o = ns.foldl (fun o n => if n.l ≤ y then (if t < n.l then n else o) else o) o
  | [], _ => rfl
  | x :: r, o => by
    rw [List.filter_cons]
    by_cases h : t < x.l
    · rw [if_pos (by simpa using h), List.foldl_cons, List.foldl_cons, if_pos h]
      exact fold_filter hty r _
    · rw [if_neg (by simpa using h), List.foldl_cons, if_neg h]
      rw [show (if x.l ≤ y then o else o) = o by split <;> rfl]
      exact fold_filter hty r o

theorem cut_at {ns : List Nd} (h : POk ns) {t y : Int} (ht : timeB t = true) (hy : t ≤ y) : val (atL (cutR ns t) y) = val (atL ns y) := by
  have ht0 := (time_iff.1 ht).1
  have hc := cut_pok h ht
  obtain ⟨s, n, hs, hn, hat⟩ := h.at_mem ht0
  have hd := late_all h.rising hs
  have hr : cutR ns t = at0 ns t :: ns.drop (s + 1) := by
    unfold cutR
    rw [if_pos ⟨h, ht⟩, hd]
  obtain ⟨j, m, hj, hm, hatj⟩ := h.at_mem (t := y) (by omega)
  rw [hatj]
  have hjs : s ≤ j := by
    rcases Nat.lt_or_ge j s with hlt | hge
    · obtain ⟨_, _, _, hh⟩ := hj
      have := hh s n hlt hn
      have := hs.le hn
      omega
    · exact hge
  have hstep : ∀ k : Nat, (cutR ns t)[k + 1]? = ns[s + 1 + k]? := fun k => by rw [hr, List.getElem?_cons_succ, List.getElem?_drop]
  by_cases e : j = s
  · subst e
    rw [hn] at hm
    cases hm
    have h0 : (cutR ns t)[0]? = some (at0 ns t) := by rw [hr]; rfl
    have hst : StepAt (cutR ns t) y 0 := ⟨_, h0, by show (0 : Int) ≤ y; omega, fun k q hk hq => by
      obtain ⟨k', rfl⟩ : ∃ k', k = k' + 1 := ⟨k - 1, by omega⟩
      rw [hstep] at hq
      obtain ⟨_, _, _, hh⟩ := hj
      exact hh _ q (by omega) hq⟩
    rw [hst.at h0, at0, hat]
    rfl
  · obtain ⟨i, rfl⟩ : ∃ i, j = s + 1 + i := ⟨j - s - 1, by omega⟩
    have h0 : (cutR ns t)[i + 1]? = some m := by rw [hstep]; exact hm
    have hst : StepAt (cutR ns t) y (i + 1) := ⟨_, h0, hj.le hm, fun k q hk hq => by
      obtain ⟨k', rfl⟩ : ∃ k', k = k' + 1 := ⟨k - 1, by omega⟩
      rw [hstep] at hq
      obtain ⟨_, _, _, hh⟩ := hj
      exact hh _ q (by omega) hq⟩
    rw [hst.at h0]

theorem at_point {ns : List Nd} (h : POk ns) {i : Nat} {x : Nd} (hx : ns[i]? = some x) : atL ns x.l = x :=
  StepAt.at (s := i) ⟨x, hx, Int.le_refl _, fun _ _ hk hm => h.rising.mono hx hm hk⟩ hx

theorem cut_first {ns : List Nd} (h : POk ns) {t : Int} (ht : timeB t = true) : val (atL (cutR ns t) 0) = val (atL ns t) := by
  have hc := cut_pok h ht
  have h0 : (cutR ns t)[0]? = some (at0 ns t) := by rw [cutp_yes h ht]; rfl
  have := at_point hc h0
  rw [show (at0 ns t).l = 0 from rfl] at this
  rw [this]
  rfl

theorem cut_again {ns : List Nd} (h : POk ns) {t : Int} (ht : timeB t = true) : cutR (cutR ns t) t = cutR ns t := by
  have hc := cut_pok h ht
  have ht0 := (time_iff.1 ht).1
  have ha : at0 (cutR ns t) t = at0 ns t := by
    have := cut_at h ht (Int.le_refl t)
    simp only [val, Prod.mk.injEq] at this
    obtain ⟨h1, h2, h3⟩ := this
    unfold at0
    rw [h1, h2, h3]
  rw [cutp_yes hc ht, ha, cutp_yes h ht, List.filter_cons, if_neg (by rw [decide_eq_true_eq]; show ¬ t < (0 : Int); omega), List.filter_filter]
  simp
theorem cutp_no {ns : List Nd} {t : Int} (h : ¬ (POk ns ∧ timeB t = true)) : cutR ns t = [] := by
  unfold cutR
  rw [if_neg h]
theorem cut_less {ns : List Nd} (h : POk ns) {t : Int} (ht : timeB t = true) : (cutR ns t).length ≤ ns.length := by
  have ht0 := (time_iff.1 ht).1
  obtain ⟨s, n, hs, hn, hat⟩ := h.at_mem ht0
  have hd := late_all h.rising hs
  have hsl := (List.getElem?_eq_some_iff.1 hn).1
  have hr : cutR ns t = at0 ns t :: ns.drop (s + 1) := by
    unfold cutR
    rw [if_pos ⟨h, ht⟩, hd]
  rw [hr]
  simp
  omega
end Go.Proofs.Ytdmgcbagijiohaa

namespace Go.Proofs.Ytdmgcbagijiohaa
open Go.ChangeShapes Go.WideShapes Go.ChangeAt Go.RowKit

/-- One point, at 0. -/
def newR (a b c : Int) : List Nd := bif vokB a b c then [⟨0, a, b, c⟩] else []

set_option maxHeartbeats 1000000 in
theorem specProfNew_c (a b c : Int) (w : World) :
    Calls Try.prog 106 #[.agg #[.int .i64 a, .int .i64 b, .int .i64 c]] w (RetP w (newR a b c) (vokB a b c)) := by
  go_enter Try.func106, Try.ntmps106
  go_wp2_with fail
  generalize hV : (w.alloc (.cells #[.int .i64 a, .int .i64 b, .int .i64 c] 27)).alloc (.cells #[.slice none 0 0] 25) = V
  have HA : Hid (Row V w.heap.size [.int .i64 a, .int .i64 b, .int .i64 c]) := by subst hV; exact (row_fresh w [.int .i64 a, .int .i64 b, .int .i64 c] 27).below (low_alloc _ _)
  have HR : Hid (Row V (w.heap.size + 1) [.slice none 0 0]) := by
    subst hV
    have h := row_fresh (w.alloc (.cells #[.int .i64 a, .int .i64 b, .int .i64 c] 27)) [.slice none 0 0] 25
    rw [show (w.alloc (.cells #[.int .i64 a, .int .i64 b, .int .i64 c] 27)).heap.size = w.heap.size + 1 by simp [go_sem]] at h
    exact h
  have HV : Hid (Below w.heap.size w V) := by subst hV; show Below _ _ _; go_grown
  clear hV
  refine (specVecOk_c a b c _).mono ?_
  rintro e w1 ⟨rfl, hb⟩
  have HB1 : Hid (Below w.heap.size w w1) := below_then HV.out hb
  have a0 := (HA.out.below hb).cell 0 _ rfl
  have a1 := (HA.out.below hb).cell 1 _ rfl
  have a2 := (HA.out.below hb).cell 2 _ rfl
  have r0 := (HR.out.below hb).cell 0 _ rfl
  have f0 := (HR.out.below hb).free 0
  have hsz := (HR.out.below hb).lt
  clear hb HA HR
  cases hv : vokB a b c
  · have HN : Hid (newR a b c = []) := by show _ = _; rw [newR, hv]; rfl
    have Hv : Hid (vokB a b c = false) := hv
    clear hv
    go_wp2_with fail
    refine bodyPost_ret (v := .tuple #[.agg #[.slice none 0 0], .bool false]) (by simp [results, Try.results106, go_sem, *]) rfl ⟨_, by rw [Hv.out], ?_, HB1.out.setCell (by show w.heap.size ≤ w.heap.size + 1; omega) _⟩
    rw [HN.out]
    exact AnsP.none _ _ _ _ _
  · have HN : Hid (newR a b c = [⟨0, a, b, c⟩]) := by show _ = _; rw [newR, hv]; rfl
    have Hv : Hid (vokB a b c = true) := hv
    clear hv
    have hne : w.heap.size + 1 ≠ w1.heap.size := by omega
    go_wp2_with fail
    refine bodyPost_ret (v := .tuple #[.agg #[.slice (some ⟨w1.heap.size, 0, none⟩) 1 1], .bool true]) (by simp [results, Try.results106, go_sem, *]) rfl ⟨_, by rw [Hv.out], ?_, behind_alloc (HB1.out.setCell (by show w.heap.size ≤ w.heap.size + 1; omega) _) _⟩
    rw [HN.out]
    have hrow := row_fresh (w1.setCell ⟨w.heap.size + 1, 0, none⟩ (.slice (some ⟨w1.heap.size, 0, none⟩) 1 1)) [.int .i64 0, .int .i64 a, .int .i64 b, .int .i64 c] 80
    rw [World.size_setCell] at hrow
    exact AnsP.of_row (n := 1) rfl hrow HB1.out.size hrow.lt
end Go.Proofs.Ytdmgcbagijiohaa

namespace Go.Proofs.Ytdmgcbagijiohaa
open Go.ChangeShapes Go.WideShapes Go.ChangeAt Go.RowKit

/-- A code of n bytes can be read. -/
structure CodeIs (w : World) (a : Option Addr) (n : Nat) : Prop where
  small : n ≤ 1048576
  cell : ∀ i, i < n → ∃ p x, a = some p ∧ p.block < w.heap.size ∧ w.cell? (p.add i) = some (.int .u8 x) ∧ 0 ≤ x ∧ x < 256

theorem grown_refl (w : World) (r : Option Nat) : w.grownBy w r := ⟨rfl, rfl, rfl, Nat.le_refl _, fun _ _ _ => rfl⟩

theorem CodeIs.grown {w w' : World} {a : Option Addr} {n g : Nat} (h : CodeIs w a n) (hg : w.grownBy w' (some g)) (hne : ∀ p, a = some p → 0 < n → p.block ≠ g) : CodeIs w' a n :=
  ⟨h.small, fun i hi => by
    obtain ⟨p, x, ha, hp, hc, h0, h1⟩ := h.cell i hi
    refine ⟨p, x, ha, Nat.lt_of_lt_of_le hp hg.size, ?_, h0, h1⟩
    have hb : (p.add i).block = p.block := block_add p i
    rw [World.cell?_of_block (a := p.add i) (hg.block _ (by rw [hb]; exact hp) (by rw [hb]; intro e; exact hne p ha (by omega) (Option.some.inj e)))]
    exact hc⟩

theorem drewN_grown (w : World) (n : Nat) (r : Option Nat) : w.grownBy (w.drewN n) r := ⟨rfl, rfl, rfl, Nat.le_refl _, fun _ _ _ => rfl⟩

theorem drewN_low (w : World) (n : Nat) : Below w.heap.size w (w.drewN n) := ⟨rfl, rfl, rfl, Nat.le_refl _, fun _ _ => rfl⟩

/-- The cursor lies in block g, over the code. -/
def Cur (w : World) (g : Nat) (a : Option Addr) (n cap : Nat) : Prop :=
  ∃ (i : Nat) (h : Int), i ≤ n ∧ Row w g [.slice a n cap, .int .i64 i, .int .i64 h] ∧ CodeIs w a n ∧ ∀ p, a = some p → 0 < n → p.block ≠ g

theorem bits_and (m : Nat) (hm : m < 4294967296) (x : Int) : 0 ≤ bits .and .i64 x m ∧ bits .and .i64 x m ≤ m := by
  have h1 : (BitVec.ofInt 64 x &&& BitVec.ofInt 64 (m : Int)).toNat ≤ m := by
    rw [BitVec.toNat_and]
    have h2 : (BitVec.ofInt 64 (m : Int)).toNat = m := by rw [BitVec.toNat_ofInt]; omega
    rw [h2]
    exact Nat.and_le_right
  show 0 ≤ IntKind.i64.wrap ((BitVec.ofInt 64 x &&& BitVec.ofInt 64 (m : Int)).toNat : Int) ∧ IntKind.i64.wrap ((BitVec.ofInt 64 x &&& BitVec.ofInt 64 (m : Int)).toNat : Int) ≤ m
  generalize (BitVec.ofInt 64 x &&& BitVec.ofInt 64 (m : Int)).toNat = k at h1
  have h3 : IntKind.i64.wrap (k : Int) = k := by
    rw [IntKind.wrap_i64]
    omega
  omega

theorem bits255 (x : Int) : 0 ≤ bits .and .i64 x 255 ∧ bits .and .i64 x 255 < 256 := by
  have h := bits_and 255 (by decide) x
  exact ⟨h.1, Int.lt_of_le_of_lt h.2 (by decide)⟩

set_option maxHeartbeats 1000000 in
theorem l01Byte_c (g : Nat) (a : Option Addr) (n cap : Nat) (w : World) (h : Cur w g a n cap) :
    Calls Try.prog 67 #[.pointer (some ⟨g, 0, none⟩)] w fun e w' => ∃ x : Int, e = .returned (.int .i64 x) ∧ 0 ≤ x ∧ x < 256 ∧ w.grownBy w' (some g) ∧ Cur w' g a n cap := by
  obtain ⟨i, h, hi, hr, hcode, hne⟩ := h
  have HR : Hid (Row w g [.slice a n cap, .int .i64 i, .int .i64 h]) := hr
  have HC : Hid (CodeIs w a n) := hcode
  have HN : Hid (∀ p, a = some p → 0 < n → p.block ≠ g) := hne
  have hsm := hcode.small
  have c0 : w.cell? ⟨g, 0, none⟩ = some (.slice a n cap) := hr.cell 0 _ rfl
  have c1 : w.cell? ⟨g, 1, none⟩ = some (.int .i64 i) := hr.cell 1 _ rfl
  have c2 : w.cell? ⟨g, 2, none⟩ = some (.int .i64 h) := hr.cell 2 _ rfl
  have f2 : w.frozen? ⟨g, 2, none⟩ = false := hr.free 2
  clear hr hcode hne
  go_enter Try.func67, Try.ntmps67
  go_wp2_with fail
  generalize wrap64 (wrap64 (h * 6364136223846793005) + 1442695040888963407) = h'
  go_quiet (fail)
  have B1 := bits_and 255 (by decide) (bits BinOp.xor IntKind.i64 (h' / 8589934592) (h' / 35184372088832))
  generalize bits BinOp.and IntKind.i64 (bits BinOp.xor IntKind.i64 (h' / 8589934592) (h' / 35184372088832)) ((255 : Nat) : Int) = y at B1
  have HR1 : Hid (Row ((w.setCell ⟨g, 2, none⟩ (.int .i64 h')).drewN nq) g [.slice a n cap, .int .i64 i, .int .i64 h']) := (HR.out.set 2 (by simp) (.int .i64 h')).below (drewN_low _ _)
  have HG1 : Hid (w.grownBy ((w.setCell ⟨g, 2, none⟩ (.int .i64 h')).drewN nq) (some g)) := Lib.grownBy_trans (Lib.grownBy_setB (grown_refl _ _) _ _) (drewN_grown _ _ _)
  have HC1 : Hid (CodeIs ((w.setCell ⟨g, 2, none⟩ (.int .i64 h')).drewN nq) a n) := HC.out.grown HG1.out HN.out
  generalize (w.setCell ⟨g, 2, none⟩ (.int .i64 h')).drewN nq = W1 at HR1 HG1 HC1
  clear c0 c1 c2 f2 HR HC
  have c0 : W1.cell? ⟨g, 0, none⟩ = some (.slice a n cap) := HR1.out.cell 0 _ rfl
  have c1 : W1.cell? ⟨g, 1, none⟩ = some (.int .i64 i) := HR1.out.cell 1 _ rfl
  have f1 : W1.frozen? ⟨g, 1, none⟩ = false := HR1.out.free 1
  by_cases hlt : i < n
  · have hi1 : (i : Int) < (n : Int) := by omega
    have hi0 : (0 : Int) ≤ (i : Int) := by omega
    obtain ⟨p, x, rfl, hp, hx, hx0, hx1⟩ := HC1.out.cell i hlt
    go_wp2_with fail
    go_quiet (fail)
    go_wp2_with fail
    go_quiet (fail)
    go_wp2_with fail
    rename_i m1 m2
    have B2 := bits255 (y + x)
    have HS : Hid (Row ((W1.drewN (m2 + nq)).setCell ⟨g, 1, none⟩ (.int .i64 ((i + 1 : Nat) : Int))) g [.slice (some p) n cap, .int .i64 ((i + 1 : Nat) : Int), .int .i64 h']) := (HR1.out.below (drewN_low _ _)).set 1 (by simp) _
    have HG2 : Hid (w.grownBy ((W1.drewN (m2 + nq)).setCell ⟨g, 1, none⟩ (.int .i64 ((i + 1 : Nat) : Int))) (some g)) := Lib.grownBy_setB (Lib.grownBy_trans HG1.out (drewN_grown _ _ _)) _ _
    have HC2 : Hid (CodeIs ((W1.drewN (m2 + nq)).setCell ⟨g, 1, none⟩ (.int .i64 ((i + 1 : Nat) : Int))) (some p) n) := HC1.out.grown (Lib.grownBy_setB (drewN_grown _ _ _) _ _) HN.out
    go_ret
    exact ⟨_, rfl, B2.1, B2.2, HG2.out, i + 1, h', by omega, HS.out, HC2.out, HN.out⟩
  · have hi1 : ¬ (i : Int) < (n : Int) := by omega
    go_wp2_with fail
    go_quiet (fail)
    go_wp2_with fail
    go_ret
    exact ⟨_, rfl, B1.1, by omega, Lib.grownBy_trans HG1.out (drewN_grown _ _ _), i, h', hi, HR1.out.below (drewN_low _ _), HC1.out.grown (drewN_grown _ _ (some g)) HN.out, HN.out⟩
end Go.Proofs.Ytdmgcbagijiohaa

namespace Go.Proofs.Ytdmgcbagijiohaa
open Go.ChangeShapes Go.WideShapes Go.ChangeAt Go.RowKit

theorem grown_new {a w : World} {r : Option Nat} (h : a.grownBy w r) (b i : Nat) (hb : a.heap.size ≤ b) (v : Value) : a.grownBy (w.setCell ⟨b, i, none⟩ v) r := by
  have k := Lib.grownBy_setCell w b i v
  exact ⟨k.os.trans h.os, k.tape.trans h.tape, k.output.trans h.output, Nat.le_trans h.size k.size, fun j hj hne => (k.block j (Nat.lt_of_lt_of_le hj h.size) (by intro e; cases e; omega)).trans (h.block j hj hne)⟩

theorem CodeIs.below {w w' : World} {a : Option Addr} {n : Nat} (h : CodeIs w a n) (hb : Below w.heap.size w w') : CodeIs w' a n :=
  ⟨h.small, fun i hi => by
    obtain ⟨p, x, ha, hp, hc, h0, h1⟩ := h.cell i hi
    refine ⟨p, x, ha, Nat.lt_of_lt_of_le hp hb.size, ?_, h0, h1⟩
    rw [hb.cell (p := p.add i) (by rw [block_add]; exact hp)]
    exact hc⟩

theorem Cur.below {w w' : World} {g : Nat} {a : Option Addr} {n cap : Nat} (h : Cur w g a n cap) (hb : Below w.heap.size w w') : Cur w' g a n cap := by
  obtain ⟨i, v, hi, hr, hc, hn⟩ := h
  exact ⟨i, v, hi, hr.below hb, hc.below hb, hn⟩

/-- Another block has been written since. -/
theorem Cur.on {w W W' : World} {g b : Nat} {a : Option Addr} {n cap : Nat} (h0 : Cur w g a n cap) (hg : w.grownBy W' (some g)) (h1 : Cur W g a n cap) (h2 : W.grownBy W' (some b)) (hb : g ≠ b) : Cur W' g a n cap := by
  obtain ⟨_, _, _, _, hc, hn⟩ := h0
  obtain ⟨i, v, hi, hr, _, _⟩ := h1
  exact ⟨i, v, hi, hr.far h2 (by intro e; exact hb (Option.some.inj e)), hc.grown hg hn, hn⟩

theorem Cur.lt {w : World} {g : Nat} {a : Option Addr} {n cap : Nat} (h : Cur w g a n cap) : g < w.heap.size := by
  obtain ⟨_, _, _, hr, _⟩ := h
  exact hr.lt

/-- What has grown since w, the cursor's block alone written of what lay there, with the cursor in it. -/
def Tip (w W : World) (g : Nat) (a : Option Addr) (n cap : Nat) : Prop := w.grownBy W (some g) ∧ Cur W g a n cap

theorem Tip.set {w W : World} {g : Nat} {a : Option Addr} {n cap : Nat} (h0 : Cur w g a n cap) (t : Tip w W g a n cap) (b i : Nat) (hb : w.heap.size ≤ b) (v : Value) : Tip w (W.setCell ⟨b, i, none⟩ v) g a n cap :=
  ⟨grown_new t.1 b i hb v, Cur.on h0 (grown_new t.1 b i hb v) t.2 (Lib.grownBy_setCell W b i v) (by have := h0.lt; omega)⟩

theorem row_new (w : World) (xs : List Value) (t : TypeId) : Row (w.alloc (.cells xs.toArray t)) w.heap.size xs := by
  refine ⟨fun i u hu => ?_, fun i => ?_, by go_size⟩
  · rw [World.cell?_alloc_at _ _ _ _ rfl]
    simpa using hu
  · exact World.frozen?_alloc_at _ _ _ _ rfl

theorem mod_in {x m : Int} (hm : 0 < m) : 0 ≤ x % m ∧ x % m < m := ⟨Int.emod_nonneg _ (by omega), Int.emod_lt_of_pos _ hm⟩
theorem tmod_in {x m : Int} (hx : 0 ≤ x) (hm : 0 < m) : 0 ≤ x.tmod m ∧ x.tmod m < m := by
  rw [Int.tmod_eq_emod_of_nonneg hx]; exact mod_in hm

set_option maxHeartbeats 1000000 in
theorem l01Below_c (g : Nat) (a : Option Addr) (n cap : Nat) (m : Int) (hm : 0 < m) (hm' : m ≤ 4294967296) (w : World) (h : Cur w g a n cap) :
    Calls Try.prog 35 #[.pointer (some ⟨g, 0, none⟩), .int .i64 m] w fun e w' => ∃ x : Int, e = .returned (.int .i64 x) ∧ 0 ≤ x ∧ x < m ∧ w.grownBy w' (some g) ∧ Cur w' g a n cap := by
  have H : Hid (Cur w g a n cap) := h
  clear h
  by_cases hs : m ≤ 256
  · go_enter Try.func35, Try.ntmps35
    go_wp2_with fail
    refine (l01Byte_c g a n cap _ H.out).mono ?_
    rintro e w1 ⟨x, rfl, hx0, hx1, hg1, hc1⟩
    have HG1 : Hid (w.grownBy w1 (some g)) := hg1
    have HC1 : Hid (Cur w1 g a n cap) := hc1
    clear hg1 hc1
    go_wp2_with fail
    go_ret
    exact ⟨_, rfl, (by first | exact (mod_in hm).1 | exact (tmod_in hx0 hm).1), (by first | exact (mod_in hm).2 | exact (tmod_in hx0 hm).2), HG1.out, HC1.out⟩
  · go_enter Try.func35, Try.ntmps35
    go_wp2_with fail
    refine (l01Byte_c g a n cap _ H.out).mono ?_
    rintro e w1 ⟨x, rfl, hx0, hx1, hg1, hc1⟩
    have HG1 : Hid (w.grownBy w1 (some g)) := hg1
    have HC1 : Hid (Cur w1 g a n cap) := hc1
    clear hg1 hc1
    go_wp2_with fail
    refine (l01Byte_c g a n cap _ HC1.out).mono ?_
    rintro e w2 ⟨y, rfl, hy0, hy1, hg2, hc2⟩
    have HG2 : Hid (w.grownBy w2 (some g)) := Lib.grownBy_trans HG1.out hg2
    have HC2 : Hid (Cur w2 g a n cap) := hc2
    clear hg2 hc2 HG1 HC1
    go_wp2_with fail
    refine (l01Byte_c g a n cap _ HC2.out).mono ?_
    rintro e w3 ⟨z, rfl, hz0, hz1, hg3, hc3⟩
    have HG3 : Hid (w.grownBy w3 (some g)) := Lib.grownBy_trans HG2.out hg3
    have HC3 : Hid (Cur w3 g a n cap) := hc3
    clear hg3 hc3 HG2 HC2
    go_wp2_with fail
    refine (l01Byte_c g a n cap _ HC3.out).mono ?_
    rintro e w4 ⟨v, rfl, hv0, hv1, hg4, hc4⟩
    have HG4 : Hid (w.grownBy w4 (some g)) := Lib.grownBy_trans HG3.out hg4
    have HC4 : Hid (Cur w4 g a n cap) := hc4
    clear hg4 hc4 HG3 HC3
    go_wp2_with fail
    go_ret
    exact ⟨_, rfl, (by first | exact (mod_in hm).1 | exact (tmod_in (by omega) hm).1), (by first | exact (mod_in hm).2 | exact (tmod_in (by omega) hm).2), HG4.out, HC4.out⟩
end Go.Proofs.Ytdmgcbagijiohaa

namespace Go.Proofs.Ytdmgcbagijiohaa
open Go.ChangeShapes Go.WideShapes Go.ChangeAt Go.RowKit

set_option maxHeartbeats 1000000 in
theorem l01Raw_c (g : Nat) (a : Option Addr) (n cap : Nat) (w : World) (h : Cur w g a n cap) :
    Calls Try.prog 66 #[.pointer (some ⟨g, 0, none⟩)] w fun e w' => ∃ x : Int, e = .returned (.int .i64 x) ∧ w.grownBy w' (some g) ∧ Cur w' g a n cap := by
  have H : Hid (Cur w g a n cap) := h
  clear h
  go_enter Try.func66, Try.ntmps66
  go_wp2_with fail
  refine (l01Below_c g a n cap _ (by decide) (by decide) _ H.out).mono ?_
  rintro e w1 ⟨x, rfl, hx0, hx1, hg1, hc1⟩
  have HG1 : Hid (w.grownBy w1 (some g)) := hg1
  have HC1 : Hid (Cur w1 g a n cap) := hc1
  clear hg1 hc1
  by_cases h4 : x < 4
  · go_wp2_with fail
    refine (l01Below_c g a n cap _ (by decide) (by decide) _ HC1.out).mono ?_
    rintro e w2 ⟨y, rfl, hy0, hy1, hg2, hc2⟩
    have HG2 : Hid (w.grownBy w2 (some g)) := Lib.grownBy_trans HG1.out hg2
    have HC2 : Hid (Cur w2 g a n cap) := hc2
    clear hg2 hc2 HG1 HC1
    go_wp2_with fail
    go_ret
    exact ⟨_, rfl, HG2.out, HC2.out⟩
  · obtain rfl | rfl | rfl | rfl | rfl : x = 4 ∨ x = 5 ∨ x = 6 ∨ x = 7 ∨ x = 8 := by omega
    all_goals
      clear h4 hx0 hx1
      go_wp2_with fail
      refine (l01Below_c g a n cap _ (by decide) (by decide) _ HC1.out).mono ?_
      rintro e w2 ⟨y, rfl, hy0, hy1, hg2, hc2⟩
      have HG2 : Hid (w.grownBy w2 (some g)) := Lib.grownBy_trans HG1.out hg2
      have HC2 : Hid (Cur w2 g a n cap) := hc2
      clear hg2 hc2 HG1 HC1
      go_wp2_with fail
      go_ret
      exact ⟨_, rfl, HG2.out, HC2.out⟩

set_option maxHeartbeats 1000000 in
theorem l01Vec_c (g : Nat) (a : Option Addr) (n cap : Nat) (w : World) (h : Cur w g a n cap) :
    Calls Try.prog 68 #[.pointer (some ⟨g, 0, none⟩)] w fun e w' => ∃ x y z : Int, e = .returned (.agg #[.int .i64 x, .int .i64 y, .int .i64 z]) ∧ w.grownBy w' (some g) ∧ Cur w' g a n cap := by
  have H : Hid (Cur w g a n cap) := h
  have hlt := h.lt
  have hne : g ≠ w.heap.size := by omega
  clear h
  go_enter Try.func68, Try.ntmps68
  go_wp2_with fail
  have HV0 : Hid (Row (w.alloc (.cells #[.int .i64 0, .int .i64 0, .int .i64 0] 27)) w.heap.size [.int .i64 0, .int .i64 0, .int .i64 0]) := row_new w [.int .i64 0, .int .i64 0, .int .i64 0] 27
  have HG0 : Hid (w.grownBy (w.alloc (.cells #[.int .i64 0, .int .i64 0, .int .i64 0] 27)) (some g)) := World.grownBy_alloc w _ _
  have HC0 : Hid (Cur (w.alloc (.cells #[.int .i64 0, .int .i64 0, .int .i64 0] 27)) g a n cap) := H.out.below (by go_grown)
  generalize w.alloc (.cells #[.int .i64 0, .int .i64 0, .int .i64 0] 27) = w0 at HV0 HG0 HC0
  refine (l01Below_c g a n cap 9 (by decide) (by decide) _ HC0.out).mono ?_
  rintro e w1 ⟨x1, rfl, _, _, hg, hc⟩
  have HG1 : Hid (w.grownBy w1 (some g)) := Lib.grownBy_trans HG0.out hg
  have HV1 : Hid (Row w1 w.heap.size [.int .i64 0, .int .i64 0, .int .i64 0]) := HV0.out.far hg (by intro e; exact hne (Option.some.inj e).symm)
  have HC1 : Hid (Cur w1 g a n cap) := hc
  clear hg hc
  go_wp2_with fail
  refine (l01Below_c g a n cap 17 (by decide) (by decide) _ HC1.out).mono ?_
  rintro e w2 ⟨x2, rfl, _, _, hg, hc⟩
  have HG2 : Hid (w.grownBy w2 (some g)) := Lib.grownBy_trans HG1.out hg
  have HV2 : Hid (Row w2 w.heap.size [.int .i64 0, .int .i64 0, .int .i64 0]) := HV1.out.far hg (by intro e; exact hne (Option.some.inj e).symm)
  have HC2 : Hid (Cur w2 g a n cap) := hc
  clear hg hc
  go_wp2_with fail
  refine (l01Below_c g a n cap 3 (by decide) (by decide) _ HC2.out).mono ?_
  rintro e w3 ⟨x3, rfl, _, _, hg, hc⟩
  have HG3 : Hid (w.grownBy w3 (some g)) := Lib.grownBy_trans HG2.out hg
  have HV3 : Hid (Row w3 w.heap.size [.int .i64 0, .int .i64 0, .int .i64 0]) := HV2.out.far hg (by intro e; exact hne (Option.some.inj e).symm)
  have HC3 : Hid (Cur w3 g a n cap) := hc
  clear hg hc
  go_wp2_with fail
  have hq : w.heap.size < w3.heap.size := HV3.out.lt
  have HQ4 : Hid (Row (w3.alloc (.cells #[.int .i64 x1, .int .i64 x2, .int .i64 x3] 27)) w3.heap.size [.int .i64 x1, .int .i64 x2, .int .i64 x3]) := row_new w3 [.int .i64 x1, .int .i64 x2, .int .i64 x3] 27
  have HB4 : Hid (Below w3.heap.size w3 (w3.alloc (.cells #[.int .i64 x1, .int .i64 x2, .int .i64 x3] 27))) := (Below.refl _ _).alloc (Nat.le_refl _) _
  generalize w3.alloc (.cells #[.int .i64 x1, .int .i64 x2, .int .i64 x3] 27) = w4 at HQ4 HB4
  have HG4 : Hid (w.grownBy w4 (some g)) := Lib.grownBy_below HG3.out HB4.out
  have HV4 : Hid (Row w4 w.heap.size [.int .i64 0, .int .i64 0, .int .i64 0]) := HV3.out.below HB4.out
  have HC4 : Hid (Cur w4 g a n cap) := HC3.out.below HB4.out
  generalize w3.heap.size = q at hq HQ4 HB4
  clear HB4 HG3 HV3 HC3 HG2 HV2 HC2 HG1 HV1 HC1 HG0 HV0 HC0
  have hgq : g ≠ q := by omega
  refine (l01Below_c g a n cap 14 (by decide) (by decide) _ HC4.out).mono ?_
  rintro e w5 ⟨x5, rfl, h50, h51, hg, hc⟩
  have HG5 : Hid (w.grownBy w5 (some g)) := Lib.grownBy_trans HG4.out hg
  have HV5 : Hid (Row w5 w.heap.size [.int .i64 0, .int .i64 0, .int .i64 0]) := HV4.out.far hg (by intro e; exact hne (Option.some.inj e).symm)
  have HQ5 : Hid (Row w5 q [.int .i64 x1, .int .i64 x2, .int .i64 x3]) := HQ4.out.far hg (by intro e; exact hgq (Option.some.inj e).symm)
  have HC5 : Hid (Cur w5 g a n cap) := hc
  clear hg hc HG4 HV4 HQ4 HC4
  by_cases h5 : x5 = 0
  · subst h5
    go_wp2_with fail
    refine (l01Below_c g a n cap 2 (by decide) (by decide) _ HC5.out).mono ?_
    rintro e w6 ⟨x6, rfl, h60, h61, hg, hc⟩
    have HG6 : Hid (w.grownBy w6 (some g)) := Lib.grownBy_trans HG5.out hg
    have HV6 : Hid (Row w6 w.heap.size [.int .i64 0, .int .i64 0, .int .i64 0]) := HV5.out.far hg (by intro e; exact hne (Option.some.inj e).symm)
    have HQ6 : Hid (Row w6 q [.int .i64 x1, .int .i64 x2, .int .i64 x3]) := HQ5.out.far hg (by intro e; exact hgq (Option.some.inj e).symm)
    have HC6 : Hid (Cur w6 g a n cap) := hc
    clear hg hc HG5 HV5 HQ5 HC5
    have v0 := HV6.out.cell 0 _ rfl
    have v1 := HV6.out.cell 1 _ rfl
    have v2 := HV6.out.cell 2 _ rfl
    have fv0 := HV6.out.free 0
    have fv1 := HV6.out.free 1
    have fv2 := HV6.out.free 2
    have q0 := HQ6.out.cell 0 _ rfl
    have q1 := HQ6.out.cell 1 _ rfl
    have q2 := HQ6.out.cell 2 _ rfl
    have fq1 := HQ6.out.free 1
    have hvq : w.heap.size ≠ q := by omega
    have hqv : q ≠ w.heap.size := by omega
    go_wp2_with fail
    have T1 := Tip.set H.out ⟨HG6.out, HC6.out⟩ q 1 (by omega) (.int .i64 (1000000 - x6))
    have T2 := Tip.set H.out T1 w.heap.size 0 (Nat.le_refl _) (.int .i64 x1)
    have T3 := Tip.set H.out T2 w.heap.size 1 (Nat.le_refl _) (.int .i64 (1000000 - x6))
    have T4 := Tip.set H.out T3 w.heap.size 2 (Nat.le_refl _) (.int .i64 x3)
    exact bodyPost_ret (v := .agg #[.int .i64 x1, .int .i64 (1000000 - x6), .int .i64 x3]) (by simp [results, Try.results68, go_sem, *]) rfl ⟨_, _, _, rfl, T4.1, T4.2⟩
  · have h5b : (x5 == 0) = false := by simpa using h5
    have v0 := HV5.out.cell 0 _ rfl
    have v1 := HV5.out.cell 1 _ rfl
    have v2 := HV5.out.cell 2 _ rfl
    have fv0 := HV5.out.free 0
    have fv1 := HV5.out.free 1
    have fv2 := HV5.out.free 2
    have q0 := HQ5.out.cell 0 _ rfl
    have q1 := HQ5.out.cell 1 _ rfl
    have q2 := HQ5.out.cell 2 _ rfl
    have hvq : w.heap.size ≠ q := by omega
    have hqv : q ≠ w.heap.size := by omega
    go_wp2_with fail
    have T2 := Tip.set H.out ⟨HG5.out, HC5.out⟩ w.heap.size 0 (Nat.le_refl _) (.int .i64 x1)
    have T3 := Tip.set H.out T2 w.heap.size 1 (Nat.le_refl _) (.int .i64 x2)
    have T4 := Tip.set H.out T3 w.heap.size 2 (Nat.le_refl _) (.int .i64 x3)
    exact bodyPost_ret (v := .agg #[.int .i64 x1, .int .i64 x2, .int .i64 x3]) (by simp [results, Try.results68, go_sem, *]) rfl ⟨_, _, _, rfl, T4.1, T4.2⟩
end Go.Proofs.Ytdmgcbagijiohaa

namespace Go.Proofs.Ytdmgcbagijiohaa
open Go.ChangeShapes Go.WideShapes Go.ChangeAt Go.RowKit

set_option maxHeartbeats 2000000 in
theorem l01Any_c (g : Nat) (a : Option Addr) (n cap : Nat) (w : World) (h : Cur w g a n cap) :
    Calls Try.prog 36 #[.pointer (some ⟨g, 0, none⟩)] w fun e w' => ∃ x y z : Int, e = .returned (.agg #[.int .i64 x, .int .i64 y, .int .i64 z]) ∧ w.grownBy w' (some g) ∧ Cur w' g a n cap := by
  have H : Hid (Cur w g a n cap) := h
  have hlt := h.lt
  have hne : g ≠ w.heap.size := by omega
  clear h
  go_enter Try.func36, Try.ntmps36
  go_wp2_with fail
  have HV0 : Hid (Row (w.alloc (.cells #[.int .i64 0, .int .i64 0, .int .i64 0] 27)) w.heap.size [.int .i64 0, .int .i64 0, .int .i64 0]) := row_new w [.int .i64 0, .int .i64 0, .int .i64 0] 27
  have HG0 : Hid (w.grownBy (w.alloc (.cells #[.int .i64 0, .int .i64 0, .int .i64 0] 27)) (some g)) := World.grownBy_alloc w _ _
  have HC0 : Hid (Cur (w.alloc (.cells #[.int .i64 0, .int .i64 0, .int .i64 0] 27)) g a n cap) := H.out.below (by go_grown)
  generalize w.alloc (.cells #[.int .i64 0, .int .i64 0, .int .i64 0] 27) = w0 at HV0 HG0 HC0
  refine (l01Vec_c g a n cap _ HC0.out).mono ?_
  rintro e w3 ⟨x1, x2, x3, rfl, hg, hc⟩
  have HG3 : Hid (w.grownBy w3 (some g)) := Lib.grownBy_trans HG0.out hg
  have HV3 : Hid (Row w3 w.heap.size [.int .i64 0, .int .i64 0, .int .i64 0]) := HV0.out.far hg (by intro e; exact hne (Option.some.inj e).symm)
  have HC3 : Hid (Cur w3 g a n cap) := hc
  clear hg hc HG0 HV0 HC0
  go_wp2_with fail
  have hq : w.heap.size < w3.heap.size := HV3.out.lt
  have HQ4 : Hid (Row (w3.alloc (.cells #[.int .i64 x1, .int .i64 x2, .int .i64 x3] 27)) w3.heap.size [.int .i64 x1, .int .i64 x2, .int .i64 x3]) := row_new w3 [.int .i64 x1, .int .i64 x2, .int .i64 x3] 27
  have HB4 : Hid (Below w3.heap.size w3 (w3.alloc (.cells #[.int .i64 x1, .int .i64 x2, .int .i64 x3] 27))) := (Below.refl _ _).alloc (Nat.le_refl _) _
  generalize w3.alloc (.cells #[.int .i64 x1, .int .i64 x2, .int .i64 x3] 27) = w4 at HQ4 HB4
  have HG4 : Hid (w.grownBy w4 (some g)) := Lib.grownBy_below HG3.out HB4.out
  have HV4 : Hid (Row w4 w.heap.size [.int .i64 0, .int .i64 0, .int .i64 0]) := HV3.out.below HB4.out
  have HC4 : Hid (Cur w4 g a n cap) := HC3.out.below HB4.out
  generalize w3.heap.size = q at hq HQ4 HB4
  clear HB4 HG3 HV3 HC3
  have hgq : g ≠ q := by omega
  refine (l01Below_c g a n cap 12 (by decide) (by decide) _ HC4.out).mono ?_
  rintro e w5 ⟨x5, rfl, h50, h51, hg, hc⟩
  have HG5 : Hid (w.grownBy w5 (some g)) := Lib.grownBy_trans HG4.out hg
  have HV5 : Hid (Row w5 w.heap.size [.int .i64 0, .int .i64 0, .int .i64 0]) := HV4.out.far hg (by intro e; exact hne (Option.some.inj e).symm)
  have HQ5 : Hid (Row w5 q [.int .i64 x1, .int .i64 x2, .int .i64 x3]) := HQ4.out.far hg (by intro e; exact hgq (Option.some.inj e).symm)
  have HC5 : Hid (Cur w5 g a n cap) := hc
  clear hg hc HG4 HV4 HQ4 HC4
  have hvq : w.heap.size ≠ q := by omega
  have hqv : q ≠ w.heap.size := by omega
  rcases (by omega : x5 = 0 ∨ x5 = 1 ∨ x5 = 2 ∨ 2 < x5) with rfl | rfl | rfl | h5
  · clear h50 h51
    go_wp2_with fail
    refine (l01Raw_c g a n cap _ HC5.out).mono ?_
    rintro e w6 ⟨x6, rfl, hg, hc⟩
    have HG6 : Hid (w.grownBy w6 (some g)) := Lib.grownBy_trans HG5.out hg
    have HV6 : Hid (Row w6 w.heap.size [.int .i64 0, .int .i64 0, .int .i64 0]) := HV5.out.far hg (by intro e; exact hne (Option.some.inj e).symm)
    have HQ6 : Hid (Row w6 q [.int .i64 x1, .int .i64 x2, .int .i64 x3]) := HQ5.out.far hg (by intro e; exact hgq (Option.some.inj e).symm)
    have HC6 : Hid (Cur w6 g a n cap) := hc
    clear hg hc HG5 HV5 HQ5 HC5
    have v0 := HV6.out.cell 0 _ rfl
    have v1 := HV6.out.cell 1 _ rfl
    have v2 := HV6.out.cell 2 _ rfl
    have fv0 := HV6.out.free 0
    have fv1 := HV6.out.free 1
    have fv2 := HV6.out.free 2
    have q0 := HQ6.out.cell 0 _ rfl
    have q1 := HQ6.out.cell 1 _ rfl
    have q2 := HQ6.out.cell 2 _ rfl
    have fq := HQ6.out.free 0
    go_wp2_with fail
    have T1 := Tip.set H.out ⟨HG6.out, HC6.out⟩ q 0 (by omega) (.int .i64 x6)
    have T2 := Tip.set H.out T1 w.heap.size 0 (Nat.le_refl _) (.int .i64 x6)
    have T3 := Tip.set H.out T2 w.heap.size 1 (Nat.le_refl _) (.int .i64 x2)
    have T4 := Tip.set H.out T3 w.heap.size 2 (Nat.le_refl _) (.int .i64 x3)
    exact bodyPost_ret (v := .agg #[.int .i64 x6, .int .i64 x2, .int .i64 x3]) (by simp [results, Try.results36, go_sem, *]) rfl ⟨_, _, _, rfl, T4.1, T4.2⟩
  · clear h50 h51
    go_wp2_with fail
    refine (l01Raw_c g a n cap _ HC5.out).mono ?_
    rintro e w6 ⟨x6, rfl, hg, hc⟩
    have HG6 : Hid (w.grownBy w6 (some g)) := Lib.grownBy_trans HG5.out hg
    have HV6 : Hid (Row w6 w.heap.size [.int .i64 0, .int .i64 0, .int .i64 0]) := HV5.out.far hg (by intro e; exact hne (Option.some.inj e).symm)
    have HQ6 : Hid (Row w6 q [.int .i64 x1, .int .i64 x2, .int .i64 x3]) := HQ5.out.far hg (by intro e; exact hgq (Option.some.inj e).symm)
    have HC6 : Hid (Cur w6 g a n cap) := hc
    clear hg hc HG5 HV5 HQ5 HC5
    have v0 := HV6.out.cell 0 _ rfl
    have v1 := HV6.out.cell 1 _ rfl
    have v2 := HV6.out.cell 2 _ rfl
    have fv0 := HV6.out.free 0
    have fv1 := HV6.out.free 1
    have fv2 := HV6.out.free 2
    have q0 := HQ6.out.cell 0 _ rfl
    have q1 := HQ6.out.cell 1 _ rfl
    have q2 := HQ6.out.cell 2 _ rfl
    have fq := HQ6.out.free 1
    go_wp2_with fail
    have T1 := Tip.set H.out ⟨HG6.out, HC6.out⟩ q 1 (by omega) (.int .i64 x6)
    have T2 := Tip.set H.out T1 w.heap.size 0 (Nat.le_refl _) (.int .i64 x1)
    have T3 := Tip.set H.out T2 w.heap.size 1 (Nat.le_refl _) (.int .i64 x6)
    have T4 := Tip.set H.out T3 w.heap.size 2 (Nat.le_refl _) (.int .i64 x3)
    exact bodyPost_ret (v := .agg #[.int .i64 x1, .int .i64 x6, .int .i64 x3]) (by simp [results, Try.results36, go_sem, *]) rfl ⟨_, _, _, rfl, T4.1, T4.2⟩
  · clear h50 h51
    go_wp2_with fail
    refine (l01Raw_c g a n cap _ HC5.out).mono ?_
    rintro e w6 ⟨x6, rfl, hg, hc⟩
    have HG6 : Hid (w.grownBy w6 (some g)) := Lib.grownBy_trans HG5.out hg
    have HV6 : Hid (Row w6 w.heap.size [.int .i64 0, .int .i64 0, .int .i64 0]) := HV5.out.far hg (by intro e; exact hne (Option.some.inj e).symm)
    have HQ6 : Hid (Row w6 q [.int .i64 x1, .int .i64 x2, .int .i64 x3]) := HQ5.out.far hg (by intro e; exact hgq (Option.some.inj e).symm)
    have HC6 : Hid (Cur w6 g a n cap) := hc
    clear hg hc HG5 HV5 HQ5 HC5
    have v0 := HV6.out.cell 0 _ rfl
    have v1 := HV6.out.cell 1 _ rfl
    have v2 := HV6.out.cell 2 _ rfl
    have fv0 := HV6.out.free 0
    have fv1 := HV6.out.free 1
    have fv2 := HV6.out.free 2
    have q0 := HQ6.out.cell 0 _ rfl
    have q1 := HQ6.out.cell 1 _ rfl
    have q2 := HQ6.out.cell 2 _ rfl
    have fq := HQ6.out.free 2
    go_wp2_with fail
    have T1 := Tip.set H.out ⟨HG6.out, HC6.out⟩ q 2 (by omega) (.int .i64 x6)
    have T2 := Tip.set H.out T1 w.heap.size 0 (Nat.le_refl _) (.int .i64 x1)
    have T3 := Tip.set H.out T2 w.heap.size 1 (Nat.le_refl _) (.int .i64 x2)
    have T4 := Tip.set H.out T3 w.heap.size 2 (Nat.le_refl _) (.int .i64 x6)
    exact bodyPost_ret (v := .agg #[.int .i64 x1, .int .i64 x2, .int .i64 x6]) (by simp [results, Try.results36, go_sem, *]) rfl ⟨_, _, _, rfl, T4.1, T4.2⟩
  · have v0 := HV5.out.cell 0 _ rfl
    have v1 := HV5.out.cell 1 _ rfl
    have v2 := HV5.out.cell 2 _ rfl
    have fv0 := HV5.out.free 0
    have fv1 := HV5.out.free 1
    have fv2 := HV5.out.free 2
    have q0 := HQ5.out.cell 0 _ rfl
    have q1 := HQ5.out.cell 1 _ rfl
    have q2 := HQ5.out.cell 2 _ rfl
    have e0 : (x5 == 0) = false := by simp; omega
    have e1 : (x5 == 1) = false := by simp; omega
    have e2 : (x5 == 2) = false := by simp; omega
    go_wp2_with fail
    have T2 := Tip.set H.out ⟨HG5.out, HC5.out⟩ w.heap.size 0 (Nat.le_refl _) (.int .i64 x1)
    have T3 := Tip.set H.out T2 w.heap.size 1 (Nat.le_refl _) (.int .i64 x2)
    have T4 := Tip.set H.out T3 w.heap.size 2 (Nat.le_refl _) (.int .i64 x3)
    exact bodyPost_ret (v := .agg #[.int .i64 x1, .int .i64 x2, .int .i64 x3]) (by simp [results, Try.results36, go_sem, *]) rfl ⟨_, _, _, rfl, T4.1, T4.2⟩
end Go.Proofs.Ytdmgcbagijiohaa

namespace Go.Proofs.Ytdmgcbagijiohaa
open Go.ChangeShapes Go.WideShapes Go.ChangeAt Go.RowKit

/-- The cursor over a code, new. -/
theorem l01New_c (a : Option Addr) (n cap : Nat) (w : World) (h : CodeIs w a n) :
    Calls Try.prog 32 #[.slice a n cap] w fun e w' => ∃ g : Nat, e = .returned (.pointer (some ⟨g, 0, none⟩)) ∧ w.heap.size ≤ g ∧ Below w.heap.size w w' ∧ Cur w' g a n cap := by
  have H : Hid (CodeIs w a n) := h
  have hsm := h.small
  clear h
  go_enter Try.func32, Try.ntmps32
  go_wp2_with fail
  go_loopw [3, 4] (fun hv i wr => ∃ (j : Nat) (x : Int), j ≤ n ∧ i = .int .i64 j ∧ hv = .int .i64 x ∧ 0 ≤ x ∧ x < 2147483648 ∧ Below w.heap.size w wr) (fun _ i _ => n - (intOf i).toNat)
  case atStart => exact ⟨0, 958001 + n, Nat.zero_le _, rfl, rfl, by omega, by omega, Below.refl _ _⟩
  case round =>
    obtain ⟨j, x, hj, rfl, rfl, hx0, hx1, hb⟩ := hrel
    have HB : Hid (Below w.heap.size w wr) := hb
    clear hb
    have HC : Hid (CodeIs wr a n) := H.out.below HB.out
    have fin : ∀ t : TypeId, Hid (wr.heap.size ≥ w.heap.size ∧ Below w.heap.size w (wr.alloc (.cells #[.slice a n cap, .int .i64 0, .int .i64 x] t)) ∧ Cur (wr.alloc (.cells #[.slice a n cap, .int .i64 0, .int .i64 x] t)) wr.heap.size a n cap) := fun t =>
      ⟨HB.out.size, HB.out.alloc HB.out.size _, 0, x, Nat.zero_le _, row_new wr [.slice a n cap, .int .i64 0, .int .i64 x] t, HC.out.below ((Below.refl _ _).alloc (Nat.le_refl _) _), fun p ha hn => by
        obtain ⟨p', _, ha', hp', _⟩ := HC.out.cell 0 hn
        rw [ha] at ha'
        cases ha'
        omega⟩
    by_cases h1 : j < n
    · have hi1 : (j : Int) < (n : Int) := by omega
      have hi0 : (0 : Int) ≤ (j : Int) := by omega
      by_cases h2 : j < 4000
      · have hi2 : (j : Int) < 4000 := by omega
        obtain ⟨p, c, rfl, hp, hc, hc0, hc1⟩ := HC.out.cell j h1
        have B1 := bits_and 1073741823 (by decide) (x * 151 + c + 7)
        go_wp2_with fail
        go_roundw
        case rel => exact ⟨j + 1, _, by omega, by go_num, rfl, B1.1, Int.lt_of_le_of_lt B1.2 (by decide), HB.out⟩
        case measure => simp [intOf]; omega
      · have hi2 : ¬ (j : Int) < 4000 := by omega
        have F := fin 96
        go_wp2_with fail
        go_ret
        exact ⟨_, rfl, F.out.1, F.out.2.1, F.out.2.2⟩
    · have hi1 : ¬ (j : Int) < (n : Int) := by omega
      have F := fin 96
      go_wp2_with fail
      go_ret
      exact ⟨_, rfl, F.out.1, F.out.2.1, F.out.2.2⟩

theorem below_grown {w W W' : World} {g : Nat} (h : Below w.heap.size w W) (hg : W.grownBy W' (some g)) (hge : w.heap.size ≤ g) : Below w.heap.size w W' := h.grown hg h.size (fun q hq => by cases hq; exact hge)

theorem far_ne {w w' : World} {g b : Nat} {xs : List Value} (h : Row w b xs) (hg : w.grownBy w' (some g)) (hne : b < g) : Row w' b xs := h.far hg (by intro e; have := Option.some.inj e; omega)

end Go.Proofs.Ytdmgcbagijiohaa

namespace Go.Proofs.Ytdmgcbagijiohaa
open Go.ChangeShapes Go.WideShapes Go.ChangeAt Go.RowKit

/-- The block of a row that a slice owns. -/
theorem owns_block {W : World} {B g n cap size : Nat} {e : TypeId} {xs : List Value} (h : W.ownsRow B e size (.slice (some ⟨g, 0, none⟩) n cap) n xs) : (∃ cur, W.heap[g]? = some (.cells cur e (0, 0))) ∧ B ≤ g ∧ g < W.heap.size := by
  obtain ⟨_, h⟩ := h
  rcases h with ⟨h, _⟩ | ⟨g', cap', cur, hv, hB, hg, _⟩
  · cases h
  · cases hv
    exact ⟨⟨cur, hg⟩, hB, (Array.getElem?_eq_some_iff.1 hg).1⟩

/-- A box of two cells. -/
def Box2 (W : World) (B : Nat) (t : TypeId) (x y : Value) : Prop := W.heap[B]? = some (.cells #[x, y] t (0, 0))
theorem Box2.lt {W : World} {B : Nat} {t : TypeId} {x y : Value} (h : Box2 W B t x y) : B < W.heap.size := (Array.getElem?_eq_some_iff.1 h).1
theorem Box2.cell0 {W : World} {B : Nat} {t : TypeId} {x y : Value} (h : Box2 W B t x y) : W.cell? ⟨B, 0, none⟩ = some x := by simp [World.cell?, show W.heap[B]? = _ from h]
theorem Box2.cell1 {W : World} {B : Nat} {t : TypeId} {x y : Value} (h : Box2 W B t x y) : W.cell? ⟨B, 1, none⟩ = some y := by simp [World.cell?, show W.heap[B]? = _ from h]
theorem Box2.frozen {W : World} {B : Nat} {t : TypeId} {x y : Value} (h : Box2 W B t x y) (i : Nat) : W.frozen? ⟨B, i, none⟩ = false := by simp [World.frozen?, show W.heap[B]? = _ from h]
theorem Box2.kept {W W' : World} {row : Option Nat} {B : Nat} {t : TypeId} {x y : Value} (h : Box2 W B t x y) (hg : W.grownBy W' row) (hne : some B ≠ row) : Box2 W' B t x y := (hg.block B h.lt hne).trans h
theorem Box2.below {W W' : World} {B : Nat} {t : TypeId} {x y : Value} (h : Box2 W B t x y) (hb : Below W.heap.size W W') : Box2 W' B t x y := (hb.block B h.lt).trans h
theorem Box2.new (W : World) (t : TypeId) (x y : Value) : Box2 (W.alloc (.cells #[x, y] t)) W.heap.size t x y := World.alloc_heap_new W _
theorem Box2.set0 {W : World} {B : Nat} {t : TypeId} {x y : Value} (h : Box2 W B t x y) (v : Value) : Box2 (W.setCell ⟨B, 0, none⟩ v) B t v y := by
  unfold Box2 at h ⊢
  rw [Array.getElem?_eq_some_iff] at h ⊢
  obtain ⟨hl, h2⟩ := h
  exact ⟨by simp [World.setCell]; exact hl, by simp [World.setCell, Array.getElem_modify, h2]⟩
theorem Box2.set1 {W : World} {B : Nat} {t : TypeId} {x y : Value} (h : Box2 W B t x y) (v : Value) : Box2 (W.setCell ⟨B, 1, none⟩ v) B t x v := by
  unfold Box2 at h ⊢
  rw [Array.getElem?_eq_some_iff] at h ⊢
  obtain ⟨hl, h2⟩ := h
  exact ⟨by simp [World.setCell]; exact hl, by simp [World.setCell, Array.getElem_modify, h2]⟩
theorem Box2.ne {W : World} {B g : Nat} {t e : TypeId} {x y : Value} {cur : Array Value} (h : Box2 W B t x y) (hg : W.heap[g]? = some (.cells cur e (0, 0))) (hte : t ≠ e) : B ≠ g := fun he => by
  subst he
  rw [show W.heap[B]? = _ from h] at hg
  simp at hg
  exact hte hg.2

/-- A topology that is being drawn, in the box Bt; the cursor in g; what lay in w lies as it lay, but for the cursor. -/
structure Dw (w W : World) (g : Nat) (a : Option Addr) (n cap Bt gp cp : Nat) (ps : List Int) (vN : Value) (ns : List Nd) : Prop where
  cur0 : Cur w g a n cap
  cur : Cur W g a n cap
  box : Box2 W Bt 56 (.slice (some ⟨gp, 0, none⟩) ps.length cp) vN
  par : W.ownsRow w.heap.size 3 1 (.slice (some ⟨gp, 0, none⟩) ps.length cp) ps.length (ints ps)
  nod : W.ownsRow w.heap.size 118 4 vN ns.length (flat ns)
  res : Box2 W w.heap.size 56 (.slice none 0 0) (.slice none 0 0)
  grown : w.grownBy W (some g)
  low : g < w.heap.size
  high : w.heap.size < Bt
  ne : vN.ownBlock ≠ some Bt

theorem Dw.below {w W W' : World} {g : Nat} {a : Option Addr} {n cap Bt gp cp : Nat} {ps : List Int} {vN : Value} {ns : List Nd} (h : Dw w W g a n cap Bt gp cp ps vN ns) (hb : Below W.heap.size W W') : Dw w W' g a n cap Bt gp cp ps vN ns :=
  ⟨h.cur0, h.cur.below hb, h.box.below hb, owns_below h.par hb, owns_below h.nod hb, h.res.below hb, ⟨hb.os.trans h.grown.os, hb.tape.trans h.grown.tape, hb.output.trans h.grown.output, Nat.le_trans h.grown.size hb.size, fun i hi hne => (hb.block i (Nat.lt_of_lt_of_le hi h.grown.size)).trans (h.grown.block i hi hne)⟩, h.low, h.high, h.ne⟩

/-- Behind a draw. -/
theorem Dw.drawn {w W W' : World} {g : Nat} {a : Option Addr} {n cap Bt gp cp : Nat} {ps : List Int} {vN : Value} {ns : List Nd} (h : Dw w W g a n cap Bt gp cp ps vN ns) (hg : W.grownBy W' (some g)) (hc : Cur W' g a n cap) : Dw w W' g a n cap Bt gp cp ps vN ns := by
  have hl := h.low
  have hh := h.high
  obtain ⟨_, hp, _⟩ := owns_block h.par
  refine ⟨h.cur0, hc, h.box.kept hg (by intro e; have := Option.some.inj e; omega), h.par.kept hg (.inr (by intro e; simp [Value.ownBlock] at e; omega)), ?_, h.res.kept hg (by intro e; have := Option.some.inj e; omega), ⟨hg.os.trans h.grown.os, hg.tape.trans h.grown.tape, hg.output.trans h.grown.output, Nat.le_trans h.grown.size hg.size, fun i hi hne => (hg.block i (Nat.lt_of_lt_of_le hi h.grown.size) hne).trans (h.grown.block i hi hne)⟩, hl, hh, h.ne⟩
  refine h.nod.kept hg ?_
  cases hv : vN.ownBlock with
  | none => exact .inl rfl
  | some k =>
    refine .inr (fun e => ?_)
    have := (h.nod.lt k hv).1
    have := Option.some.inj e
    omega

theorem grown_then {w W W' : World} {g b : Nat} (h : w.grownBy W (some g)) (hg : W.grownBy W' (some b)) (hb : w.heap.size ≤ b) : w.grownBy W' (some g) :=
  ⟨hg.os.trans h.os, hg.tape.trans h.tape, hg.output.trans h.output, Nat.le_trans h.size hg.size, fun i hi hne => (hg.block i (Nat.lt_of_lt_of_le hi h.size) (by intro e; have := Option.some.inj e; omega)).trans (h.block i hi hne)⟩

/-- Rows of two types lie apart. -/
theorem owns_apart {W : World} {B n size gp : Nat} {e e' : TypeId} {v : Value} {xs : List Value} {cur : Array Value} (h : W.ownsRow B e size v n xs) (hg : W.heap[gp]? = some (.cells cur e' (0, 0))) (hne : e ≠ e') : v.ownBlock ≠ some gp := by
  obtain ⟨_, h⟩ := h
  rcases h with ⟨rfl, _⟩ | ⟨g, cap, c2, rfl, _, hg2, _⟩
  · simp [Value.ownBlock]
  · intro he
    simp [Value.ownBlock] at he
    subst he
    rw [hg2] at hg
    simp at hg
    exact hne hg.2

/-- One more parent: behind the append, and behind the store into the box. -/
theorem Dw.parent {w W w' : World} {g : Nat} {a : Option Addr} {n cap Bt gp cp gq cq : Nat} {ps : List Int} {vN : Value} {ns : List Nd} (h : Dw w W g a n cap Bt gp cp ps vN ns) (s : Int)
    (hown : w'.ownsRow w.heap.size 3 1 (.slice (some ⟨gq, 0, none⟩) (ps.length + 1) cq) (ps.length + 1) (ints ps ++ [.int .i64 s])) (hg : W.grownBy w' (some gp)) (hat : gp = gq ∨ gq = W.heap.size) :
    Box2 w' Bt 56 (.slice (some ⟨gp, 0, none⟩) ps.length cp) vN ∧ Dw w (w'.setCell ⟨Bt, 0, none⟩ (.slice (some ⟨gq, 0, none⟩) (ps.length + 1) cq)) g a n cap Bt gq cq (ps ++ [s]) vN ns ∧
      (∀ b xs, Row W b xs → b ≠ gp → b ≠ Bt → Row (w'.setCell ⟨Bt, 0, none⟩ (.slice (some ⟨gq, 0, none⟩) (ps.length + 1) cq)) b xs) := by
  obtain ⟨⟨cur, hcur⟩, hpl, hpt⟩ := owns_block h.par
  have hBne : Bt ≠ gp := h.box.ne hcur (by decide)
  have hRne : w.heap.size ≠ gp := h.res.ne hcur (by decide)
  have hlt := h.box.lt
  have hqB : gq ≠ Bt := by rcases hat with e | e <;> omega
  have hl := h.low
  have hh := h.high
  have b1 : Box2 w' Bt 56 (.slice (some ⟨gp, 0, none⟩) ps.length cp) vN := h.box.kept hg (by intro e; exact hBne (Option.some.inj e))
  have hs := Lib.grownBy_setCell w' Bt 0 (.slice (some ⟨gq, 0, none⟩) (ps.length + 1) cq)
  have g1 : w.grownBy w' (some g) := grown_then h.grown hg hpl
  have c1 : Cur w' g a n cap := Cur.on h.cur0 g1 h.cur hg (by omega)
  have g2 := grown_then g1 hs (by omega : w.heap.size ≤ Bt)
  refine ⟨b1, ⟨h.cur0, Cur.on h.cur0 g2 c1 hs (by omega), ?_, ?_, ?_, (h.res.kept hg (by intro e; exact hRne (Option.some.inj e))).kept hs (by intro e; have := Option.some.inj e; omega), g2, hl, hh, h.ne⟩, fun b xs hr h1 h2 => (hr.far hg (by intro e; exact h1 (Option.some.inj e))).far hs (by intro e; exact h2 (Option.some.inj e))⟩
  · have := b1.set0 (.slice (some ⟨gq, 0, none⟩) (ps.length + 1) cq)
    simpa using this
  · have hi : ints (ps ++ [s]) = ints ps ++ [.int .i64 s] := by simp [ints]
    rw [hi, List.length_append, List.length_singleton]
    exact hown.kept hs (.inr (by intro e; simp [Value.ownBlock] at e; exact hqB e))
  · exact (h.nod.kept hg (.inr (owns_apart h.nod hcur (by decide)))).kept hs (.inr h.ne)

/-- Behind a change of another block. -/
theorem Dw.other {w W W' : World} {g b : Nat} {a : Option Addr} {n cap Bt gp cp : Nat} {ps : List Int} {vN : Value} {ns : List Nd} (h : Dw w W g a n cap Bt gp cp ps vN ns) (hg : W.grownBy W' (some b)) (hb : w.heap.size < b) (h1 : b ≠ gp) (h2 : b ≠ Bt) (h3 : vN.ownBlock ≠ some b) : Dw w W' g a n cap Bt gp cp ps vN ns := by
  have hl := h.low
  have g1 : w.grownBy W' (some g) := grown_then h.grown hg (by omega)
  exact ⟨h.cur0, Cur.on h.cur0 g1 h.cur hg (by omega), h.box.kept hg (by intro e; exact h2 (Option.some.inj e).symm), h.par.kept hg (.inr (by intro e; simp [Value.ownBlock] at e; exact h1 e.symm)), h.nod.kept hg (.inr h3), h.res.kept hg (by intro e; have := Option.some.inj e; omega), g1, hl, h.high, h.ne⟩

theorem grown_opt {w W W' : World} {g : Nat} {row : Option Nat} (h : w.grownBy W (some g)) (hg : W.grownBy W' row) (hb : ∀ b, row = some b → w.heap.size ≤ b) : w.grownBy W' (some g) :=
  ⟨hg.os.trans h.os, hg.tape.trans h.tape, hg.output.trans h.output, Nat.le_trans h.size hg.size, fun i hi hne => (hg.block i (Nat.lt_of_lt_of_le hi h.size) (by intro e; have := hb i e.symm; omega)).trans (h.block i hi hne)⟩

/-- One more node: behind the append, and behind the store into the box. -/
theorem Dw.node {w W w' : World} {g : Nat} {a : Option Addr} {n cap Bt gp cp gq cq : Nat} {ps : List Int} {vN : Value} {ns : List Nd} (h : Dw w W g a n cap Bt gp cp ps vN ns) (nd : Nd)
    (hown : w'.ownsRow w.heap.size 118 4 (.slice (some ⟨gq, 0, none⟩) (ns.length + 1) cq) (ns.length + 1) (flat ns ++ nd.cells)) (hg : W.grownBy w' vN.ownBlock) (hat : vN.ownBlock = some gq ∨ gq = W.heap.size) :
    Box2 w' Bt 56 (.slice (some ⟨gp, 0, none⟩) ps.length cp) vN ∧ Dw w (w'.setCell ⟨Bt, 1, none⟩ (.slice (some ⟨gq, 0, none⟩) (ns.length + 1) cq)) g a n cap Bt gp cp ps (.slice (some ⟨gq, 0, none⟩) (ns.length + 1) cq) (ns ++ [nd]) ∧
      (∀ b xs cur, Row W b xs → W.heap[b]? = some (.cells cur 3 (0, 0)) → b ≠ Bt → Row (w'.setCell ⟨Bt, 1, none⟩ (.slice (some ⟨gq, 0, none⟩) (ns.length + 1) cq)) b xs ∧ (w'.setCell ⟨Bt, 1, none⟩ (.slice (some ⟨gq, 0, none⟩) (ns.length + 1) cq)).heap[b]? = some (.cells cur 3 (0, 0))) := by
  obtain ⟨⟨cur, hcur⟩, hpl, hpt⟩ := owns_block h.par
  have hlt := h.box.lt
  have hl := h.low
  have hh := h.high
  have hne := h.ne
  have hpn : vN.ownBlock ≠ some gp := owns_apart h.nod hcur (by decide)
  have hrn : ∀ b, vN.ownBlock = some b → w.heap.size ≤ b := fun b e => (h.nod.lt b e).1
  have hresn : some w.heap.size ≠ vN.ownBlock := fun e => owns_apart h.nod (gp := w.heap.size) h.res (by decide) e.symm
  have hqB : gq ≠ Bt := by
    rcases hat with e | e
    · intro e2; subst e2; exact hne e
    · omega
  have b1 : Box2 w' Bt 56 (.slice (some ⟨gp, 0, none⟩) ps.length cp) vN := h.box.kept hg (fun e => hne e.symm)
  have hs := Lib.grownBy_setCell w' Bt 1 (.slice (some ⟨gq, 0, none⟩) (ns.length + 1) cq)
  have g1 : w.grownBy w' (some g) := grown_opt h.grown hg hrn
  have c1 : Cur w' g a n cap := by
    cases hv : vN.ownBlock with
    | none => rw [hv] at hg; exact Cur.on (b := W.heap.size) h.cur0 g1 h.cur ⟨hg.os, hg.tape, hg.output, hg.size, fun i hi _ => hg.block i hi (by simp)⟩ (by have := h.grown.size; omega)
    | some k => rw [hv] at hg; exact Cur.on h.cur0 g1 h.cur hg (by have := hrn k hv; omega)
  have g2 := grown_then g1 hs (by omega : w.heap.size ≤ Bt)
  refine ⟨b1, ⟨h.cur0, Cur.on h.cur0 g2 c1 hs (by omega), b1.set1 _, ?_, ?_, (h.res.kept hg hresn).kept hs (by intro e; have := Option.some.inj e; omega), g2, hl, hh, by simp [Value.ownBlock]; exact hqB⟩, fun b xs cu hr hb h2 => ?_⟩
  · exact (h.par.kept hg (.inr (fun e => hpn (by rw [← e]; rfl)))).kept hs (.inr (by intro e; simp [Value.ownBlock] at e; exact h.box.ne hcur (by decide) e.symm))
  · have hi : flat (ns ++ [nd]) = flat ns ++ nd.cells := by simp [flat]
    rw [hi, List.length_append, List.length_singleton]
    exact hown.kept hs (.inr (by intro e; simp [Value.ownBlock] at e; exact hqB e))
  · have hbn : some b ≠ vN.ownBlock := fun e => owns_apart h.nod hb (by decide) e.symm
    have hbl := hr.lt
    refine ⟨(hr.far hg hbn).far hs (by intro e; exact h2 (Option.some.inj e)), ?_⟩
    rw [hs.block b (Nat.lt_of_lt_of_le hbl hg.size) (by intro e; exact h2 (Option.some.inj e)), hg.block b hbl hbn]
    exact hb

/-- What was drawn, laid into the result's box. -/
theorem Dw.done {w W : World} {g : Nat} {a : Option Addr} {n cap Bt gp cp : Nat} {ps : List Int} {vN : Value} {ns : List Nd} (h : Dw w W g a n cap Bt gp cp ps vN ns) :
    let F := (W.setCell ⟨w.heap.size, 0, none⟩ (.slice (some ⟨gp, 0, none⟩) ps.length cp)).setCell ⟨w.heap.size, 1, none⟩ vN
    Box2 F w.heap.size 56 (.slice (some ⟨gp, 0, none⟩) ps.length cp) vN ∧ F.ownsRow w.heap.size 3 1 (.slice (some ⟨gp, 0, none⟩) ps.length cp) ps.length (ints ps) ∧ F.ownsRow w.heap.size 118 4 vN ns.length (flat ns) ∧ Cur F g a n cap ∧ w.grownBy F (some g) := by
  intro F
  obtain ⟨⟨cur, hcur⟩, hpl, hpt⟩ := owns_block h.par
  have hl := h.low
  have hRne : w.heap.size ≠ gp := h.res.ne hcur (by decide)
  have hresn : vN.ownBlock ≠ some w.heap.size := owns_apart h.nod (gp := w.heap.size) h.res (by decide)
  have s1 := Lib.grownBy_setCell W w.heap.size 0 (.slice (some ⟨gp, 0, none⟩) ps.length cp)
  have s2 := Lib.grownBy_setCell (W.setCell ⟨w.heap.size, 0, none⟩ (.slice (some ⟨gp, 0, none⟩) ps.length cp)) w.heap.size 1 vN
  have g1 := grown_then h.grown s1 (Nat.le_refl _)
  have g2 := grown_then g1 s2 (Nat.le_refl _)
  have c1 := Cur.on h.cur0 g1 h.cur s1 (by omega)
  have hpn : (Value.slice (some ⟨gp, 0, none⟩) ps.length cp).ownBlock ≠ some w.heap.size := by intro e; simp [Value.ownBlock] at e; exact hRne e.symm
  exact ⟨(h.res.set0 _).set1 _, (h.par.kept s1 (.inr hpn)).kept s2 (.inr hpn), (h.nod.kept s1 (.inr hresn)).kept s2 (.inr hresn), Cur.on h.cur0 g2 c1 s2 (by omega), g2⟩
end Go.Proofs.Ytdmgcbagijiohaa
