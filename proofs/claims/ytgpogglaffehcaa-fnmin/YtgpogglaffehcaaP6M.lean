/- What a change shows at each time; given back; cut: lists. -/
import Derived.Test.YtgpogglaffehcaaP6L
namespace Go.Proofs.Ytgpogglaffehcaa
open Go.RowKit

theorem ins_self (t : Int) : ∀ xs : List Int, t ∈ insT t xs
  | [] => by simp [insT]
  | x :: r => by
    rw [insT]
    split
    · simp
    · exact List.mem_cons_of_mem _ (ins_self t r)
theorem ins_old (t y : Int) : ∀ xs : List Int, y ∈ xs → y ∈ insT t xs
  | [], h => by simp at h
  | x :: r, h => by
    rw [insT]
    split
    · by_cases e : y = t
      · subst e; simp
      · exact List.mem_cons_of_mem _ (List.mem_filter.2 ⟨h, by simpa using e⟩)
    · rcases List.mem_cons.1 h with rfl | h
      · simp
      · exact List.mem_cons_of_mem _ (ins_old t y r h)
theorem tms_f (ns : List Nd) (f u : Int) : f ∈ tmsL ns f u := ins_old _ _ _ (ins_self _ _)
theorem tms_u (ns : List Nd) (f u : Int) : u ∈ tmsL ns f u := ins_self _ _
theorem tms_n {ns : List Nd} (f u : Int) {n : Nd} (h : n ∈ ns) : n.l ∈ tmsL ns f u := ins_old _ _ _ (ins_old _ _ _ (List.mem_map.2 ⟨n, h, rfl⟩))

/-- The last of rising times that isn't later. -/
theorem fold_last {α : Type} (G : Int → α) {s : Int} : ∀ (ts : List Int) (o : α), Up ts → (∃ t ∈ ts, t ≤ s) → ∃ t ∈ ts, t ≤ s ∧ (∀ t' ∈ ts, t' ≤ s → t' ≤ t) ∧ ts.foldl (fun o t => if t ≤ s then G t else o) o = G t
  | [], _, _, ⟨_, h, _⟩ => by simp at h
  | x :: r, o, hu, hex => by
    have hx := (List.pairwise_cons.1 hu).1
    by_cases hr : ∃ t ∈ r, t ≤ s
    · obtain ⟨t, ht, hts, hmax, hf⟩ := fold_last G r (if x ≤ s then G x else o) (List.pairwise_cons.1 hu).2 hr
      refine ⟨t, List.mem_cons_of_mem _ ht, hts, fun t' h' hs' => ?_, hf⟩
      rcases List.mem_cons.1 h' with rfl | h'
      · have := hx t ht; omega
      · exact hmax t' h' hs'
    · have hall : ∀ t ∈ r, ¬ t ≤ s := fun t ht h => hr ⟨t, ht, h⟩
      have hxs : x ≤ s := by
        obtain ⟨t, ht, h⟩ := hex
        rcases List.mem_cons.1 ht with rfl | ht
        · exact h
        · exact absurd h (hall t ht)
      refine ⟨x, by simp, hxs, fun t' h' hs' => ?_, ?_⟩
      · rcases List.mem_cons.1 h' with rfl | h'
        · exact Int.le_refl _
        · exact absurd hs' (hall t' h')
      · rw [List.foldl_cons, if_pos hxs]
        clear hr hex hu hx
        induction r with
        | nil => rfl
        | cons y r ih =>
          rw [List.foldl_cons, if_neg (hall y (by simp))]
          exact ih (fun t ht => hall t (by simp [ht]))

theorem at_last {out : List Nd} {m : Nd} {s : Int} (hl : out.getLast? = some m) (h : ∀ n ∈ out, n.l ≤ s) : atL out s = m := by
  obtain ⟨r, rfl⟩ : ∃ r, out = r ++ [m] := by
    rw [List.getLast?_eq_some_iff] at hl
    exact hl
  unfold atL
  rw [List.foldl_append, List.foldl_cons, List.foldl_nil, if_pos (h m (by simp))]

theorem put_at {out : List Nd} {n : Nd} (h : ∀ m ∈ out, m.l < n.l) (s : Int) : val (atL (putN out n) s) = if n.l ≤ s then val n else val (atL out s) := by
  have happ : val (atL (out ++ [n]) s) = if n.l ≤ s then val n else val (atL out s) := by
    unfold atL
    rw [List.foldl_append, List.foldl_cons, List.foldl_nil]
    split <;> rfl
  unfold putN
  cases hl : out.getLast? with
  | none => exact happ
  | some m =>
    show val (atL (if sameV m n = true then out else out ++ [n]) s) = _
    by_cases hs : sameV m n = true
    · rw [if_pos hs]
      by_cases hn : n.l ≤ s
      · rw [if_pos hn, at_last hl (fun k hk => by have := h k hk; omega)]
        exact (same_val m n).1 hs
      · rw [if_neg hn]
    · rw [if_neg hs]
      exact happ

theorem put_mem {out : List Nd} {n m : Nd} (h : m ∈ putN out n) : m ∈ out ∨ m = n := by
  unfold putN at h
  split at h
  · split at h
    · exact .inl h
    · rcases List.mem_append.1 h with h | h
      · exact .inl h
      · exact .inr (List.mem_singleton.1 h)
  · rcases List.mem_append.1 h with h | h
    · exact .inl h
    · exact .inr (List.mem_singleton.1 h)

/-- What a change shows at one of its times. -/
def gv (g : Nd → Option Nd) (ns : List Nd) (f u t : Int) : Int × Int × Int := if f ≤ t ∧ t < u then ((g (atL ns t)).map val).getD (0, 0, 0) else val (atL ns t)

theorem ch_fold {g : Nd → Option Nd} {ns : List Nd} {f u : Int} (s : Int) : ∀ (ts : List Int) (out r : List Nd), Up ts → (∀ t ∈ ts, ∀ m ∈ out, m.l < t) → chTo g ns f u ts out = some r →
    val (atL r s) = ts.foldl (fun o t => if t ≤ s then gv g ns f u t else o) (val (atL out s))
  | [], out, r, _, _, h => by
    simp [chTo] at h
    subst h
    rfl
  | t :: ts, out, r, hu, hlt, h => by
    have hut := List.pairwise_cons.1 hu
    have step : ∀ m : Nd, gv g ns f u t = val m → chTo g ns f u ts (putN out ⟨t, m.a, m.b, m.c⟩) = some r → val (atL r s) = (t :: ts).foldl (fun o t => if t ≤ s then gv g ns f u t else o) (val (atL out s)) := fun m hm hr => by
      rw [ch_fold s ts _ r hut.2 (fun t' ht' k hk => by
        rcases put_mem hk with hk | rfl
        · have := hlt t (by simp) k hk
          have := hut.1 t' ht'
          omega
        · exact hut.1 t' ht') hr, List.foldl_cons, put_at (n := ⟨t, m.a, m.b, m.c⟩) (hlt t (by simp)) s, hm]
      rfl
    rw [chTo] at h
    by_cases hc : f ≤ t ∧ t < u
    · rw [if_pos hc] at h
      cases hgm : g (atL ns t) with
      | none => rw [hgm] at h; cases h
      | some m =>
        rw [hgm] at h
        exact step m (by rw [gv, if_pos hc, hgm]; rfl) h
    · rw [if_neg hc] at h
      exact step (atL ns t) (by rw [gv, if_neg hc]) h

theorem ch_all {g : Nd → Option Nd} {ns : List Nd} {f u : Int} : ∀ (ts : List Int) (out r : List Nd), chTo g ns f u ts out = some r → ∀ t ∈ ts, f ≤ t → t < u → ∃ m, g (atL ns t) = some m
  | [], _, _, _, t, ht, _, _ => by simp at ht
  | x :: ts, out, r, h, t, ht, h1, h2 => by
    rw [chTo] at h
    by_cases hc : f ≤ x ∧ x < u
    · rw [if_pos hc] at h
      cases hgm : g (atL ns x) with
      | none => rw [hgm] at h; cases h
      | some m =>
        rw [hgm] at h
        rcases List.mem_cons.1 ht with rfl | ht
        · exact ⟨m, hgm⟩
        · exact ch_all ts _ r h t ht h1 h2
    · rw [if_neg hc] at h
      rcases List.mem_cons.1 ht with rfl | ht
      · exact absurd ⟨h1, h2⟩ hc
      · exact ch_all ts _ r h t ht h1 h2
theorem ch_can {g : Nd → Option Nd} {ns : List Nd} {f u : Int} : ∀ (ts : List Int) (out : List Nd), (∀ t ∈ ts, f ≤ t → t < u → ∃ m, g (atL ns t) = some m) → ∃ r, chTo g ns f u ts out = some r
  | [], out, _ => ⟨out, rfl⟩
  | x :: ts, out, h => by
    rw [chTo]
    by_cases hc : f ≤ x ∧ x < u
    · rw [if_pos hc]
      obtain ⟨m, hm⟩ := h x (by simp) hc.1 hc.2
      rw [hm]
      exact ch_can ts _ (fun t ht => h t (by simp [ht]))
    · rw [if_neg hc]
      exact ch_can ts _ (fun t ht => h t (by simp [ht]))

/-- What a change shows at any time. -/
theorem ch_rep {g : Nd → Option Nd} {ns : List Nd} (hok : POk ns) {f u : Int} (_hs : spanB f u = true) {r : List Nd} (h : chTo g ns f u (tmsL ns f u) [] = some r) {s : Int} (h0 : 0 ≤ s) :
    val (atL r s) = gv g ns f u s ∧ (f ≤ s → s < u → ∃ m, g (atL ns s) = some m ∧ val (atL r s) = val m) := by
  have hup := tms_up hok.rising f u
  obtain ⟨n0, hn0, hl0⟩ := hok.head
  have hz : (0 : Int) ∈ tmsL ns f u := by have := tms_n f u (List.mem_of_getElem? hn0); rwa [hl0] at this
  obtain ⟨t, ht, hts, hmax, hf⟩ := fold_last (gv g ns f u) (s := s) (tmsL ns f u) (val (atL [] s)) hup ⟨0, hz, h0⟩
  have h1 := ch_fold s (tmsL ns f u) [] r hup (fun t _ m hm => by simp at hm) h
  rw [hf] at h1
  have hft : f ≤ s → f ≤ t := fun hh => hmax f (tms_f ns f u) hh
  have hut : u ≤ s → u ≤ t := fun hh => hmax u (tms_u ns f u) hh
  have hat : atL ns t = atL ns s := by
    obtain ⟨i, n, hst, hn, hat⟩ := hok.at_mem h0
    rw [hat]
    refine StepAt.at (s := i) ⟨n, hn, hmax n.l (tms_n f u (List.mem_of_getElem? hn)) (hst.le hn), fun k m hk hm => ?_⟩ hn
    obtain ⟨_, _, _, hlt⟩ := hst
    have := hlt k m hk hm
    omega
  have hg : gv g ns f u t = gv g ns f u s := by
    unfold gv
    rw [hat]
    by_cases hc : f ≤ s ∧ s < u
    · rw [if_pos hc, if_pos ⟨hft hc.1, by omega⟩]
    · rw [if_neg hc, if_neg (fun hc' => hc ⟨by omega, by
        rcases Int.lt_or_le s u with hh | hh
        · exact hh
        · have := hut hh; omega⟩)]
  refine ⟨h1.trans hg, fun hf1 hf2 => ?_⟩
  obtain ⟨m, hm⟩ := ch_all (tmsL ns f u) [] r h t ht (hft hf1) (by omega)
  rw [hat] at hm
  refine ⟨m, hm, ?_⟩
  rw [h1, hg, gv, if_pos ⟨hf1, hf2⟩, hm]
  rfl

/-- What is taken off is added again. -/
theorem ch_back {v m m' b : Nd} (h : chG false v m = some m') (hb : val b = val m') : ∃ c, chG true v b = some c ∧ val c = val m := by
  obtain ⟨l, a, b', c⟩ := b
  simp only [chG, Bool.false_eq_true, if_false] at h
  split at h
  · rename_i hc
    cases h
    simp only [val, Prod.mk.injEq] at hb
    obtain ⟨rfl, rfl, rfl⟩ := hb
    simp only [subB, Bool.and_eq_true] at hc
    refine ⟨⟨0, m.a - v.a + v.a, m.b - v.b + v.b, m.c - v.c + v.c⟩, ?_, by simp [val]⟩
    simp only [chG, if_true]
    rw [if_pos]
    simp only [addB, Bool.and_eq_true, Int.sub_add_cancel]
    exact ⟨⟨hc.2, hc.1.2⟩, hc.1.1⟩
  · cases h

theorem tk_some {add : Bool} {v : Nd} {ns r : List Nd} {f u : Int} (h : tkR add v ns f u = some r) : POk ns ∧ spanB f u = true ∧ chTo (chG add v) ns f u (tmsL ns f u) [] = some r ∧ POk r := by
  unfold tkR at h
  cases hk : minK ns f u with
  | false => rw [hk] at h; cases h
  | true =>
    rw [hk] at h
    obtain ⟨hok, hs⟩ := minK_iff hk
    have h' : chgR add v ns f u = some r := h
    unfold chgR at h'
    rw [Option.filter_eq_some_iff] at h'
    exact ⟨hok, hs, h'.1, (ch_ok (fun m m' _ hm => ch_vok add v m m' hm) hok hs h'.1).2 (by simpa using h'.2)⟩

theorem POk.head? {ns : List Nd} (h : POk ns) : ∃ n, ns.head? = some n ∧ n.l = 0 := by
  obtain ⟨n, hn, hl⟩ := h.head
  exact ⟨n, by rw [List.head?_eq_getElem?]; exact hn, hl⟩
theorem POk.in_time {ns : List Nd} (h : POk ns) : ∀ n ∈ ns, 0 ≤ n.l ∧ n.l ≤ 1000000000 := fun n hn => by
  obtain ⟨i, hi⟩ := List.getElem?_of_mem hn
  exact time_iff.1 (h.each i n hi).1

/-- What was taken and is given back leaves the profile as it was. -/
theorem tk_back {v : Nd} {ns r : List Nd} {f u : Int} (h : tkR false v ns f u = some r) : tkR true v r f u = some ns := by
  obtain ⟨hok, hs, hch, hr⟩ := tk_some h
  have hsp := span_iff.1 hs
  obtain ⟨r', hr'⟩ := ch_can (g := chG true v) (ns := r) (f := f) (u := u) (tmsL r f u) [] (fun t ht h1 h2 => by
    obtain ⟨m, hm, hv⟩ := (ch_rep hok hs hch (s := t) (by omega)).2 h1 h2
    obtain ⟨c, hc, _⟩ := ch_back hm hv
    exact ⟨c, hc⟩)
  have hnil : ∀ T, Gd [] T := fun T => ⟨fun n h => by simp at h, fun n h => by simp at h, fun i m n h => by simp at h⟩
  obtain ⟨hgd, hne⟩ := ch_gd (fun m m' _ hm => ch_vok true v m m' hm) hr f u (tmsL r f u) [] r' (tms_up hr.rising f u) (tms_time hr hs) (fun t _ => hnil t) (hnil _) (fun _ => tms_head hr hs) hr' (.inl (tms_ne r f u))
  have heq : r' = ns := by
    obtain ⟨n, hn, hnl⟩ := hok.head?
    cases hr0 : r' with
    | nil => exact absurd hr0 hne
    | cons x q =>
      rw [← hr0]
      have hx0 : x.l = 0 := hgd.head x (by rw [hr0]; rfl)
      refine cn_same r' ns hgd.cn hok.cn x n (by rw [hr0]; rfl) hn (by omega) (fun t h1 h2 => ?_) (fun y hy => (time_iff.1 (hgd.each y hy).1).2) (fun y hy => (hok.in_time y hy).2)
      have a1 := ch_rep hr hs hr' (s := t) (by omega)
      have a2 := ch_rep hok hs hch (s := t) (by omega)
      by_cases hc : f ≤ t ∧ t < u
      · obtain ⟨m, hm, hv⟩ := a2.2 hc.1 hc.2
        obtain ⟨c, hcc, hcv⟩ := ch_back hm hv
        obtain ⟨m2, hm2, hv2⟩ := a1.2 hc.1 hc.2
        rw [hcc] at hm2
        cases hm2
        rw [hv2, hcv]
      · rw [a1.1, gv, if_neg hc, a2.1, gv, if_neg hc]
  subst heq
  unfold tkR
  have hk : minK r f u = true := (minK_yes hr hs).1
  rw [hk]
  show chgR true v r f u = some r'
  rw [chgR, hr']
  simp [Option.filter, hok.few]

/-- At each time what was taken is missing, elsewhere nothing is. -/
theorem tk_at {v : Nd} {ns r : List Nd} {f u t : Int} (h : tkR false v ns f u = some r) (ht : 0 ≤ t) :
    (f ≤ t ∧ t < u → ∃ c, chG true v (atL r t) = some c ∧ val c = val (atL ns t)) ∧ (¬ (f ≤ t ∧ t < u) → val (atL r t) = val (atL ns t)) := by
  obtain ⟨hok, hs, hch, hr⟩ := tk_some h
  have a := ch_rep hok hs hch (s := t) ht
  refine ⟨fun hc => ?_, fun hc => ?_⟩
  · obtain ⟨m, hm, hv⟩ := a.2 hc.1 hc.2
    exact ch_back hm hv
  · rw [a.1, gv, if_neg hc]

theorem cutp_yes {ns : List Nd} (h : POk ns) {t : Int} (ht : timeB t = true) : cutR ns t = at0 ns t :: ns.filter (fun n => decide (t < n.l)) := by
  unfold cutR
  rw [if_pos ⟨h, ht⟩, lateTo, List.take_length]

theorem cut_pok {ns : List Nd} (h : POk ns) {t : Int} (ht : timeB t = true) : POk (cutR ns t) := by
  have ht0 := (time_iff.1 ht).1
  obtain ⟨s, n, hs, hn, hat⟩ := h.at_mem ht0
  have hd := late_all h.rising hs
  have hsl := (List.getElem?_eq_some_iff.1 hn).1
  have hfew := h.few
  have hr : cutR ns t = at0 ns t :: ns.drop (s + 1) := by
    unfold cutR
    rw [if_pos ⟨h, ht⟩, hd]
  rw [hr]
  refine ⟨by simp, by simp; omega, fun m hm => ?_, fun i m hm => ?_, fun i m k hm hk => ?_⟩
  · simp at hm
    rw [← hm]
    rfl
  · cases i with
    | zero =>
      simp at hm
      rw [← hm]
      exact ⟨by show timeB 0 = true; decide, h.at_ok ht0⟩
    | succ i =>
      simp only [List.getElem?_cons_succ, List.getElem?_drop] at hm
      exact h.each _ m hm
  · cases i with
    | zero =>
      simp only [List.getElem?_cons_zero, Option.some.injEq] at hm
      simp only [List.getElem?_cons_succ, List.getElem?_drop, Nat.add_zero] at hk
      have hst := h.step s n k hn hk
      rw [← hm]
      have hnt := time_iff.1 (h.each s n hn).1
      refine ⟨by show (0 : Int) < k.l; omega, ?_⟩
      have : sameV (at0 ns t) k = sameV n k := by rw [at0, hat]; rfl
      rw [this]
      exact hst.2
    | succ i =>
      simp only [List.getElem?_cons_succ, List.getElem?_drop] at hm hk
      exact h.step _ m k hm (by rw [show s + 1 + i + 1 = s + 1 + (i + 1) by omega]; exact hk)

theorem fold_filter {t y : Int} (hty : t ≤ y) : ∀ (ns : List Nd) (o : Nd), (ns.filter (fun n => decide (t < n.l))).foldl (fun o n => if n.l ≤ y then n else o) o = ns.foldl (fun o n => if n.l ≤ y then (if t < n.l then n else o) else o) o
  | [], _ => rfl
  | x :: r, o => by
    rw [List.filter_cons]
    by_cases h : t < x.l
    · rw [if_pos (by simpa using h), List.foldl_cons, List.foldl_cons, if_pos h]
      exact fold_filter hty r _
    · rw [if_neg (by simpa using h), List.foldl_cons, if_neg h]
      rw [show (if x.l ≤ y then o else o) = o by split <;> rfl]
      exact fold_filter hty r o

theorem cut_at {ns : List Nd} (h : POk ns) {t y : Int} (ht : timeB t = true) (hy : t ≤ y) : val (atL (cutR ns t) y) = val (atL ns y) := by
  have ht0 := (time_iff.1 ht).1
  have hc := cut_pok h ht
  obtain ⟨s, n, hs, hn, hat⟩ := h.at_mem ht0
  have hd := late_all h.rising hs
  have hr : cutR ns t = at0 ns t :: ns.drop (s + 1) := by
    unfold cutR
    rw [if_pos ⟨h, ht⟩, hd]
  obtain ⟨j, m, hj, hm, hatj⟩ := h.at_mem (t := y) (by omega)
  rw [hatj]
  have hjs : s ≤ j := by
    rcases Nat.lt_or_ge j s with hlt | hge
    · obtain ⟨_, _, _, hh⟩ := hj
      have := hh s n hlt hn
      have := hs.le hn
      omega
    · exact hge
  have hstep : ∀ k : Nat, (cutR ns t)[k + 1]? = ns[s + 1 + k]? := fun k => by rw [hr, List.getElem?_cons_succ, List.getElem?_drop]
  by_cases e : j = s
  · subst e
    rw [hn] at hm
    cases hm
    have h0 : (cutR ns t)[0]? = some (at0 ns t) := by rw [hr]; rfl
    have hst : StepAt (cutR ns t) y 0 := ⟨_, h0, by show (0 : Int) ≤ y; omega, fun k q hk hq => by
      obtain ⟨k', rfl⟩ : ∃ k', k = k' + 1 := ⟨k - 1, by omega⟩
      rw [hstep] at hq
      obtain ⟨_, _, _, hh⟩ := hj
      exact hh _ q (by omega) hq⟩
    rw [hst.at h0, at0, hat]
    rfl
  · obtain ⟨i, rfl⟩ : ∃ i, j = s + 1 + i := ⟨j - s - 1, by omega⟩
    have h0 : (cutR ns t)[i + 1]? = some m := by rw [hstep]; exact hm
    have hst : StepAt (cutR ns t) y (i + 1) := ⟨_, h0, hj.le hm, fun k q hk hq => by
      obtain ⟨k', rfl⟩ : ∃ k', k = k' + 1 := ⟨k - 1, by omega⟩
      rw [hstep] at hq
      obtain ⟨_, _, _, hh⟩ := hj
      exact hh _ q (by omega) hq⟩
    rw [hst.at h0]

theorem at_point {ns : List Nd} (h : POk ns) {i : Nat} {x : Nd} (hx : ns[i]? = some x) : atL ns x.l = x :=
  StepAt.at (s := i) ⟨x, hx, Int.le_refl _, fun _ _ hk hm => h.rising.mono hx hm hk⟩ hx

theorem cut_first {ns : List Nd} (h : POk ns) {t : Int} (ht : timeB t = true) : val (atL (cutR ns t) 0) = val (atL ns t) := by
  have hc := cut_pok h ht
  have h0 : (cutR ns t)[0]? = some (at0 ns t) := by rw [cutp_yes h ht]; rfl
  have := at_point hc h0
  rw [show (at0 ns t).l = 0 from rfl] at this
  rw [this]
  rfl

theorem cut_again {ns : List Nd} (h : POk ns) {t : Int} (ht : timeB t = true) : cutR (cutR ns t) t = cutR ns t := by
  have hc := cut_pok h ht
  have ht0 := (time_iff.1 ht).1
  have ha : at0 (cutR ns t) t = at0 ns t := by
    have := cut_at h ht (Int.le_refl t)
    simp only [val, Prod.mk.injEq] at this
    obtain ⟨h1, h2, h3⟩ := this
    unfold at0
    rw [h1, h2, h3]
  rw [cutp_yes hc ht, ha, cutp_yes h ht, List.filter_cons, if_neg (by rw [decide_eq_true_eq]; show ¬ t < (0 : Int); omega), List.filter_filter]
  simp
theorem cutp_no {ns : List Nd} {t : Int} (h : ¬ (POk ns ∧ timeB t = true)) : cutR ns t = [] := by
  unfold cutR
  rw [if_neg h]
theorem cut_less {ns : List Nd} (h : POk ns) {t : Int} (ht : timeB t = true) : (cutR ns t).length ≤ ns.length := by
  have ht0 := (time_iff.1 ht).1
  obtain ⟨s, n, hs, hn, hat⟩ := h.at_mem ht0
  have hd := late_all h.rising hs
  have hsl := (List.getElem?_eq_some_iff.1 hn).1
  have hr : cutR ns t = at0 ns t :: ns.drop (s + 1) := by
    unfold cutR
    rw [if_pos ⟨h, ht⟩, hd]
  rw [hr]
  simp
  omega
end Go.Proofs.Ytgpogglaffehcaa
