/- What is free at a time: the specification and the program. -/
import Derived.Test.YtbnbikmnembciaaPAt
import Derived.Deep.RegionWith
namespace Go.Proofs.Ytbnbikmnembciaa
open Go.ChangeShapes Go.WideShapes Go.ChangeAt Go.RowKit

def nd0 : Nd := ⟨0, 0, 0, 0⟩
/-- The last point that isn't later. -/
def atL (ns : List Nd) (t : Int) : Nd := ns.foldl (fun o n => if n.l ≤ t then n else o) nd0
theorem at_next {ns : List Nd} {j : Nat} {n : Nd} (t : Int) (h : ns[j]? = some n) : atL (ns.take (j + 1)) t = if n.l ≤ t then n else atL (ns.take j) t := by
  rw [List.take_add_one, h, Option.toList_some, atL, List.foldl_append]
  rfl

/-- The point s holds at t. -/
def StepAt (ns : List Nd) (t : Int) (s : Nat) : Prop := ∃ n, ns[s]? = some n ∧ n.l ≤ t ∧ ∀ k m, s < k → ns[k]? = some m → t < m.l

theorem StepAt.at {ns : List Nd} {t : Int} {s : Nat} {n : Nd} (h : StepAt ns t s) (hn : ns[s]? = some n) : atL ns t = n := by
  obtain ⟨n', hn', hle, hlt⟩ := h
  rw [hn] at hn'
  cases hn'
  have key : ∀ d, atL (ns.take (s + 1 + d)) t = n := fun d => by
    induction d with
    | zero => rw [Nat.add_zero, at_next t hn, if_pos hle]
    | succ d ih =>
      by_cases hd : s + 1 + d < ns.length
      · have e := List.getElem?_eq_getElem hd
        rw [show s + 1 + (d + 1) = s + 1 + d + 1 by omega, at_next t e, if_neg (by have := hlt _ _ (by omega) e; omega)]
        exact ih
      · rw [List.take_of_length_le (by omega)] at ih ⊢
        exact ih
  have := key ns.length
  rwa [List.take_of_length_le (by omega)] at this

theorem POk.head {ns : List Nd} (h : POk ns) : ∃ n, ns[0]? = some n ∧ n.l = 0 := by
  have h1 := h.one
  have e := List.getElem?_eq_getElem (show 0 < ns.length by omega)
  exact ⟨_, e, h.top _ e⟩

theorem POk.at_mem {ns : List Nd} (h : POk ns) {t : Int} (ht : 0 ≤ t) : ∃ (s : Nat) (n : Nd), StepAt ns t s ∧ ns[s]? = some n ∧ atL ns t = n := by
  -- the last point that isn't later
  have key : ∀ j, 1 ≤ j → j ≤ ns.length → ∃ s n, s < j ∧ ns[s]? = some n ∧ n.l ≤ t ∧ ∀ k m, s < k → k < j → ns[k]? = some m → t < m.l := by
    intro j
    induction j with
    | zero => intro h; omega
    | succ j ih =>
      intro _ hj
      by_cases h1 : j = 0
      · subst h1
        obtain ⟨n, hn, hl⟩ := h.head
        exact ⟨0, n, by omega, hn, by omega, fun k m hk hk2 => by omega⟩
      · obtain ⟨s, n, hs, hn, hle, hlt⟩ := ih (by omega) (by omega)
        have e := List.getElem?_eq_getElem (show j < ns.length by omega)
        by_cases hc : ns[j].l ≤ t
        · exact ⟨j, _, by omega, e, hc, fun k m hk hk2 => by omega⟩
        · refine ⟨s, n, by omega, hn, hle, fun k m hk hk2 hm => ?_⟩
          by_cases ek : k = j
          · subst ek; rw [e] at hm; cases hm; omega
          · exact hlt k m hk (by omega) hm
  obtain ⟨s, n, _, hn, hle, hlt⟩ := key ns.length h.one (Nat.le_refl _)
  have hst : StepAt ns t s := ⟨n, hn, hle, fun k m hk hm => hlt k m hk (List.getElem?_eq_some_iff.1 hm).1 hm⟩
  exact ⟨s, n, hst, hn, hst.at hn⟩

theorem POk.at_ok {ns : List Nd} (h : POk ns) {t : Int} (ht : 0 ≤ t) : vokB (atL ns t).a (atL ns t).b (atL ns t).c = true := by
  obtain ⟨s, n, _, hn, e⟩ := h.at_mem ht
  rw [e]
  exact (h.each s n hn).2

set_option maxHeartbeats 1000000 in
theorem step_c (b : Option Addr) (d : Nat) (ns : List Nd) (t : Int) (hok : POk ns) (ht : 0 ≤ t) (w : World) (h : Sq w b (flat ns)) :
    Calls Try.prog 68 #[.agg #[.slice b ns.length d], .int .i64 t] w fun e w' => ∃ s : Nat, e = .returned (.int .i64 s) ∧ s < ns.length ∧ StepAt ns t s ∧ Below w.heap.size w w' := by
  have H : Hid (Sq w b (flat ns)) := h
  have HO : Hid (POk ns) := hok
  have hf := hok.few
  clear h hok
  go_enter Try.func68, Try.ntmps68
  go_wp2_with fail
  have HV : Hid (Below w.heap.size w (w.alloc (.cells #[.slice b ns.length d] 43))) := low_alloc _ _
  generalize w.alloc (.cells #[.slice b ns.length d] 43) = V at HV
  refine (search_c b d ns t (by omega) HO.out.rising _ (H.out.below HV.out)).mono ?_
  rintro e w1 ⟨i, k, rfl, hi, hlo, hhi, hk, hb⟩
  have HB : Hid (Below w.heap.size w w1) := below_then HV.out hb
  clear hb
  cases k
  · have hnf : ∀ n, ns[i]? = some n → n.l ≠ t := fun n hn e => by have := hk.2 ⟨n, hn, e⟩; cases this
    obtain ⟨n0, hn0, hl0⟩ := HO.out.head
    have hi0 : i ≠ 0 := fun e => by
      subst e
      have h1 := hhi 0 n0 (Nat.le_refl _) hn0
      exact hnf n0 hn0 (by omega)
    obtain ⟨s, rfl⟩ : ∃ s, i = s + 1 := ⟨i - 1, by omega⟩
    have e := List.getElem?_eq_getElem (show s < ns.length by omega)
    have HS : Hid (StepAt ns t s) := ⟨_, e, by have := hlo s _ (by omega) e; omega, fun k m hk hm => by
      have h1 := hhi k m (by omega) hm
      by_cases ek : k = s + 1
      · subst ek; have := hnf m hm; omega
      · have e2 := List.getElem?_eq_getElem (show s + 1 < ns.length by have := (List.getElem?_eq_some_iff.1 hm).1; omega)
        have h2 := hhi (s + 1) _ (Nat.le_refl _) e2
        have h3 := HO.out.rising.mono e2 hm (by omega)
        omega⟩
    have hs : s < ns.length := by omega
    clear hnf hlo hhi hk e hi0 hn0 hl0
    go_wp2_with fail
    go_ret
    exact ⟨s, by simp, hs, HS.out, HB.out⟩
  · obtain ⟨n, hn, hl⟩ := hk.1 rfl
    have HS : Hid (StepAt ns t i) := ⟨n, hn, by omega, fun k m hk hm => by have := HO.out.rising.mono hn hm hk; omega⟩
    have hs : i < ns.length := (List.getElem?_eq_some_iff.1 hn).1
    clear hlo hhi hk hn hl
    go_wp2_with fail
    go_ret
    exact ⟨i, rfl, hs, HS.out, HB.out⟩

set_option maxHeartbeats 1000000 in
theorem l03At_c (b : Option Addr) (d : Nat) (ns : List Nd) (t : Int) (hn : ns.length ≤ 1048576) (w : World) (h : Sq w b (flat ns)) :
    Calls Try.prog 43 #[.agg #[.slice b ns.length d], .int .i64 t] w fun e w' => e = .returned (.agg #[.int .i64 (atL ns t).a, .int .i64 (atL ns t).b, .int .i64 (atL ns t).c]) ∧ Below w.heap.size w w' := by
  have H : Hid (Sq w b (flat ns)) := h
  clear h
  go_enter Try.func43, Try.ntmps43
  go_wp2_with fail
  generalize hV : (((w.alloc (.cells #[.slice b ns.length d] 43)).alloc (.cells #[.int .i64 0, .int .i64 0, .int .i64 0] 47)).alloc (.cells #[.int .i64 0, .int .i64 0, .int .i64 0] 47)) = V
  have HR : Hid (Row V (w.heap.size + 1) [.int .i64 0, .int .i64 0, .int .i64 0]) := by
    subst hV
    have h := row_fresh (w.alloc (.cells #[.slice b ns.length d] 43)) [.int .i64 0, .int .i64 0, .int .i64 0] 47
    rw [show (w.alloc (.cells #[.slice b ns.length d] 43)).heap.size = w.heap.size + 1 by simp [go_sem]] at h
    exact h.below (low_alloc _ _)
  have HO : Hid (Row V (w.heap.size + 1 + 1) [.int .i64 0, .int .i64 0, .int .i64 0]) := by
    subst hV
    have h := row_fresh ((w.alloc (.cells #[.slice b ns.length d] 43)).alloc (.cells #[.int .i64 0, .int .i64 0, .int .i64 0] 47)) [.int .i64 0, .int .i64 0, .int .i64 0] 47
    rw [show ((w.alloc (.cells #[.slice b ns.length d] 43)).alloc (.cells #[.int .i64 0, .int .i64 0, .int .i64 0] 47)).heap.size = w.heap.size + 1 + 1 by simp [go_sem]] at h
    exact h
  have HV : Hid (Below w.heap.size w V) := by subst hV; exact behind_alloc (behind_alloc (low_alloc _ _) _) _
  have hVl := HO.out.lt
  clear hV
  go_loopw [12] (fun i wr => ∃ j : Nat, j ≤ ns.length ∧ i = .int .i64 j ∧ Row wr (w.heap.size + 1) [.int .i64 0, .int .i64 0, .int .i64 0] ∧ Row wr (w.heap.size + 1 + 1) [.int .i64 (atL (ns.take j) t).a, .int .i64 (atL (ns.take j) t).b, .int .i64 (atL (ns.take j) t).c] ∧ Below w.heap.size w wr) (fun i _ => ns.length - (intOf i).toNat)
  case atStart => exact ⟨0, Nat.zero_le _, rfl, HR.out, HO.out, HV.out⟩
  case round =>
    obtain ⟨j, hj, rfl, hr, ho, hb⟩ := hrel
    have HR1 : Hid (Row wr (w.heap.size + 1) [.int .i64 0, .int .i64 0, .int .i64 0]) := hr
    have HO1 : Hid (Row wr (w.heap.size + 1 + 1) [.int .i64 (atL (ns.take j) t).a, .int .i64 (atL (ns.take j) t).b, .int .i64 (atL (ns.take j) t).c]) := ho
    have HB : Hid (Below w.heap.size w wr) := hb
    have hOl := ho.lt
    clear hr ho hb HR HO HV
    by_cases hlt : j < ns.length
    · have hj0 : (0 : Int) ≤ (j : Int) := by omega
      have hj1 : (j : Int) < (ns.length : Int) := by omega
      obtain ⟨p2, rfl, c0, c1, c2, c3⟩ := (H.out.below HB.out).node j hlt
      have HX : Hid (ns[j]? = some ns[j]) := List.getElem?_eq_getElem hlt
      generalize ns[j] = n at c0 c1 c2 c3 HX
      have HK : Hid (atL (ns.take (j + 1)) t = if n.l ≤ t then n else atL (ns.take j) t) := at_next t HX.out
      have HO2 : Hid (Row (wr.alloc (.cells #[.int .i64 n.l, .int .i64 n.a, .int .i64 n.b, .int .i64 n.c] 83)) (w.heap.size + 1 + 1) [.int .i64 (atL (ns.take j) t).a, .int .i64 (atL (ns.take j) t).b, .int .i64 (atL (ns.take j) t).c]) := HO1.out.below (low_alloc _ _)
      have HR2 : Hid (Row (wr.alloc (.cells #[.int .i64 n.l, .int .i64 n.a, .int .i64 n.b, .int .i64 n.c] 83)) (w.heap.size + 1) [.int .i64 0, .int .i64 0, .int .i64 0]) := HR1.out.below (low_alloc _ _)
      have HB2 : Hid (Below w.heap.size w (wr.alloc (.cells #[.int .i64 n.l, .int .i64 n.a, .int .i64 n.b, .int .i64 n.c] 83))) := behind_alloc HB.out _
      by_cases hc : n.l ≤ t
      · rw [if_pos hc] at HK
        have o0 := HO1.out.cell 0 _ rfl
        have o1 := HO1.out.cell 1 _ rfl
        have o2 := HO1.out.cell 2 _ rfl
        have f0 := HO1.out.free 0
        have f1 := HO1.out.free 1
        have f2 := HO1.out.free 2
        have hne : w.heap.size + 1 + 1 ≠ wr.heap.size := by omega
        have HS := ((HO1.out.set 0 (by simp) (.int .i64 n.a)).set 1 (by simp) (.int .i64 n.b)).set 2 (by simp) (.int .i64 n.c)
        have HS2 : Hid (Row _ (w.heap.size + 1 + 1) [.int .i64 n.a, .int .i64 n.b, .int .i64 n.c]) := HS
        have HR3 := ((HR1.out.apart (w.heap.size + 1 + 1) 0 (.int .i64 n.a) (by omega)).apart (w.heap.size + 1 + 1) 1 (.int .i64 n.b) (by omega)).apart (w.heap.size + 1 + 1) 2 (.int .i64 n.c) (by omega)
        have HR4 : Hid (Row _ (w.heap.size + 1) [.int .i64 0, .int .i64 0, .int .i64 0]) := HR3
        have HB3 := ((HB.out.setCell (p := ⟨w.heap.size + 1 + 1, 0, none⟩) (by show w.heap.size ≤ w.heap.size + 1 + 1; omega) (.int .i64 n.a)).setCell (p := ⟨w.heap.size + 1 + 1, 1, none⟩) (by show w.heap.size ≤ w.heap.size + 1 + 1; omega) (.int .i64 n.b)).setCell (p := ⟨w.heap.size + 1 + 1, 2, none⟩) (by show w.heap.size ≤ w.heap.size + 1 + 1; omega) (.int .i64 n.c)
        have HB4 : Hid (Below w.heap.size w _) := HB3
        clear HS HR3 HB3
        go_wp2_with fail
        refine ⟨⟨j + 1, by omega, by go_num, HR4.out.below (low_alloc _ _), ?_, behind_alloc HB4.out _⟩, by simp [intOf]; omega⟩
        rw [HK.out]
        exact HS2.out.below (low_alloc _ _)
      · rw [if_neg hc] at HK
        go_wp2_with fail
        exact ⟨⟨j + 1, by omega, by go_num, HR2.out, by rw [HK.out]; exact HO2.out, HB2.out⟩, by simp [intOf]; omega⟩
    · obtain rfl : j = ns.length := by omega
      rw [List.take_length] at HO1
      have r0 := HR1.out.cell 0 _ rfl
      have r1 := HR1.out.cell 1 _ rfl
      have r2 := HR1.out.cell 2 _ rfl
      have f0 := HR1.out.free 0
      have f1 := HR1.out.free 1
      have f2 := HR1.out.free 2
      have o0 := HO1.out.cell 0 _ rfl
      have o1 := HO1.out.cell 1 _ rfl
      have o2 := HO1.out.cell 2 _ rfl
      have B8 := HB.out
      go_wp2_with fail
      exact bodyPost_ret (v := .agg #[.int .i64 (atL ns t).a, .int .i64 (atL ns t).b, .int .i64 (atL ns t).c]) (by simp [results, Try.results43, go_sem, *]) rfl ⟨rfl, by go_grown⟩
end Go.Proofs.Ytbnbikmnembciaa
