/- What is written of a right step is read again: lists alone. -/
import Derived.Test.YtejleghdgdbbnaaGreatDoorTcD
import Derived.Test.YtejleghdgdbbnaaGreatDoorMgUi
namespace Go.Proofs.YtejleghdgdbbnaaGreatDoor
open Go.RowKit

theorem num_no_blank (n : Int) : (32 : UInt8) ∉ numL n := by
  intro hm
  obtain ⟨k, hk⟩ := List.getElem?_of_mem hm
  cases h : timB n
  · rw [numL, h] at hk; simp at hk
  · rw [numL, h] at hk
    have h2 := decFrom_none _ 0 k 32 hk rfl
    have h3 := decFrom_digits _ n.toNat (Nat.le_refl _)
    simp only [cond_true] at h2
    rw [h2] at h3
    cases h3
theorem vt_no_blank (a b c : Int) : (32 : UInt8) ∉ vtL a b c := by
  unfold vtL
  cases vokB a b c
  · simp
  · simp only [cond_true, List.mem_append, List.mem_cons, List.not_mem_nil, or_false, not_or]
    exact ⟨⟨⟨⟨num_no_blank a, by decide⟩, num_no_blank b⟩, by decide⟩, num_no_blank c⟩
theorem kw_no_blank (s : Int) : (32 : UInt8) ∉ kwL s := by
  unfold kwL
  generalize s.toNat = k
  match k with
  | 0 => decide
  | 1 => decide
  | 2 => decide
  | 3 => decide
  | 4 => decide
  | 5 => decide
  | 6 => decide
  | 7 => decide
  | k + 8 => simp [kws]
theorem not_at {b : UInt8} {l : List UInt8} (h : b ∉ l) : ∀ k : Nat, l[k]? ≠ some b := fun _ hk => h (List.mem_of_getElem? hk)
theorem pcs_join (b : UInt8) : ∀ (x : List UInt8) (ws : List (List UInt8)), (∀ w ∈ x :: ws, b ∉ w) → pcs b (Lib.join (x :: ws) [b]) = x :: ws
  | x, [], h => by
    have e : Lib.join [x] [b] = x := Lib.join_one x [b]
    rw [e]
    exact pcs_none b x (not_at (h x (by simp)))
  | x, y :: ws, h => by
    have e : Lib.join (x :: y :: ws) [b] = x ++ b :: Lib.join (y :: ws) [b] := by simp [Lib.join, List.intercalate]
    rw [e, pcs_at b _ _ (not_at (h x (by simp))), pcs_join b y ws (fun w hw => h w (List.mem_cons_of_mem _ hw))]

theorem vt_again {a b c : Int} (h : vokB a b c = true) : tvR (vtL a b c) = ((a, b, c), true) := by
  have hne : vtL a b c ≠ [] := by
    intro e
    have := vt_pcs h
    rw [e] at this
    simp [pcs] at this
  obtain ⟨_, hp, ta, tb, tc⟩ := tv_yes hne rfl
  have e0 : pn (pcs 47 (vtL a b c)) 0 = a := by rw [hp, (pn_three _ _ _).1, tn_num ta]
  have e1 : pn (pcs 47 (vtL a b c)) 1 = b := by rw [hp, (pn_three _ _ _).2.1, tn_num tb]
  have e2 : pn (pcs 47 (vtL a b c)) 2 = c := by rw [hp, (pn_three _ _ _).2.2, tn_num tc]
  rw [tv_true (by rw [e0, e1, e2]), e0, e1, e2]
theorem tim_of {n lo hi : Int} (h : btwB lo n hi = true) (h0 : 0 ≤ lo) (h1 : hi ≤ 1000000000) : timB n = true := by
  have := btw_iff.1 h
  simp [timB]; omega
theorem jb_zero {j : Jb} (h : jeB j jb0 = true) : j = jb0 := by
  obtain ⟨i0, i1, i2, i3, i4, i5, i6, i7, i8, i9, i10⟩ := j
  simp [jeB, veB, jb0] at h ⊢
  omega
theorem ve_zero {a b c : Int} (h : veB a b c 0 0 0 = true) : a = 0 ∧ b = 0 ∧ c = 0 := by
  simp [veB] at h
  omega
theorem jrd_again {j : Jb} (h : jobB j = true) : jrd (numL j.id) (numL j.pr) (numL j.nd) (vtL j.na j.nb j.nc) (vtL j.la j.lb j.lc) (numL j.wl) (numL j.lv) = j := by
  simp only [jobB, Bool.and_eq_true] at h
  obtain ⟨h1, h2, h3, h4, h5, h6, h7⟩ := h
  unfold jrd
  rw [tn_num (tim_of h1 (by omega) (by omega)), tn_num (tim_of h2 (by omega) (by omega)), tn_num (tim_of h3 (by omega) (by omega)), vt_again h4, vt_again h5, tn_num (tim_of h6 (by omega) (by omega)), tn_num (tim_of h7 (by omega) (by omega))]

theorem cw_pcs (s : Int) (j : Jb) (n a b c : Int) : pcs 32 (Lib.join (cwL s j n a b c) [32]) = cwL s j n a b c := by
  unfold cwL
  split
  · refine pcs_join 32 _ _ ?_
    intro w hw
    simp only [jwL, List.mem_cons, List.not_mem_nil, or_false] at hw
    rcases hw with rfl | rfl | rfl | rfl | rfl | rfl | rfl | rfl
    · exact kw_no_blank _
    · exact num_no_blank _
    · exact num_no_blank _
    · exact num_no_blank _
    · exact vt_no_blank _ _ _
    · exact vt_no_blank _ _ _
    · exact num_no_blank _
    · exact num_no_blank _
  · split
    · refine pcs_join 32 _ _ ?_
      intro w hw
      simp only [List.mem_cons, List.not_mem_nil, or_false] at hw
      rcases hw with rfl | rfl
      · exact kw_no_blank _
      · exact vt_no_blank _ _ _
    · refine pcs_join 32 _ _ ?_
      intro w hw
      simp only [List.mem_cons, List.not_mem_nil, or_false] at hw
      rcases hw with rfl | rfl
      · exact kw_no_blank _
      · exact num_no_blank _

/-- What is written is read again. -/
theorem tc_again (s : Int) (j : Jb) (n a b c : Int) (h : cmdB s j n a b c = true) : tcR (ctL s j n a b c) = (⟨s, j, n, a, b, c⟩, true) := by
  have hct : ctL s j n a b c = Lib.join (cwL s j n a b c) [32] := by rw [ctL, h]; rfl
  have hr : rdC (cwL s j n a b c) = ⟨s, j, n, a, b, c⟩ := by
    have h7 := cmdB_seven h
    have num : ∀ (k : Int) (hk : kdN (kwL k) ≠ 6) (hk1 : (kdN (kwL k) : Int) = k), cwL k j n a b c = [kwL k, numL n] → j = jb0 → a = 0 ∧ b = 0 ∧ c = 0 → timB n = true → rdC (cwL k j n a b c) = ⟨k, j, n, a, b, c⟩ := fun k hk hk1 hc hj hz ht => by
      obtain ⟨rfl, rfl, rfl⟩ := hz
      rw [hc, hj]
      unfold rdC
      rw [if_neg (fun t => by have := t.1; simp at this), if_neg (fun t => hk t.2), if_pos (show [kwL k, numL n].length = 2 from rfl)]
      show (⟨(kdN (kwL k) : Int), jb0, (tnR (numL n)).1, 0, 0, 0⟩ : Cm) = _
      rw [hk1, tn_num ht]
    rcases h7 with rfl | rfl | rfl | rfl | rfl | rfl | rfl
    · simp only [cmdB, if_pos, Bool.and_eq_true, beq_iff_eq] at h
      obtain ⟨hj, hn, hv⟩ := h
      obtain ⟨rfl, rfl, rfl⟩ := ve_zero hv
      subst hn
      show rdC (kwL 1 :: jwL j) = _
      unfold rdC
      rw [if_pos ⟨rfl, rfl⟩]
      show (⟨1, jrd (numL j.id) (numL j.pr) (numL j.nd) (vtL j.na j.nb j.nc) (vtL j.la j.lb j.lc) (numL j.wl) (numL j.lv), 0, 0, 0, 0⟩ : Cm) = _
      rw [jrd_again hj]
    · have h' : (btwB 1 n 999 && (jeB j jb0 && veB a b c 0 0 0)) = true := h
      simp only [Bool.and_eq_true] at h'
      exact num 2 (by decide) rfl rfl (jb_zero h'.2.1) (ve_zero h'.2.2) (tim_of h'.1 (by omega) (by omega))
    · have h' : (btwB 1 n 999 && (jeB j jb0 && veB a b c 0 0 0)) = true := h
      simp only [Bool.and_eq_true] at h'
      exact num 3 (by decide) rfl rfl (jb_zero h'.2.1) (ve_zero h'.2.2) (tim_of h'.1 (by omega) (by omega))
    · have h' : (btwB 0 n 23 && (jeB j jb0 && veB a b c 0 0 0)) = true := h
      simp only [Bool.and_eq_true] at h'
      exact num 4 (by decide) rfl rfl (jb_zero h'.2.1) (ve_zero h'.2.2) (tim_of h'.1 (by omega) (by omega))
    · have h' : (btwB 0 n 23 && (jeB j jb0 && veB a b c 0 0 0)) = true := h
      simp only [Bool.and_eq_true] at h'
      exact num 5 (by decide) rfl rfl (jb_zero h'.2.1) (ve_zero h'.2.2) (tim_of h'.1 (by omega) (by omega))
    · have h' : (vokB a b c && (jeB j jb0 && n == 0)) = true := h
      simp only [Bool.and_eq_true, beq_iff_eq] at h'
      obtain ⟨hv, hj, rfl⟩ := h'
      have hj0 := jb_zero hj
      subst hj0
      show rdC [kwL 6, vtL a b c] = _
      unfold rdC
      rw [if_neg (fun t => by have := t.1; simp at this), if_pos ⟨rfl, rfl⟩]
      show (⟨6, jb0, 0, (tvR (vtL a b c)).1.1, (tvR (vtL a b c)).1.2.1, (tvR (vtL a b c)).1.2.2⟩ : Cm) = _
      rw [vt_again hv]
    · have h' : (timB n && (jeB j jb0 && veB a b c 0 0 0)) = true := h
      simp only [Bool.and_eq_true] at h'
      exact num 7 (by decide) rfl rfl (jb_zero h'.2.1) (ve_zero h'.2.2) h'.1
  unfold tcR
  rw [hct, cw_pcs, hr, ← hct, if_pos ⟨h, rfl⟩]
end Go.Proofs.YtejleghdgdbbnaaGreatDoor

namespace Go.Proofs.YtejleghdgdbbnaaGreatDoor

theorem cut_app {b : UInt8} (r : List UInt8) : ∀ {a : List UInt8}, b ∉ a → Lib.cut (a ++ b :: r) [b] = (a, r, true)
  | [], _ => cut_hit b r
  | c :: a, h => by
    have hc : c ≠ b := fun e => h (by rw [e]; exact List.mem_cons_self ..)
    have := cut_app r (a := a) (fun e => h (List.mem_cons_of_mem _ e))
    rw [List.cons_append, cut_pass hc, this]
theorem cut_none {b : UInt8} : ∀ {a : List UInt8}, b ∉ a → Lib.cut a [b] = (a, [], false)
  | [], _ => by simp [Lib.cut, Lib.index]
  | c :: a, h => by
    have hc : c ≠ b := fun e => h (by rw [e]; exact List.mem_cons_self ..)
    have := cut_none (a := a) (fun e => h (List.mem_cons_of_mem _ e))
    rw [cut_pass hc, this]
theorem rdS_again {k : Int} {x : Cm} {p : Int} (h : stB k x p = true) : rdS (stL k x p) = ⟨k, x, p⟩ := by
  have hL : stL k x p = (if k = 1 then [100, 111, 32] ++ ctL x.s x.j x.n x.a x.b x.c else if k = 2 then [116, 111, 114, 110, 32] ++ numL p ++ [32] ++ ctL x.s x.j x.n x.a x.b x.c else if k = 3 then [99, 114, 97, 115, 104] else [115, 116, 97, 114, 116]) := by
    unfold stL; rw [h]; rfl
  rw [hL]
  unfold stB at h
  by_cases h1 : k = 1
  · rw [if_pos h1] at h ⊢
    rw [Bool.and_eq_true] at h
    have hp : p = 0 := by simpa using h.2
    have ht := tc_again x.s x.j x.n x.a x.b x.c h.1
    have hc : Lib.cut ([100, 111, 32] ++ ctL x.s x.j x.n x.a x.b x.c) [32] = ([100, 111], ctL x.s x.j x.n x.a x.b x.c, true) := cut_app (b := 32) (a := [100, 111]) _ (by decide)
    unfold rdS
    rw [hc]
    simp only
    rw [if_pos (show sdN [100, 111] = 1 from rfl), ht, h1, hp]
  · rw [if_neg h1] at h ⊢
    by_cases h2 : k = 2
    · rw [if_pos h2] at h ⊢
      rw [Bool.and_eq_true] at h
      have ht := tc_again x.s x.j x.n x.a x.b x.c h.1
      have hc : Lib.cut ([116, 111, 114, 110, 32] ++ numL p ++ [32] ++ ctL x.s x.j x.n x.a x.b x.c) [32] = ([116, 111, 114, 110], numL p ++ 32 :: ctL x.s x.j x.n x.a x.b x.c, true) := by
        have := cut_app (b := 32) (a := [116, 111, 114, 110]) (numL p ++ 32 :: ctL x.s x.j x.n x.a x.b x.c) (by decide)
        rw [← this]
        congr 1
        simp
      have hc2 : Lib.cut (numL p ++ 32 :: ctL x.s x.j x.n x.a x.b x.c) [32] = (numL p, ctL x.s x.j x.n x.a x.b x.c, true) := cut_app _ (num_no_blank p)
      unfold rdS
      rw [hc]
      simp only
      rw [hc2]
      simp only
      rw [if_neg (show ¬ sdN [116, 111, 114, 110] = 1 by decide), if_pos (show sdN [116, 111, 114, 110] = 2 from rfl), ht, tn_num h.2, h2]
    · rw [if_neg h2] at h ⊢
      by_cases h3 : k = 3 ∨ k = 4
      · rw [if_pos h3, Bool.and_eq_true] at h
        have hp : p = 0 := by simpa using h.2
        have hx := cmz_eq h.1
        subst hp hx
        rcases h3 with rfl | rfl
        · rw [if_pos rfl]
          have hc : Lib.cut [99, 114, 97, 115, 104] [32] = ([99, 114, 97, 115, 104], [], false) := cut_none (by decide)
          unfold rdS
          rw [hc]
          rfl
        · rw [if_neg (by decide)]
          have hc : Lib.cut [115, 116, 97, 114, 116] [32] = ([115, 116, 97, 114, 116], [], false) := cut_none (by decide)
          unfold rdS
          rw [hc]
          rfl
      · rw [if_neg h3] at h
        cases h
theorem ts_again {k : Int} {x : Cm} {p : Int} (h : stB k x p = true) : tsR (stL k x p) = (⟨k, x, p⟩, true) := by
  have hr := rdS_again h
  have := tsR_eq (l := stL k x p) (by rw [hr]; exact h) (by rw [hr])
  rw [hr] at this
  exact this
theorem ts_nil : tsR [] = (⟨0, cm0, 0⟩, false) := by
  refine tsR_no ?_
  unfold rdS
  have e : sdN (Lib.cut [] [32]).1 = 0 := by simp [Lib.cut, Lib.index, sdN]
  rw [e]
  rfl
theorem stL_ne {k : Int} {x : Cm} {p : Int} (h : stB k x p = true) : stL k x p ≠ [] := by
  unfold stL
  rw [h]
  intro e
  simp only [cond_true] at e
  by_cases h1 : k = 1
  · rw [if_pos h1] at e; simp at e
  · rw [if_neg h1] at e
    by_cases h2 : k = 2
    · rw [if_pos h2] at e; simp at e
    · rw [if_neg h2] at e
      split at e <;> simp at e
end Go.Proofs.YtejleghdgdbbnaaGreatDoor
