/- FnHeap: for every code the law returns true: what a heap tells comes in order, and is just what was put into it; no condition. -/
import Derived.Test.YtdmmjggkdkmeaaaMgFg
import Derived.Test.YtdmmjggkdkmeaaaCurE
import Derived.Test.YtdmmjggkdkmeaaaCurC
import Derived.Test.YtdmmjggkdkmeaaaResA
import Derived.Deep.DeepCutAuto
import Derived.Test.YtdmmjggkdkmeaaaJbA
import Derived.Test.YtdmmjggkdkmeaaaCurA
import Derived.ProofKit
import Derived.Test.YtdmmjggkdkmeaaaRows
import Derived.Test.YtdmmjggkdkmeaaaChecked
import Derived.OpenShut
namespace Go.Proofs.Ytdmmjggkdkmeaaa

theorem dof_some : ∀ (l acc r : List Du), dof acc l = some r → r.length = acc.length + l.length ∧ (acc.length ≤ 200 → r.length ≤ 200)
  | [], acc, r, h => by
    simp only [dof, Option.some.injEq] at h
    subst h
    exact ⟨by simp, id⟩
  | x :: l, acc, r, h => by
    unfold dof at h
    split at h
    · rename_i hc
      obtain ⟨h1, h2⟩ := dof_some l _ r h
      rw [dpush_len] at h1 h2
      exact ⟨by simp; omega, fun h3 => h2 (by omega)⟩
    · cases h
theorem dof_len {l : List Du} (_ : l.length ≤ 1048576) : ((dof [] l).getD []).length ≤ 1048576 := by
  cases h : dof [] l with
  | none => simp
  | some r => have := (dof_some l [] r h).2 (by simp); simp; omega
theorem dallR_len {l : List Du} (hl : l.length ≤ 1048576) : (dallR l).length ≤ 1048576 := by
  unfold dallR
  split
  · rw [(dall_perm l.length l (Nat.le_refl _)).length_eq]; exact hl
  · simp
end Go.Proofs.Ytdmmjggkdkmeaaa

namespace Go.Proofs.Ytdmmjggkdkmeaaa
open Go.ChangeShapes Go.WideShapes Go.ChangeAt Go.RowKit

theorem grown_own {w W W' : World} {g : Nat} {r : Option Nat} (h : w.grownBy W (some g)) (h2 : W.grownBy W' r) (hr : ∀ k, r = some k → w.heap.size ≤ k) : w.grownBy W' (some g) :=
  ⟨h2.os.trans h.os, h2.tape.trans h.tape, h2.output.trans h.output, Nat.le_trans h.size h2.size, fun k hk hne => (h2.block k (Nat.lt_of_lt_of_le hk h.size) (fun e => by have := hr k e.symm; omega)).trans (h.block k hk hne)⟩
set_option maxHeartbeats 4000000 in
set_option maxRecDepth 100000 in
theorem l10Draw_c (g : Nat) (a : Option Addr) (n cap : Nat) (w : World) (h : Cur w g a n cap) :
    Calls Try.prog 31 #[.pointer (some ⟨g, 0, none⟩)] w fun e w' => ∃ (b c : Nat) (l : List Du), e = .returned (.slice (some ⟨b, 0, none⟩) l.length c) ∧ l.length ≤ 13 ∧ w'.ownsRow w.heap.size 30 2 (.slice (some ⟨b, 0, none⟩) l.length c) l.length (flatD l) ∧ Cur w' g a n cap ∧ w.grownBy w' (some g) := by
  have H : Hid (Cur w g a n cap) := h
  have hgl := h.lt
  clear h
  obtain ⟨i0, hi, hz0, hz1, hz2⟩ := info_parts infoDue
  go_enter Try.func31, Try.ntmps31
  go_wp2_with fail
  have HO0 : Hid ((w.alloc (.cells #[] 30)).ownsRow w.heap.size 30 2 (.slice (some ⟨w.heap.size, 0, none⟩) 0 0) 0 []) := World.ownsRow_made w #[] 0 (Nat.le_refl _) (by decide) rfl
  have HG0 : Hid (w.grownBy (w.alloc (.cells #[] 30)) (some g)) := World.grownBy_alloc w _ _
  have HC0 : Hid (Cur (w.alloc (.cells #[] 30)) g a n cap) := H.out.below (low_alloc _ _)
  generalize w.alloc (.cells #[] 30) = w0 at HO0 HG0 HC0
  refine (l01Below_c g a n cap 14 (by decide) (by decide) _ HC0.out).mono ?_
  rintro e w1 ⟨y, rfl, hy0, hy1, hg, hc⟩
  have HO1 : Hid (w1.ownsRow w.heap.size 30 2 (.slice (some ⟨w.heap.size, 0, none⟩) 0 0) 0 []) := HO0.out.kept hg (.inr (fun e => by have := Option.some.inj e; simp at this; omega))
  have HG1 : Hid (w.grownBy w1 (some g)) := HG0.out.trans hg
  have HC1 : Hid (Cur w1 g a n cap) := hc
  clear hg hc HO0 HG0 HC0
  go_wp2_with fail
  go_loopw [3, 4] (fun lv nv wr => ∃ (b c : Nat) (l : List Du) (z : Int), lv = .slice (some ⟨b, 0, none⟩) l.length c ∧ nv = .int .i64 z ∧ 0 ≤ z ∧ z + l.length ≤ 13 ∧ wr.ownsRow w.heap.size 30 2 (.slice (some ⟨b, 0, none⟩) l.length c) l.length (flatD l) ∧ w.grownBy wr (some g) ∧ Cur wr g a n cap) (fun _ nv _ => (intOf nv).toNat)
  case atStart => exact ⟨w.heap.size, 0, [], y, rfl, rfl, hy0, by simp; omega, HO1.out, HG1.out, HC1.out⟩
  case round =>
    obtain ⟨b, c, l, z, rfl, rfl, hz, hzl, ho, hg, hc⟩ := hrel
    have HO : Hid (wr.ownsRow w.heap.size 30 2 (.slice (some ⟨b, 0, none⟩) l.length c) l.length (flatD l)) := ho
    have HG : Hid (w.grownBy wr (some g)) := hg
    have HC : Hid (Cur wr g a n cap) := hc
    clear ho hg hc HO1 HG1 HC1 hy0 hy1
    have hbw := (HO.out.lt b rfl).1
    have hgb : g ≠ b := by omega
    by_cases h0 : 0 < z
    · go_wp2_with fail
      refine (l01Below_c g a n cap 12 (by decide) (by decide) _ HC.out).mono ?_
      rintro e w2 ⟨t, rfl, ht0, ht1, hg, hc⟩
      have HO2 : Hid (w2.ownsRow w.heap.size 30 2 (.slice (some ⟨b, 0, none⟩) l.length c) l.length (flatD l)) := HO.out.kept hg (.inr (fun e => hgb (Option.some.inj e).symm))
      have HG2 : Hid (w.grownBy w2 (some g)) := HG.out.trans hg
      have HC2 : Hid (Cur w2 g a n cap) := hc
      clear hg hc HO HG HC
      go_wp2_with fail
      refine (l01Below_c g a n cap 9 (by decide) (by decide) _ HC2.out).mono ?_
      rintro e w3 ⟨m, rfl, hm0, hm1, hg, hc⟩
      have HO3 : Hid (w3.ownsRow w.heap.size 30 2 (.slice (some ⟨b, 0, none⟩) l.length c) l.length (flatD l)) := HO2.out.kept hg (.inr (fun e => hgb (Option.some.inj e).symm))
      have HG3 : Hid (w.grownBy w3 (some g)) := HG2.out.trans hg
      have HC3 : Hid (Cur w3 g a n cap) := hc
      clear hg hc HO2 HG2 HC2
      obtain ⟨u, hu⟩ : ∃ u : Int, u = 1 + m := ⟨_, rfl⟩
      have hum : 1 + m = u := hu.symm
      have hu0 : 0 ≤ u := by omega
      have hu1 : u ≤ 9 := by omega
      have HO4 : Hid ((w3.alloc (.cells #[.int .i64 t, .int .i64 u] 30)).ownsRow w.heap.size 30 2 (.slice (some ⟨b, 0, none⟩) l.length c) l.length (flatD l)) := HO3.out.alloc _
      have HG4 : Hid (w.grownBy (w3.alloc (.cells #[.int .i64 t, .int .i64 u] 30)) (some g)) := HG3.out.trans (World.grownBy_alloc _ _ _)
      have HC4 : Hid (Cur (w3.alloc (.cells #[.int .i64 t, .int .i64 u] 30)) g a n cap) := HC3.out.below (low_alloc _ _)
      have hs4 := HG4.out.size
      have hl13 : l.length ≤ 13 := by omega
      clear hu
      go_wp2_with (at_builtin; refine wpList_append_own_at _ rfl _ _ 23 rfl w.heap.size 30 i0 (.agg #[.int .i64 0, .int .i64 0]) 2 16 Try.underlying23 hi hz0 hz1 hz2 rfl (by decide) (.slice (some ⟨b, 0, none⟩) l.length c) l.length (flatD l) rfl HO4.out ⟨w3.heap.size, 0, none⟩ 1 1 [.int .i64 t, .int .i64 u] rfl rfl ?c1 ?c2 ?c3 ?c4 ?c5 ?_)
      case c1 =>
        intro j v hv
        rw [add_plain, Nat.zero_add]
        exact (row_fresh w3 [.int .i64 t, .int .i64 u] 30).cell j v hv
      case c2 => simp [Value.oneCell']
      case c3 => unfold maxLen; omega
      case c4 => omega
      case c5 => exact hs4
      · intro v' w7 hown hgrow _ hat
        obtain ⟨b', c', rfl⟩ : ∃ b' c', v' = .slice (some ⟨b', 0, none⟩) (l.length + 1) c' := by
          rcases hown.2 with ⟨_, hz⟩ | ⟨g', cap, _, e, _⟩
          · omega
          · exact ⟨g', cap, e⟩
        have HO7 : Hid (w7.ownsRow w.heap.size 30 2 (.slice (some ⟨b', 0, none⟩) (l.length + 1) c') (l.length + 1) (flatD (l ++ [⟨t, u⟩]))) := by
          show World.ownsRow _ _ _ _ _ _ _
          rw [flatD_add]
          exact hown
        have HG7 : Hid (w.grownBy w7 (some g)) := grown_own HG4.out hgrow (fun k hk => (HO4.out.lt k hk).1)
        have HC7 : Hid (Cur w7 g a n cap) := H.out.on HG7.out HC4.out hgrow hgb
        clear hown hgrow hat HO3 HG3 HC3 HO4 HG4 HC4 hs4
        go_wp2_with fail
        go_roundw
        case rel => exact ⟨b', c', l ++ [⟨t, u⟩], z - 1, by rw [List.length_append]; rfl, by go_num, by omega, by rw [List.length_append]; simp; omega, by rw [List.length_append]; exact HO7.out, HG7.out, HC7.out⟩
        case measure => simp [intOf]; omega
    · go_wp2_with fail
      go_ret
      exact ⟨b, c, l, rfl, by omega, HO.out, HC.out, HG.out⟩
end Go.Proofs.Ytdmmjggkdkmeaaa

namespace Go.Proofs.Ytdmmjggkdkmeaaa
open Go.ChangeShapes Go.WideShapes Go.ChangeAt Go.RowKit

set_option maxHeartbeats 4000000 in
set_option maxRecDepth 100000 in
theorem l10One_c (g : Nat) (a : Option Addr) (n cap : Nat) (w : World) (h : Cur w g a n cap) :
    Calls Try.prog 33 #[.pointer (some ⟨g, 0, none⟩)] w fun e w' => ∃ x : Du, e = .returned (.agg #[.int .i64 x.t, .int .i64 x.n]) ∧ Cur w' g a n cap ∧ w.grownBy w' (some g) := by
  have H : Hid (Cur w g a n cap) := h
  have hgl := h.lt
  have hgr : w.heap.size ≠ g := by omega
  clear h
  go_enter Try.func33, Try.ntmps33
  go_wp2_with fail
  have HR0 : Hid (Row (w.alloc (.cells #[.int .i64 0, .int .i64 0] 30)) w.heap.size [.int .i64 0, .int .i64 0]) := row_fresh w [.int .i64 0, .int .i64 0] 30
  have HG0 : Hid (w.grownBy (w.alloc (.cells #[.int .i64 0, .int .i64 0] 30)) (some g)) := World.grownBy_alloc w _ _
  have HC0 : Hid (Cur (w.alloc (.cells #[.int .i64 0, .int .i64 0] 30)) g a n cap) := H.out.below (low_alloc _ _)
  generalize w.alloc (.cells #[.int .i64 0, .int .i64 0] 30) = w0 at HR0 HG0 HC0
  refine (l01Below_c g a n cap 12 (by decide) (by decide) _ HC0.out).mono ?_
  rintro e w1 ⟨t, rfl, ht0, ht1, hg, hc⟩
  have HR1 : Hid (Row w1 w.heap.size [.int .i64 0, .int .i64 0]) := HR0.out.far hg (fun e => hgr (Option.some.inj e))
  have HG1 : Hid (w.grownBy w1 (some g)) := HG0.out.trans hg
  have HC1 : Hid (Cur w1 g a n cap) := hc
  clear hg hc HR0 HG0 HC0
  go_wp2_with fail
  refine (l01Below_c g a n cap 9 (by decide) (by decide) _ HC1.out).mono ?_
  rintro e w2 ⟨m, rfl, hm0, hm1, hg, hc⟩
  have HR2 : Hid (Row w2 w.heap.size [.int .i64 0, .int .i64 0]) := HR1.out.far hg (fun e => hgr (Option.some.inj e))
  have HG2 : Hid (w.grownBy w2 (some g)) := HG1.out.trans hg
  have HC2 : Hid (Cur w2 g a n cap) := hc
  clear hg hc HR1 HG1 HC1
  obtain ⟨u, hu⟩ : ∃ u : Int, u = 1 + m := ⟨_, rfl⟩
  have hum : 1 + m = u := hu.symm
  have hu0 : 0 ≤ u := by omega
  have hu1 : u ≤ 9 := by omega
  clear hu
  have hq2 := HR2.out.lt
  have HQ3 : Hid (Row (w2.alloc (.cells #[.int .i64 t, .int .i64 u] 30)) w2.heap.size [.int .i64 t, .int .i64 u]) := row_fresh w2 [.int .i64 t, .int .i64 u] 30
  have HR3 : Hid (Row (w2.alloc (.cells #[.int .i64 t, .int .i64 u] 30)) w.heap.size [.int .i64 0, .int .i64 0]) := HR2.out.below (low_alloc _ _)
  have HG3 : Hid (w.grownBy (w2.alloc (.cells #[.int .i64 t, .int .i64 u] 30)) (some g)) := HG2.out.trans (World.grownBy_alloc _ _ _)
  have HC3 : Hid (Cur (w2.alloc (.cells #[.int .i64 t, .int .i64 u] 30)) g a n cap) := HC2.out.below (low_alloc _ _)
  go_wp2_with fail
  generalize w2.alloc (.cells #[.int .i64 t, .int .i64 u] 30) = w3 at HQ3 HR3 HG3 HC3
  have hqg : g ≠ w2.heap.size := by have := HC2.out.lt; omega
  have hqr : w.heap.size ≠ w2.heap.size := by omega
  have hqr' : w2.heap.size ≠ w.heap.size := by omega
  have hwq : w.heap.size ≤ w2.heap.size := by omega
  generalize w2.heap.size = q at HQ3 hqg hqr hqr' hwq ⊢
  clear HR2 HG2 HC2 hq2 hum
  refine (l01Below_c g a n cap 10 (by decide) (by decide) _ HC3.out).mono ?_
  rintro e w4 ⟨k, rfl, hk0, hk1, hg, hc⟩
  have HR4 : Hid (Row w4 w.heap.size [.int .i64 0, .int .i64 0]) := HR3.out.far hg (fun e => hgr (Option.some.inj e))
  have HQ4 : Hid (Row w4 q [.int .i64 t, .int .i64 u]) := HQ3.out.far hg (fun e => hqg (Option.some.inj e).symm)
  have HG4 : Hid (w.grownBy w4 (some g)) := HG3.out.trans hg
  have HC4 : Hid (Cur w4 g a n cap) := hc
  clear hg hc HR3 HQ3 HG3 HC3
  go_upto_if 12 with fail
  go_cut [] (fun wc => ∃ t' : Int, Row wc q [.int .i64 t', .int .i64 u] ∧ Row wc w.heap.size [.int .i64 0, .int .i64 0] ∧ w.grownBy wc (some g) ∧ Cur wc g a n cap)
  case first =>
    by_cases h0 : k = 0
    · have hi : (k == 0) = true := by simp [h0]
      clear h0
      go_wp2_with fail
      refine (l01Raw_c g a n cap _ HC4.out).mono ?_
      rintro e w5 ⟨x, rfl, hg, hc⟩
      have HR5 : Hid (Row w5 w.heap.size [.int .i64 0, .int .i64 0]) := HR4.out.far hg (fun e => hgr (Option.some.inj e))
      have HQ5 : Hid (Row w5 q [.int .i64 t, .int .i64 u]) := HQ4.out.far hg (fun e => hqg (Option.some.inj e).symm)
      have HG5 : Hid (w.grownBy w5 (some g)) := HG4.out.trans hg
      have HC5 : Hid (Cur w5 g a n cap) := hc
      clear hg hc HR4 HQ4 HG4 HC4
      have c0 := HQ5.out.cell 0 _ rfl
      have f0 := HQ5.out.free 0
      have HQ6 : Hid (Row (w5.setCell ⟨q, 0, none⟩ (.int .i64 x)) q [.int .i64 x, .int .i64 u]) := HQ5.out.set 0 (by simp) _
      have HR6 : Hid (Row (w5.setCell ⟨q, 0, none⟩ (.int .i64 x)) w.heap.size [.int .i64 0, .int .i64 0]) := HR5.out.apart q 0 _ hqr
      have HG6 : Hid (w.grownBy (w5.setCell ⟨q, 0, none⟩ (.int .i64 x)) (some g)) := grown_own HG5.out (Lib.grownBy_setCell w5 q 0 _) (fun k hk => by cases hk; exact hwq)
      have HC6 : Hid (Cur (w5.setCell ⟨q, 0, none⟩ (.int .i64 x)) g a n cap) := H.out.on HG6.out HC5.out (Lib.grownBy_setCell w5 q 0 _) hqg
      go_wp2_with fail
      go_meet
      case rel => exact ⟨x, HQ6.out, HR6.out, HG6.out, HC6.out⟩
    · have hi : (k == 0) = false := by simp [h0]
      clear h0
      go_wp2_with fail
      go_meet
      case rel => exact ⟨t, HQ4.out, HR4.out, HG4.out, HC4.out⟩
  case rest =>
  obtain ⟨t', hq, hr, hg, hc⟩ := hcut
  obtain ⟨w6, hw6⟩ : ∃ u, u = wc := ⟨_, rfl⟩
  subst hw6
  have HQ6 : Hid (Row w6 q [.int .i64 t', .int .i64 u]) := hq
  have HR6 : Hid (Row w6 w.heap.size [.int .i64 0, .int .i64 0]) := hr
  have HG6 : Hid (w.grownBy w6 (some g)) := hg
  have HC6 : Hid (Cur w6 g a n cap) := hc
  clear hq hr hg hc HR4 HQ4 HG4 HC4 hk0 hk1
  go_wp2_with fail
  refine (l01Below_c g a n cap 10 (by decide) (by decide) _ HC6.out).mono ?_
  rintro e w7 ⟨k2, rfl, hk0, hk1, hg, hc⟩
  have HR7 : Hid (Row w7 w.heap.size [.int .i64 0, .int .i64 0]) := HR6.out.far hg (fun e => hgr (Option.some.inj e))
  have HQ7 : Hid (Row w7 q [.int .i64 t', .int .i64 u]) := HQ6.out.far hg (fun e => hqg (Option.some.inj e).symm)
  have HG7 : Hid (w.grownBy w7 (some g)) := HG6.out.trans hg
  have HC7 : Hid (Cur w7 g a n cap) := hc
  clear hg hc HR6 HQ6 HG6 HC6
  go_upto_if 18 with fail
  go_cut [] (fun wc => ∃ x : Du, Row wc q [.int .i64 x.t, .int .i64 x.n] ∧ Row wc w.heap.size [.int .i64 0, .int .i64 0] ∧ w.grownBy wc (some g) ∧ Cur wc g a n cap)
  case first =>
    by_cases h0 : k2 = 0
    · have hi : (k2 == 0) = true := by simp [h0]
      clear h0
      go_wp2_with fail
      refine (l01Raw_c g a n cap _ HC7.out).mono ?_
      rintro e w5 ⟨x, rfl, hg, hc⟩
      have HR5 : Hid (Row w5 w.heap.size [.int .i64 0, .int .i64 0]) := HR7.out.far hg (fun e => hgr (Option.some.inj e))
      have HQ5 : Hid (Row w5 q [.int .i64 t', .int .i64 u]) := HQ7.out.far hg (fun e => hqg (Option.some.inj e).symm)
      have HG5 : Hid (w.grownBy w5 (some g)) := HG7.out.trans hg
      have HC5 : Hid (Cur w5 g a n cap) := hc
      clear hg hc HR7 HQ7 HG7 HC7
      have c1 := HQ5.out.cell 1 _ rfl
      have f1 := HQ5.out.free 1
      have HQ6 : Hid (Row (w5.setCell ⟨q, 1, none⟩ (.int .i64 x)) q [.int .i64 t', .int .i64 x]) := HQ5.out.set 1 (by simp) _
      have HR6 : Hid (Row (w5.setCell ⟨q, 1, none⟩ (.int .i64 x)) w.heap.size [.int .i64 0, .int .i64 0]) := HR5.out.apart q 1 _ hqr
      have HG6 : Hid (w.grownBy (w5.setCell ⟨q, 1, none⟩ (.int .i64 x)) (some g)) := grown_own HG5.out (Lib.grownBy_setCell w5 q 1 _) (fun k hk => by cases hk; exact hwq)
      have HC6 : Hid (Cur (w5.setCell ⟨q, 1, none⟩ (.int .i64 x)) g a n cap) := H.out.on HG6.out HC5.out (Lib.grownBy_setCell w5 q 1 _) hqg
      go_wp2_with fail
      go_meet
      case rel => exact ⟨⟨t', x⟩, HQ6.out, HR6.out, HG6.out, HC6.out⟩
    · have hi : (k2 == 0) = false := by simp [h0]
      clear h0
      go_wp2_with fail
      go_meet
      case rel => exact ⟨⟨t', u⟩, HQ7.out, HR7.out, HG7.out, HC7.out⟩
  case rest =>
  obtain ⟨x, hq, hr, hg, hc⟩ := hcut
  obtain ⟨w8, hw8⟩ : ∃ u, u = wc := ⟨_, rfl⟩
  subst hw8
  have HQ8 : Hid (Row w8 q [.int .i64 x.t, .int .i64 x.n]) := hq
  have HR8 : Hid (Row w8 w.heap.size [.int .i64 0, .int .i64 0]) := hr
  have HG8 : Hid (w.grownBy w8 (some g)) := hg
  have HC8 : Hid (Cur w8 g a n cap) := hc
  clear hq hr hg hc HR7 HQ7 HG7 HC7 hk0 hk1
  have c0 := HQ8.out.cell 0 _ rfl
  have c1 := HQ8.out.cell 1 _ rfl
  go_wp2_with (refine stay_store 30 ?_)
  refine ⟨?_⟩
  refine wpList_store_mid rfl 30 _ _ rfl w.heap.size 0 _ rfl rfl (HR8.out.room 0 2 (by simp)) szDue (by simp [Value.oneCell']) ?_
  show wpList _ _ _ _ _ (w8.setCells w.heap.size 0 [.int .i64 x.t, .int .i64 x.n])
  have HR9 : Hid (Row (w8.setCells w.heap.size 0 [.int .i64 x.t, .int .i64 x.n]) w.heap.size [.int .i64 x.t, .int .i64 x.n]) := HR8.out.setCs [.int .i64 x.t, .int .i64 x.n] 0 (by simp)
  have HG9 : Hid (w.grownBy (w8.setCells w.heap.size 0 [.int .i64 x.t, .int .i64 x.n]) (some g)) := grown_own HG8.out (grown_setCs _ _) (fun k hk => by cases hk; exact Nat.le_refl _)
  have HC9 : Hid (Cur (w8.setCells w.heap.size 0 [.int .i64 x.t, .int .i64 x.n]) g a n cap) := H.out.on HG9.out HC8.out (grown_setCs [.int .i64 x.t, .int .i64 x.n] 0) (Ne.symm hgr)
  generalize w8.setCells w.heap.size 0 [.int .i64 x.t, .int .i64 x.n] = w9 at HR9 HG9 HC9 ⊢
  clear c0 c1 HQ8 HR8 HG8 HC8
  go_wp2_with fail
  have hv := run_loadVar_mid (P := Try.prog) w9 w.heap.size 0 30 [.int .i64 x.t, .int .i64 x.n] _ HR9.out.all Try.underlying30 rfl szDue
  exact bodyPost_ret (results_one Try.results33 rfl hv) rfl ⟨x, rfl, HC9.out, HG9.out⟩
set_option maxHeartbeats 4000000 in
set_option maxRecDepth 100000 in
theorem drawHeapOf_c (a : Option Addr) (n cap : Nat) (w : World) (h : CodeIs w a n) :
    Calls Try.prog 10 #[.slice a n cap] w fun e w' => ∃ (b c : Nat) (l : List Du), e = .returned (.slice (some ⟨b, 0, none⟩) l.length c) ∧ l.length ≤ 14 ∧ Row w' b (flatD l) ∧ Below w.heap.size w w' := by
  have H : Hid (CodeIs w a n) := h
  clear h
  obtain ⟨i0, hi, hz0, hz1, hz2⟩ := info_parts infoDue
  go_enter Try.func10, Try.ntmps10
  go_wp2_with fail
  refine (l01New_c a n cap _ H.out).mono ?_
  rintro e w1 ⟨g, rfl, hg1, hb1, hc1⟩
  have HB1 : Hid (Below w.heap.size w w1) := hb1
  have HC1 : Hid (Cur w1 g a n cap) := hc1
  have hwg : w.heap.size ≤ g := hg1
  clear hb1 hc1 hg1
  go_wp2_with fail
  refine (l10Draw_c g a n cap _ HC1.out).mono ?_
  rintro e w2 ⟨b, c, l, rfl, hl, ho, hc, hg⟩
  have hw1 := HB1.out.size
  have HO2 : Hid (w2.ownsRow w.heap.size 30 2 (.slice (some ⟨b, 0, none⟩) l.length c) l.length (flatD l)) := owns_mono2 ho hw1
  have hgb : b ≠ g := by have := (ho.lt b rfl).1; have := HC1.out.lt; omega
  have HB2 : Hid (Below w.heap.size w w2) := below_grown HB1.out hg hwg
  have HC2 : Hid (Cur w2 g a n cap) := hc
  clear ho hc hg HB1 HC1 hw1
  go_wp2_with fail
  refine (l01Below_c g a n cap 8 (by decide) (by decide) _ HC2.out).mono ?_
  rintro e w3 ⟨k, rfl, hk0, hk1, hg, hc⟩
  have HO3 : Hid (w3.ownsRow w.heap.size 30 2 (.slice (some ⟨b, 0, none⟩) l.length c) l.length (flatD l)) := HO2.out.kept hg (.inr (fun e => hgb (Option.some.inj e)))
  have HB3 : Hid (Below w.heap.size w w3) := below_grown HB2.out hg hwg
  have HC3 : Hid (Cur w3 g a n cap) := hc
  clear hc hg HO2 HB2 HC2
  by_cases h0 : k = 0
  · have hi0 : (k == 0) = true := by simp [h0]
    clear h0
    go_wp2_with fail
    refine (l10One_c g a n cap _ HC3.out).mono ?_
    rintro e w4 ⟨x, rfl, hc, hg⟩
    have HO4 : Hid ((w4.alloc (.cells #[.int .i64 x.t, .int .i64 x.n] 30)).ownsRow w.heap.size 30 2 (.slice (some ⟨b, 0, none⟩) l.length c) l.length (flatD l)) := (HO3.out.kept hg (.inr (fun e => hgb (Option.some.inj e)))).alloc _
    have HB4 : Hid (Below w.heap.size w (w4.alloc (.cells #[.int .i64 x.t, .int .i64 x.n] 30))) := behind_alloc (below_grown HB3.out hg hwg) _
    have hs4 := HB4.out.size
    clear hc hg HO3 HB3 HC3
    go_wp2_with (at_builtin; refine wpList_append_own_at _ rfl _ _ 23 rfl w.heap.size 30 i0 (.agg #[.int .i64 0, .int .i64 0]) 2 16 Try.underlying23 hi hz0 hz1 hz2 rfl (by decide) (.slice (some ⟨b, 0, none⟩) l.length c) l.length (flatD l) rfl HO4.out ⟨w4.heap.size, 0, none⟩ 1 1 [.int .i64 x.t, .int .i64 x.n] rfl rfl ?c1 ?c2 ?c3 ?c4 ?c5 ?_)
    case c1 =>
      intro j v hv
      rw [add_plain, Nat.zero_add]
      exact (row_fresh w4 [.int .i64 x.t, .int .i64 x.n] 30).cell j v hv
    case c2 => simp [Value.oneCell']
    case c3 => unfold maxLen; omega
    case c4 => omega
    case c5 => exact hs4
    · intro v' w7 hown hgrow _ hat
      obtain ⟨b', c', rfl⟩ : ∃ b' c', v' = .slice (some ⟨b', 0, none⟩) (l.length + 1) c' := by
        rcases hown.2 with ⟨_, hz⟩ | ⟨g', cap, _, e, _⟩
        · omega
        · exact ⟨g', cap, e⟩
      have HR7 : Hid (Row w7 b' (flatD (l ++ [x]))) := by
        show Row _ _ _
        rw [flatD_add]
        exact (owns_row hown).1
      have HB7 : Hid (Below w.heap.size w w7) := HB4.out.grown hgrow hs4 (fun k hk => (HO4.out.lt k hk).1)
      clear hown hgrow hat HO4 HB4 hs4
      go_wp2_with fail
      go_ret
      exact ⟨b', c', l ++ [x], by rw [List.length_append]; rfl, by rw [List.length_append]; simp; omega, HR7.out, HB7.out⟩
  · have hi0 : (k == 0) = false := by simp [h0]
    clear h0
    have HR3 : Hid (Row w3 b (flatD l)) := (owns_row HO3.out).1
    go_wp2_with fail
    go_ret
    exact ⟨b, c, l, rfl, by omega, HR3.out, HB3.out⟩
end Go.Proofs.Ytdmmjggkdkmeaaa

namespace Go.Proofs.Ytdmmjggkdkmeaaa
open Go.ChangeShapes Go.WideShapes Go.ChangeAt Go.RowKit

/-- What the fields of two structs show, one by one. -/
def Fits (P : Program) (d : Nat) (xs ys : Array Value) : List (String × TypeId × Nat) → List Bool → Prop
  | [], [] => True
  | x :: L, r :: rs => (x.1 ≠ "_" ∧ ∃ a b, (∀ w, (part x.2.1 xs x.2.2).run P w = .ok a w) ∧ (∀ w, (part x.2.1 ys x.2.2).run P w = .ok b w) ∧ ∀ w, (Op.equalIn d x.2.1 a b).run P w = .ok r w) ∧ Fits P d xs ys L rs
  | _, _ => False

theorem eqf_fits {P : Program} {d : Nat} {xs ys : Array Value} : ∀ (L : List (String × TypeId × Nat)) (fs : List Field) (rs : List Bool), fs.map (fun f => (f.name, f.type, f.offset)) = L → Fits P d xs ys L rs →
    ∀ w, (Op.eqFields d xs ys fs).run P w = .ok (rs.all id) w
  | [], [], [], _, _, w => by simp [Op.eqFields]
  | x :: L, [], _, h, _, _ => by simp at h
  | [], f :: fs, _, h, _, _ => by simp at h
  | x :: L, f :: fs, [], _, h, _ => by simp [Fits] at h
  | [], [], r :: rs, _, h, _ => by simp [Fits] at h
  | x :: L, f :: fs, r :: rs, h, hf, w => by
    simp only [List.map_cons, List.cons.injEq] at h
    obtain ⟨rfl, h2⟩ := h
    obtain ⟨⟨hn, a, b, h1, h3, h4⟩, hr⟩ := hf
    have hi := eqf_fits L fs rs h2 hr w
    simp only at hn h1 h3 h4
    simp only [Op.eqFields, hn, ne_eq, not_false_eq_true, if_true, Sem.run_bind, h1, h3, h4, Result.andThen_ok]
    cases r <;> simp [hi]

/-- Two vectors, held against each other. -/
def veB (a b c x y z : Int) : Bool := [a == x, b == y, c == z].all id
/-- Two jobs. -/
def jeB (j k : Jb) : Bool := [j.id == k.id, j.pr == k.pr, j.nd == k.nd, veB j.na j.nb j.nc k.na k.nb k.nc, veB j.la j.lb j.lc k.la k.lb k.lc, j.wl == k.wl, j.lv == k.lv].all id
/-- Two commands. -/
def ceB (s : Int) (j : Jb) (n a b c t : Int) (k : Jb) (m x y z : Int) : Bool := [s == t, jeB j k, n == m, veB a b c x y z].all id

end Go.Proofs.Ytdmmjggkdkmeaaa

namespace Go.Proofs.Ytdmmjggkdkmeaaa
open Go.ChangeShapes Go.WideShapes Go.ChangeAt Go.RowKit

/-- Two dues, held against each other. -/
def eqB (x y : Du) : Bool := [x.t == y.t, x.n == y.n].all id
theorem dueFields : (Try.prog.fieldsOf 30).toList.map (fun f => (f.name, f.type, f.offset)) = [("At", 3, 0), ("Id", 3, 1)] := by kernel_rfl
set_option maxRecDepth 100000 in
theorem eq_due (d : Nat) (x y : Du) (w : World) : (Op.equalIn (d + 2) 30 (.agg #[.int .i64 x.t, .int .i64 x.n]) (.agg #[.int .i64 y.t, .int .i64 y.n])).run Try.prog w = .ok (eqB x y) w := by
  rw [run_equalIn_struct w (d + 1) 30 _ _ (by rfl) (by kernel_rfl)]
  refine eqf_fits _ _ [x.t == y.t, x.n == y.n] dueFields ?_ w
  refine ⟨⟨by decide, .int .i64 x.t, .int .i64 y.t, fun w => by simp [go_sem], fun w => by simp [go_sem], fun w => run_equalIn_int w d 3 _ _ _ _ Try.underlying3⟩, ?_⟩
  exact ⟨⟨by decide, .int .i64 x.n, .int .i64 y.n, fun w => by simp [go_sem], fun w => by simp [go_sem], fun w => run_equalIn_int w d 3 _ _ _ _ Try.underlying3⟩, trivial⟩
/-- How often one lies in a list. -/
def cntD (l : List Du) (x : Du) : Nat := l.countP (fun y => eqB y x)
theorem cntD_le (l : List Du) (x : Du) : cntD l x ≤ l.length := List.countP_le_length
theorem cntD_next {l : List Du} {j : Nat} (h : j < l.length) (x : Du) : cntD (l.take (j + 1)) x = cntD (l.take j) x + (bif eqB l[j] x then 1 else 0) := by
  unfold cntD
  rw [List.take_add_one, List.getElem?_eq_getElem h, Option.toList_some, List.countP_append]
  cases hb : eqB l[j] x <;> simp [hb]
theorem cntD_perm {l m : List Du} (h : l.Perm m) (x : Du) : cntD l x = cntD m x := h.countP_eq _
theorem dof_perm : ∀ (l acc r : List Du), dof acc l = some r → r.Perm (acc ++ l)
  | [], acc, r, h => by
    simp only [dof, Option.some.injEq] at h
    subst h
    simp
  | x :: l, acc, r, h => by
    unfold dof at h
    split at h
    · have h1 := dof_perm l _ r h
      have h2 : (dpush acc x ++ l).Perm ((acc ++ [x]) ++ l) := (dpush_perm acc x).append_right l
      rw [List.append_assoc] at h2
      exact h1.trans h2
    · cases h
theorem dof_ok : ∀ (l acc r : List Du), HOk acc → dof acc l = some r → HOk r
  | [], acc, r, ha, h => by
    simp only [dof, Option.some.injEq] at h
    subst h
    exact ha
  | x :: l, acc, r, ha, h => by
    unfold dof at h
    split at h
    · rename_i hc
      exact dof_ok l _ r (push_ok ⟨ha, hc.1, hc.2⟩) h
    · cases h
set_option maxHeartbeats 4000000 in
set_option maxRecDepth 100000 in
/-- The loops: each that is told is told as often as it was put in, and none comes ahead of the one before it. -/
theorem fnHeap_walk (a : Option Addr) (n cap : Nat) (w : World) (h : n ≤ 1048576 → CodeIs w a n) :
    Calls Try.prog 3 #[.slice a n cap] w fun e w' => e = .returned (.bool true) ∧ Below w.heap.size w w' := by
  have H : Hid (n ≤ 1048576 → CodeIs w a n) := h
  clear h
  by_cases hn : n ≤ 1048576
  · have hi : ¬ (1048576 : Int) < (n : Int) := by omega
    have HC : Hid (CodeIs w a n) := H.out hn
    clear H
    go_enter Try.func3, Try.ntmps3
    go_wp2_with fail
    refine (drawHeapOf_c a n cap _ HC.out).mono ?_
    rintro e w1 ⟨b, c, l, rfl, hl, hr, hb⟩
    have HR1 : Hid (Row w1 b (flatD l)) := hr
    have HB1 : Hid (Below w.heap.size w w1) := hb
    clear hr hb hi hn HC
    go_wp2_with fail
    refine (implHeapOf_c _ _ l (by omega) _ (Sq.of_row HR1.out)).mono ?_
    rintro e w2 ⟨k, v, rfl, hk, hans, hb⟩
    have HR2 : Hid (Row w2 b (flatD l)) := HR1.out.below hb
    have HB2 : Hid (Below w.heap.size w w2) := below_then HB1.out hb
    have HK : Hid ((dof [] l).isSome = k) := hk
    have HA2 : Hid (AnsD w1.heap.size w2.heap.size w2 ((dof [] l).getD []).length (flatD ((dof [] l).getD [])) v) := hans
    clear hk hans hb HR1 HB1
    go_wp2_with fail
    refine (specHeapOf_c _ _ l (by omega) _ (Sq.of_row HR2.out)).mono ?_
    rintro e w3 ⟨k2, v2, rfl, hk, hans, hb⟩
    obtain rfl : k = k2 := HK.out.symm.trans hk
    have HR3 : Hid (Row w3 b (flatD l)) := HR2.out.below hb
    have HB3 : Hid (Below w.heap.size w w3) := below_then HB2.out hb
    have HA3 : Hid (AnsD w1.heap.size w2.heap.size w3 ((dof [] l).getD []).length (flatD ((dof [] l).getD [])) v) := HA2.out.below hb
    clear hk hans hb HR2 HB2 HA2
    cases hd : dof [] l with
    | none =>
      have hkf : k = false := by rw [← HK.out, hd]; rfl
      subst hkf
      obtain ⟨a1, c1, rfl⟩ : ∃ a1 c1, v = .slice a1 0 c1 := by
        obtain ⟨_, a1, c1, e, _⟩ := HA3.out
        rw [hd] at e
        exact ⟨a1, c1, e⟩
      clear hd HA3 HK
      go_wp2_with fail
      go_ret
      exact ⟨rfl, HB3.out⟩
    | some r =>
      have hkt : k = true := by rw [← HK.out, hd]; rfl
      subst hkt
      obtain ⟨N, hN⟩ : ∃ N, l.length = N := ⟨_, rfl⟩
      have hrl : r.length = N := by rw [(dof_some l [] r hd).1]; simp [hN]
      have HRl : Hid (r.length = N) := hrl
      have HL : Hid (l.length = N) := hN
      have HOk3 : Hid (HOk r) := dof_ok l [] r nil_ok hd
      have HPm : Hid (r.Perm l) := dof_perm l [] r hd
      have HAr := HA3.out
      rw [hd] at HAr
      obtain ⟨a1, c1, rfl, hs1⟩ := HAr.form
      have HS3 : Hid (Sq w3 a1 (flatD r)) := hs1
      simp only [Option.getD_some]
      rw [hrl]
      rw [hN] at hl ⊢
      clear hd HA3 HK HAr hs1 hN
      have hc := implHeapAll_c a1 c1 r (by omega) w3 HS3.out
      rw [hrl] at hc
      have HCl : Hid (Calls Try.prog 13 #[.slice a1 N c1] w3 (RetL w3 (dallR r))) := hc
      clear hc hrl
      go_wp2_with fail
      refine HCl.out.mono ?_
      rintro e w4 ⟨v3, rfl, hans, hb⟩
      have HDe : Hid (dallR r = dall r.length r) := by show _ = _; unfold dallR; rw [if_pos HOk3.out]
      obtain ⟨A, hA⟩ : ∃ A, dallR r = A := ⟨_, rfl⟩
      have HPa : Hid (A.Perm l) := by show _; rw [← hA, HDe.out]; exact (dall_perm _ r (Nat.le_refl _)).trans HPm.out
      have HSo : Hid (A.Pairwise (fun a b => duL b a = false)) := by show _; rw [← hA, HDe.out]; exact dall_sorted _ r (Nat.le_refl _) HOk3.out.heap
      rw [hA] at hans
      have HAl : Hid (A.length = N) := by show _ = _; rw [HPa.out.length_eq, HL.out]
      obtain ⟨a3, c3, rfl, hs3⟩ := hans.form
      have HS4 : Hid (Sq w4 a3 (flatD A)) := hs3
      have HR4 : Hid (Row w4 b (flatD l)) := HR3.out.below hb
      have HH4 : Hid (Sq w4 a1 (flatD r)) := HS3.out.below hb
      have HB4 : Hid (Below w.heap.size w w4) := below_then HB3.out hb
      rw [HAl.out]
      clear hans hb hs3 hA HDe HCl HR3 HS3 HB3
      go_wp2_with fail
      go_loopw [45] (fun i wr => ∃ k : Nat, k ≤ N ∧ i = .int .i64 k ∧ Below w4.heap.size w4 wr) (fun i _ => N - (intOf i).toNat)
      case atStart => exact ⟨0, Nat.zero_le _, rfl, Below.refl _ _⟩
      case round =>
        obtain ⟨k, hk, rfl, hb⟩ := hrel
        have HB : Hid (Below w4.heap.size w4 wr) := hb
        clear hb
        by_cases hlt : k < N
        · have hj0 : (0 : Int) ≤ (k : Int) := by omega
          have hj1 : (k : Int) < (N : Int) := by omega
          have hkA : k < A.length := by rw [HAl.out]; exact hlt
          have HX : Hid (A[k]? = some A[k]) := List.getElem?_eq_getElem hkA
          have HPrev : Hid (∀ j y, j + 1 = k → A[j]? = some y → duL A[k] y = false) := fun j y e hy => by
            have hjA : j < A.length := by omega
            have e2 : A[j] = y := by rw [List.getElem?_eq_getElem hjA] at hy; exact Option.some.inj hy
            rw [← e2]
            exact List.pairwise_iff_getElem.1 HSo.out j k hjA hkA (by omega)
          obtain ⟨p, rfl⟩ := HS4.out.some_ofD k hkA
          generalize A[k] = x at HX HPrev
          clear hkA
          have hsome := beh_some wr
          have x0 := Beh.due0 (HS4.out.below HB.out) HX.out
          have x1 := Beh.dueK (HS4.out.below HB.out) HX.out 1 (by decide) _ rfl
          go_wp2_with fail
          rcases Nat.eq_zero_or_pos k with hk0 | hk0
          · have hg0 : decide (0 < k) = false := by simp; omega
            clear hk0 HPrev
            refine wp_region_beh (by kernel_rfl) (by kernel_rfl) ?_
            repeat (go_big_quiet_step (fail))
            refine wpQuiet_nil ?_
            rintro ⟨w5, hb5⟩
            have HB5 : Hid (Below w4.heap.size w4 w5) := below_then HB.out hb5
            clear hg0 x0 x1 hsome
            go_wp2_with fail
            go_loopw [64, 10, 11] (fun iv nv mv wr => ∃ j : Nat, j ≤ N ∧ iv = .int .i64 j ∧ nv = .int .i64 (cntD (l.take j) x : Nat) ∧ mv = .int .i64 (cntD (A.take j) x : Nat) ∧ Below w4.heap.size w4 wr) (fun iv _ _ _ => N - (intOf iv).toNat)
            case atStart => exact ⟨0, Nat.zero_le _, rfl, by simp [cntD], by simp [cntD], HB5.out⟩
            case round =>
              obtain ⟨j, hj, rfl, rfl, rfl, hb⟩ := hrel
              have HBi : Hid (Below w4.heap.size w4 wr) := hb
              clear hb HB5
              by_cases hjl : j < N
              · have hl0 : j < l.length := by rw [HL.out]; exact hjl
                have hA0 : j < A.length := by rw [HAl.out]; exact hjl
                have HN1 : Hid (cntD (l.take (j + 1)) x = cntD (l.take j) x + (bif eqB l[j] x then 1 else 0)) := cntD_next hl0 x
                have HN2 : Hid (cntD (A.take (j + 1)) x = cntD (A.take j) x + (bif eqB A[j] x then 1 else 0)) := cntD_next hA0 x
                have hc1 := cntD_le (l.take j) x
                have hc2 := cntD_le (A.take j) x
                rw [List.length_take] at hc1 hc2
                have HY : Hid (l[j]? = some l[j]) := List.getElem?_eq_getElem hl0
                have HZ : Hid (A[j]? = some A[j]) := List.getElem?_eq_getElem hA0
                have HYc : Hid (∀ r u, (l[j].cells)[r]? = some u → r < 2 → (flatD l)[j * 2 + r]? = some u) := fun r u hu hr => by rw [flatD_get l j r hl0 hr]; exact hu
                generalize l[j] = y at HY HN1 HYc
                generalize A[j] = z at HZ HN2
                generalize cntD (l.take j) x = m1 at HN1 hc1 ⊢
                generalize cntD (A.take j) x = m2 at HN2 hc2 ⊢
                have hm1 : (m1 : Int) ≤ 14 := by omega
                have hm2 : (m2 : Int) ≤ 14 := by omega
                have hm3 : (0 : Int) ≤ (m1 : Int) := by omega
                have hm4 : (0 : Int) ≤ (m2 : Int) := by omega
                have hi0 : (0 : Int) ≤ (j : Int) := by omega
                have hi1 : (j : Int) < (N : Int) := by omega
                have hsome := beh_some wr
                have x0 := Beh.due0 (HS4.out.below HBi.out) HX.out
                have x1 := Beh.dueK (HS4.out.below HBi.out) HX.out 1 (by decide) _ rfl
                have y0 := Beh.row (HR4.out.below HBi.out) (j * 2) _ (HYc.out 0 _ rfl (by decide))
                have y1 := Beh.row (HR4.out.below HBi.out) (j * 2 + 1) _ (HYc.out 1 _ rfl (by decide))
                have hq1 : ∀ W : World, (Op.equalIn 10000 30 (.agg #[.int .i64 y.t, .int .i64 y.n]) (.agg #[.int .i64 x.t, .int .i64 x.n])).run Try.prog W = .ok (eqB y x) W := fun W => eq_due 9998 y x W
                have hq2 : ∀ W : World, (Op.equalIn 10000 30 (.agg #[.int .i64 z.t, .int .i64 z.n]) (.agg #[.int .i64 x.t, .int .i64 x.n])).run Try.prog W = .ok (eqB z x) W := fun W => eq_due 9998 z x W
                generalize eqB y x = b1 at hq1 HN1
                generalize eqB z x = b2 at hq2 HN2
                clear hc1 hc2 hl0 hA0
                go_wp2_with fail
                refine wp_region_beh (by kernel_rfl) (by kernel_rfl) ?_
                repeat (go_big_quiet_step (fail))
                refine wpQuiet_nil ?_
                rintro ⟨w6, hb6⟩
                have HB6 : Hid (Below w4.heap.size w4 w6) := below_then HBi.out hb6
                clear x0 x1 y0 y1 hsome hq1
                have hsome := beh_some w6
                have x0 := Beh.due0 (HS4.out.below HB6.out) HX.out
                have x1 := Beh.dueK (HS4.out.below HB6.out) HX.out 1 (by decide) _ rfl
                have z0 := Beh.due0 (HS4.out.below HB6.out) HZ.out
                have z1 := Beh.dueK (HS4.out.below HB6.out) HZ.out 1 (by decide) _ rfl
                cases b1
                all_goals
                  go_wp2_with fail
                  refine wp_region_beh (by kernel_rfl) (by kernel_rfl) ?_
                  repeat (go_big_quiet_step (fail))
                  refine wpQuiet_nil ?_
                  rintro ⟨w7, hb7⟩
                  have HB7 : Hid (Below w4.heap.size w4 w7) := below_then HB6.out hb7
                  clear x0 x1 z0 z1 hsome hq2
                  cases b2
                  all_goals
                    go_wp2_with fail
                    go_roundw
                    case rel => exact ⟨j + 1, by omega, by go_num, by rw [HN1.out]; go_num, by rw [HN2.out]; go_num, HB7.out⟩
                    case measure => simp [intOf]; omega
              · have hjN : j = N := by omega
                have HE : Hid (cntD (l.take j) x = cntD (A.take j) x) := by
                  show _ = _
                  rw [List.take_of_length_le (by rw [HL.out]; omega), List.take_of_length_le (by rw [HAl.out]; omega)]
                  exact cntD_perm HPa.out.symm x
                rw [HE.out]
                generalize cntD (A.take j) x = m1
                clear HE
                go_wp2_with fail
                go_roundw
                case rel => exact ⟨k + 1, by omega, by go_num, HBi.out⟩
                case measure => simp [intOf]; omega
          · have hg0 : decide (0 < k) = true := by simp; omega
            obtain ⟨j, hj⟩ : ∃ j, j + 1 = k := ⟨k - 1, by omega⟩
            have hjm : (k : Int) - 1 = (j : Int) := by omega
            have hm0 : (0 : Int) ≤ (j : Int) := by omega
            have hm1 : (j : Int) < (N : Int) := by omega
            have hjA : j < A.length := by rw [HAl.out]; omega
            have HY : Hid (A[j]? = some A[j]) := List.getElem?_eq_getElem hjA
            generalize A[j] = y at HY
            have y0 := Beh.due0 (HS4.out.below HB.out) HY.out
            have y1 := Beh.dueK (HS4.out.below HB.out) HY.out 1 (by decide) _ rfl
            have HDf : Hid (∀ W : World, Calls Try.prog 14 #[.agg #[.int .i64 x.t, .int .i64 x.n], .agg #[.int .i64 y.t, .int .i64 y.n]] W fun e w' => e = .returned (.bool false) ∧ Below W.heap.size W w') := fun W => by
              have := implDueFirst_c x y W
              rwa [HPrev.out j y hj HY.out] at this
            clear hk0 HPrev hj hjA HY
            refine wp_region_beh (by kernel_rfl) (by kernel_rfl) ?_
            repeat (go_big_quiet_step (first | (go_at_call 14; exact calls_beh (HDf.out _))))
            refine wpQuiet_nil ?_
            rintro ⟨w5, hb5⟩
            have HB5 : Hid (Below w4.heap.size w4 w5) := below_then HB.out hb5
            clear hg0 x0 x1 y0 y1 hjm hm0 hm1 HDf hsome
            go_wp2_with fail
            go_loopw [64, 10, 11] (fun iv nv mv wr => ∃ j : Nat, j ≤ N ∧ iv = .int .i64 j ∧ nv = .int .i64 (cntD (l.take j) x : Nat) ∧ mv = .int .i64 (cntD (A.take j) x : Nat) ∧ Below w4.heap.size w4 wr) (fun iv _ _ _ => N - (intOf iv).toNat)
            case atStart => exact ⟨0, Nat.zero_le _, rfl, by simp [cntD], by simp [cntD], HB5.out⟩
            case round =>
              obtain ⟨j, hj, rfl, rfl, rfl, hb⟩ := hrel
              have HBi : Hid (Below w4.heap.size w4 wr) := hb
              clear hb HB5
              by_cases hjl : j < N
              · have hl0 : j < l.length := by rw [HL.out]; exact hjl
                have hA0 : j < A.length := by rw [HAl.out]; exact hjl
                have HN1 : Hid (cntD (l.take (j + 1)) x = cntD (l.take j) x + (bif eqB l[j] x then 1 else 0)) := cntD_next hl0 x
                have HN2 : Hid (cntD (A.take (j + 1)) x = cntD (A.take j) x + (bif eqB A[j] x then 1 else 0)) := cntD_next hA0 x
                have hc1 := cntD_le (l.take j) x
                have hc2 := cntD_le (A.take j) x
                rw [List.length_take] at hc1 hc2
                have HY : Hid (l[j]? = some l[j]) := List.getElem?_eq_getElem hl0
                have HZ : Hid (A[j]? = some A[j]) := List.getElem?_eq_getElem hA0
                have HYc : Hid (∀ r u, (l[j].cells)[r]? = some u → r < 2 → (flatD l)[j * 2 + r]? = some u) := fun r u hu hr => by rw [flatD_get l j r hl0 hr]; exact hu
                generalize l[j] = y at HY HN1 HYc
                generalize A[j] = z at HZ HN2
                generalize cntD (l.take j) x = m1 at HN1 hc1 ⊢
                generalize cntD (A.take j) x = m2 at HN2 hc2 ⊢
                have hm1 : (m1 : Int) ≤ 14 := by omega
                have hm2 : (m2 : Int) ≤ 14 := by omega
                have hm3 : (0 : Int) ≤ (m1 : Int) := by omega
                have hm4 : (0 : Int) ≤ (m2 : Int) := by omega
                have hi0 : (0 : Int) ≤ (j : Int) := by omega
                have hi1 : (j : Int) < (N : Int) := by omega
                have hsome := beh_some wr
                have x0 := Beh.due0 (HS4.out.below HBi.out) HX.out
                have x1 := Beh.dueK (HS4.out.below HBi.out) HX.out 1 (by decide) _ rfl
                have y0 := Beh.row (HR4.out.below HBi.out) (j * 2) _ (HYc.out 0 _ rfl (by decide))
                have y1 := Beh.row (HR4.out.below HBi.out) (j * 2 + 1) _ (HYc.out 1 _ rfl (by decide))
                have hq1 : ∀ W : World, (Op.equalIn 10000 30 (.agg #[.int .i64 y.t, .int .i64 y.n]) (.agg #[.int .i64 x.t, .int .i64 x.n])).run Try.prog W = .ok (eqB y x) W := fun W => eq_due 9998 y x W
                have hq2 : ∀ W : World, (Op.equalIn 10000 30 (.agg #[.int .i64 z.t, .int .i64 z.n]) (.agg #[.int .i64 x.t, .int .i64 x.n])).run Try.prog W = .ok (eqB z x) W := fun W => eq_due 9998 z x W
                generalize eqB y x = b1 at hq1 HN1
                generalize eqB z x = b2 at hq2 HN2
                clear hc1 hc2 hl0 hA0
                go_wp2_with fail
                refine wp_region_beh (by kernel_rfl) (by kernel_rfl) ?_
                repeat (go_big_quiet_step (fail))
                refine wpQuiet_nil ?_
                rintro ⟨w6, hb6⟩
                have HB6 : Hid (Below w4.heap.size w4 w6) := below_then HBi.out hb6
                clear x0 x1 y0 y1 hsome hq1
                have hsome := beh_some w6
                have x0 := Beh.due0 (HS4.out.below HB6.out) HX.out
                have x1 := Beh.dueK (HS4.out.below HB6.out) HX.out 1 (by decide) _ rfl
                have z0 := Beh.due0 (HS4.out.below HB6.out) HZ.out
                have z1 := Beh.dueK (HS4.out.below HB6.out) HZ.out 1 (by decide) _ rfl
                cases b1
                all_goals
                  go_wp2_with fail
                  refine wp_region_beh (by kernel_rfl) (by kernel_rfl) ?_
                  repeat (go_big_quiet_step (fail))
                  refine wpQuiet_nil ?_
                  rintro ⟨w7, hb7⟩
                  have HB7 : Hid (Below w4.heap.size w4 w7) := below_then HB6.out hb7
                  clear x0 x1 z0 z1 hsome hq2
                  cases b2
                  all_goals
                    go_wp2_with fail
                    go_roundw
                    case rel => exact ⟨j + 1, by omega, by go_num, by rw [HN1.out]; go_num, by rw [HN2.out]; go_num, HB7.out⟩
                    case measure => simp [intOf]; omega
              · have hjN : j = N := by omega
                have HE : Hid (cntD (l.take j) x = cntD (A.take j) x) := by
                  show _ = _
                  rw [List.take_of_length_le (by rw [HL.out]; omega), List.take_of_length_le (by rw [HAl.out]; omega)]
                  exact cntD_perm HPa.out.symm x
                rw [HE.out]
                generalize cntD (A.take j) x = m1
                clear HE
                go_wp2_with fail
                go_roundw
                case rel => exact ⟨k + 1, by omega, by go_num, HBi.out⟩
                case measure => simp [intOf]; omega
        · go_wp2_with fail
          have hc := implHeapOk_c a1 c1 r (by rw [HRl.out]; omega) wr (HH4.out.below HB.out)
          rw [HRl.out] at hc
          have HCo : Hid (Calls Try.prog 15 #[.slice a1 N c1] wr (Says wr (HOk r))) := hc
          clear hc
          go_wp2_with fail
          refine HCo.out.mono ?_
          rintro e w5 ⟨k5, rfl, hk5, hb⟩
          obtain rfl : true = k5 := (hk5.2 HOk3.out).symm
          have HB5 : Hid (Below w.heap.size w w5) := below_then (below_then HB4.out HB.out) hb
          clear hb hk5
          go_wp2_with fail
          go_ret
          exact ⟨rfl, HB5.out⟩
  · have hi : (1048576 : Int) < (n : Int) := by omega
    clear H hn
    go_enter Try.func3, Try.ntmps3
    go_wp2_with fail
    go_ret
    exact ⟨rfl, Below.refl _ _⟩
end Go.Proofs.Ytdmmjggkdkmeaaa

namespace Go.Proofs.Ytdmmjggkdkmeaaa
open Go.ChangeShapes Go.WideShapes Go.ChangeAt Go.RowKit

theorem laidOutAll : laidOutB Try.prog = true := by kernel_rfl
theorem cellsByte : Try.prog.cellsOf 5 = 1 := by kernel_rfl

theorem byte_in {x : Int} (h : (Lit.int .u8 x).wf = true) : 0 ≤ x ∧ x < 256 := by
  have h1 : IntKind.u8.min = 0 := rfl
  have h2 : IntKind.u8.max = 255 := rfl
  simp only [Lit.wf, Bool.and_eq_true, decide_eq_true_eq] at h
  omega

/-- A code that came in: its length, and its bytes where it is no longer than the laws look at. -/
theorem code_opened {H : Type} {enc : TypeId × Value → H} {W : World} {a : Option Addr} {n cap : Nat} {d : DataW H} {p : List MemPlace}
    (h : DataW.Trod enc Try.prog W 0 (fun _ => true) true 22 (.slice a n cap) d p) : n ≤ maxLen ∧ (n ≤ 1048576 → CodeIs W a n) := by
  obtain ⟨fuel, hf⟩ := h
  rcases open_ints Try.underlying22 Try.underlying5 cellsByte hf with ⟨hcs, _⟩ | ⟨b, len, c, zs, hcs, _, hl, hm, hz, _, hcell, hwz⟩
  · simp [Value.cells] at hcs
    obtain ⟨rfl, rfl, rfl⟩ := hcs
    exact ⟨Nat.zero_le _, fun _ => ⟨by omega, fun i hi => by omega⟩⟩
  · simp [Value.cells] at hcs
    obtain ⟨rfl, rfl, rfl⟩ := hcs
    simp only [if_true] at hz
    refine ⟨by omega, fun hn => ⟨hn, fun i hi => ?_⟩⟩
    have hi' : i < zs.length := by omega
    have hc := hcell i hi'
    have hg : zs.getD i 0 = zs[i] := by simp [List.getD, hi']
    have hw := byte_in (hwz zs[i] (List.getElem_mem hi'))
    refine ⟨b, zs[i], rfl, ?_, by rw [hc, hg], hw.1, hw.2⟩
    have := World.block_lt_of_cell? _ _ hc
    rwa [block_add] at this
end Go.Proofs.Ytdmmjggkdkmeaaa

namespace Go.Proofs.Ytdmmjggkdkmeaaa
namespace LawFnHeap
open Go.ChangeShapes Go.WideShapes Go.ChangeAt Go.RowKit Go.Joins

theorem own : ownKnob Try.prog.godebug = none := by kernel_rfl

set_option maxRecDepth 100000 in
theorem lifted (os : Os) (started : os.Started) (H : Type) (enc : TypeId × Value → H) :
    ReturnsInHanded {} Try.checked os 3 .any (Rows.fnHeapSpec.pre6 enc Try.prog Try.f3 Rows.fnHeapRow.domain false) (Rows.fnHeapSpec.post enc Try.prog Try.f3 false true false false) := by
  refine returnsInHanded_of_change (C := Try.checked) own started (by kernel_rfl) Try.func3
    (ChangeSpec.witness6 (enc := enc) (C := Try.checked) false ⟨#[], #[.slice none 0 0], []⟩ 8 (by kernel_rfl) (by kernel_rfl) (by kernel_rfl) (by kernel_rfl)) ?_
  intro W base args ds gs before hval0 hW _ _
  have hval : ∀ (j : Nat) t v, Try.f3.params[j]? = some t → args[j]? = some v → Value.okWide Try.prog W .any base t v := hval0
  have hW' := hW
  obtain ⟨p, q, hA0, hV, rfl, _, _⟩ := hW
  have hA : DataW.TrodAll enc Try.prog W 0 (fun _ => true) true Try.f3.params.toList args.toList ds p := hA0
  rw [Try.params3] at hA hval
  obtain ⟨v0, d0, rfl, rfl, h0⟩ := trodAll_one hA
  obtain ⟨rfl, rfl⟩ := trodVars_none hV
  obtain ⟨a, n, cap, rfl⟩ := okWide_slice Try.underlying22 (hval 0 22 v0 rfl rfl)
  clear hA0 hval0
  simp only [List.append_nil] at hW'
  obtain ⟨_, hc⟩ := code_opened h0
  refine (fnHeap_walk a n cap W hc).mono fun e W' ⟨he, hg⟩ => ?_
  subst he
  have hlt : ∀ x ∈ p, x.block < W.heap.size := fun x hx => by simpa using hW'.lt x hx
  have harg := Below.trod laidOutAll (by kernel_rfl) (of_decide_eq_true (by kernel_rfl)) h0 hg hlt
  exact ⟨_, rfl, _, _, _, [], _, [], hW', trodAll_mk1 (shut_bool Try.underlying4 _), trodAll_mk1 harg, rfl, hg.frame _, fun h => by cases h⟩
end LawFnHeap

/-- For every code: the law returns true, and the code reads as it did. -/
theorem fnHeap_holds : Rows.FnHeapSaid :=
  OpenClaim.holds_of_wide 3 Try.f3 rfl rfl rfl rfl rfl rfl rfl ⟨rfl, rfl, rfl, rfl, rfl⟩ rfl rfl rfl rfl rfl (by kernel_rfl) Try.func3 (by kernel_rfl)
    (of_decide_eq_true (by kernel_rfl)) (by unfold Func.isWrapper; rw [if_neg (of_decide_eq_false (by kernel_rfl))]; exact ⟨rfl, rfl⟩)
    (fun os started H enc _ => LawFnHeap.lifted os started H enc)
#print axioms fnHeap_holds
end Go.Proofs.Ytdmmjggkdkmeaaa
