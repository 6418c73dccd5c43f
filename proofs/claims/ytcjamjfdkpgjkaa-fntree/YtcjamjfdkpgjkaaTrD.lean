/- The draw of a topology and of some nodes; a list asked for a number. -/
import Derived.Test.YtcjamjfdkpgjkaaDrO
import Derived.Test.YtcjamjfdkpgjkaaDrS
import Derived.Test.YtcjamjfdkpgjkaaCurE
import Derived.Test.YtcjamjfdkpgjkaaTopE
import Derived.Deep.RegionWith
namespace Go.Proofs.Ytcjamjfdkpgjkaa
open Go.ChangeShapes Go.WideShapes Go.ChangeAt Go.RowKit

set_option maxHeartbeats 1000000 in
theorem hasInt_c (a : Option Addr) (cap : Nat) (xs : List Int) (n : Int) (hl : xs.length ≤ 4294967296) (w : World) (h : Sq w a (ints xs)) :
    Calls Try.prog 7 #[.slice a xs.length cap, .int .i64 n] w fun e w' => e = .returned (.bool (decide (n ∈ xs))) ∧ Below w.heap.size w w' := by
  have H : Hid (Sq w a (ints xs)) := h
  clear h
  go_enter Try.func7, Try.ntmps7
  go_wp2_with fail
  go_loopw [9] (fun i wr => ∃ j : Nat, j ≤ xs.length ∧ i = .int .i64 j ∧ (∀ k, k < j → xs[k]? ≠ some n) ∧ Below w.heap.size w wr) (fun i _ => xs.length - (intOf i).toNat)
  case atStart => exact ⟨0, Nat.zero_le _, rfl, fun k h => by omega, Below.refl _ _⟩
  case round =>
    obtain ⟨j, hj, rfl, he, hb⟩ := hrel
    have HE : Hid (∀ k, k < j → xs[k]? ≠ some n) := he
    have HB : Hid (Below w.heap.size w wr) := hb
    clear he hb
    by_cases hlt : j < xs.length
    · have hi0 : (0 : Int) ≤ (j : Int) := by omega
      have hi1 : (j : Int) < (xs.length : Int) := by omega
      obtain ⟨p, rfl, _, hc⟩ := (H.out.below HB.out).cell j _ (ints_at xs j hlt)
      have HX : Hid (xs[j]? = some xs[j]) := List.getElem?_eq_getElem hlt
      generalize xs[j] = x at hc HX
      by_cases hx : x = n
      · subst hx
        have HM : Hid (decide (x ∈ xs) = true) := by show _ = _; simp; exact List.mem_of_getElem? HX.out
        go_wp2_with fail
        go_ret
        exact ⟨by rw [HM.out]; rfl, HB.out⟩
      · have hi : (x == n) = false := by simpa using hx
        have HE1 : Hid (∀ k, k < j + 1 → xs[k]? ≠ some n) := fun k hk => by
          by_cases e : k = j
          · subst e; rw [HX.out]; intro e1; exact hx (Option.some.inj e1)
          · exact HE.out k (by omega)
        go_wp2_with fail
        go_roundw
        case rel => exact ⟨j + 1, by omega, by go_num, HE1.out, HB.out⟩
        case measure => simp [intOf]; omega
    · have HM : Hid (decide (n ∈ xs) = false) := by
        show _ = _
        simp
        intro hm
        obtain ⟨k, hk⟩ := List.getElem?_of_mem hm
        exact HE.out k (by have := (List.getElem?_eq_some_iff.1 hk).1; omega) hk
      go_wp2_with fail
      go_ret
      exact ⟨by rw [HM.out]; rfl, HB.out⟩

theorem owns_sq4 {w : World} {B : Nat} {e : TypeId} {v : Value} {n : Nat} {xs : List Value} (h : w.ownsRow B e 4 v n xs) : ∃ a cap, v = .slice a n cap ∧ Sq w a xs := by
  obtain ⟨hlen, h⟩ := h
  rcases h with ⟨rfl, rfl⟩ | ⟨g, cap, cur, rfl, hB, hg, hnc, _, hsz, hx⟩
  · have : xs = [] := List.length_eq_zero_iff.1 (by omega)
    subst this
    exact ⟨none, 0, rfl, ⟨fun i u hu => by simp at hu⟩⟩
  · have hlt : g < w.heap.size := by
      rcases Nat.lt_or_ge g w.heap.size with h' | h'
      · exact h'
      · rw [Array.getElem?_eq_none h'] at hg; cases hg
    refine ⟨_, cap, rfl, Sq.of_row ⟨fun i u hu => ?_, fun i => ?_, hlt⟩⟩
    · rw [← hx] at hu
      have hi : cur.toList[i]? = some u := by
        rw [List.getElem?_take] at hu
        split at hu
        · exact hu
        · cases hu
      simp only [World.cell?, hg]
      simpa using hi
    · simp [World.frozen?, hg]

set_option maxHeartbeats 2000000 in
theorem drawLowest_c (a : Option Addr) (n cap : Nat) (w : World) (h : CodeIs w a n) :
    Calls Try.prog 4 #[.slice a n cap] w fun e w' => ∃ (aP aN aX : Option Addr) (cP cN cX : Nat) (ps : List Int) (ns : List Nd) (xs : List Int),
      e = .returned (.tuple #[.agg #[.slice aP ps.length cP, .slice aN ns.length cN], .slice aX xs.length cX]) ∧ ps.length ≤ 19 ∧ ns.length ≤ 10 ∧ xs.length ≤ 5 ∧ Sq w' aP (ints ps) ∧ Sq w' aN (flat ns) ∧ Sq w' aX (ints xs) ∧ Below w.heap.size w w' := by
  have H : Hid (CodeIs w a n) := h
  clear h
  go_enter Try.func4, Try.ntmps4
  go_wp2_with fail
  generalize hW : w.alloc (.cells #[.slice none 0 0, .slice none 0 0] 26) = w0
  have HB0 : Hid (Below w.heap.size w w0) := by subst hW; exact low_alloc _ _
  have HR0 : Hid (Row w0 w.heap.size [.slice none 0 0, .slice none 0 0]) := by subst hW; exact row_fresh w [.slice none 0 0, .slice none 0 0] 26
  clear hW
  refine (l01New_c a n cap _ (H.out.below HB0.out)).mono ?_
  rintro e w1 ⟨g, rfl, hg1, hb1, hc1⟩
  have HR1 : Hid (Row w1 w.heap.size [.slice none 0 0, .slice none 0 0]) := HR0.out.below hb1
  have HB1 : Hid (Below w.heap.size w w1) := below_then HB0.out hb1
  have HC1 : Hid (Cur w1 g a n cap) := hc1
  have hgw : w.heap.size < g := by have := HR0.out.lt; omega
  have hgl : g < w1.heap.size := hc1.lt
  clear hb1 hc1 HR0 HB0
  go_wp2_with fail
  refine (l02Any_c g a n cap _ HC1.out).mono ?_
  rintro e w2 ⟨vP, ps, vN, ns, rfl, hps, hns, hoP, hoN, hc, hg⟩
  obtain ⟨aP, cP, hvP, _⟩ := sq_of_owns hoP
  obtain ⟨aN, cN, hvN, _⟩ := owns_sq4 hoN
  subst hvP
  subst hvN
  have HP2 : Hid (w2.ownsRow w1.heap.size 3 1 (.slice aP ps.length cP) ps.length (ints ps)) := hoP
  have HN2 : Hid (w2.ownsRow w1.heap.size 35 4 (.slice aN ns.length cN) ns.length (flat ns)) := hoN
  have HR2 : Hid (Row w2 w.heap.size [.slice none 0 0, .slice none 0 0]) := far_ne HR1.out hg (by omega)
  have HB2 : Hid (Below w.heap.size w w2) := below_grown HB1.out hg (by omega)
  have HC2 : Hid (Cur w2 g a n cap) := hc
  have hR2 := HR2.out.lt
  clear hoP hoN hc hg HR1 HB1 HC1
  go_wp2_with fail
  have HX3 : Hid (Below w2.heap.size w2 (w2.alloc (.cells #[.slice aP ps.length cP, .slice aN ns.length cN] 26))) := low_alloc _ _
  have HT3 : Hid (Row (w2.alloc (.cells #[.slice aP ps.length cP, .slice aN ns.length cN] 26)) w2.heap.size [.slice aP ps.length cP, .slice aN ns.length cN]) := row_fresh w2 [.slice aP ps.length cP, .slice aN ns.length cN] 26
  generalize w2.alloc (.cells #[.slice aP ps.length cP, .slice aN ns.length cN] 26) = w3 at HX3 HT3
  have HD : Below w3.heap.size w3 w3.drew := ⟨rfl, rfl, rfl, Nat.le_refl _, fun _ _ => rfl⟩
  have HP3 : Hid (w3.drew.ownsRow w1.heap.size 3 1 (.slice aP ps.length cP) ps.length (ints ps)) := owns_below (owns_below HP2.out HX3.out) HD
  have HN3 : Hid (w3.drew.ownsRow w1.heap.size 35 4 (.slice aN ns.length cN) ns.length (flat ns)) := owns_below (owns_below HN2.out HX3.out) HD
  have HR3 : Hid (Row w3.drew w.heap.size [.slice none 0 0, .slice none 0 0]) := (HR2.out.below HX3.out).below HD
  have HB3 : Hid (Below w.heap.size w w3.drew) := below_then (below_then HB2.out HX3.out) HD
  have HC3 : Hid (Cur w3.drew g a n cap) := (HC2.out.below HX3.out).below HD
  have HT4 : Hid (Row w3.drew w2.heap.size [.slice aP ps.length cP, .slice aN ns.length cN]) := HT3.out.below HD
  have hgT : g < w2.heap.size := HC2.out.lt
  have t0 := HT3.out.cell 0 _ rfl
  have t1 := HT3.out.cell 1 _ rfl
  generalize w2.heap.size = T at *
  clear HX3 HP2 HN2 HR2 HB2 HC2 HD
  go_region_with (go_at_call 13; refine (l02Some_c g a n cap (.slice aP ps.length cP) aN ns.length cN (by omega) w3.drew HC3.out).mono ?_; rintro e w4 ⟨gn, cn, xs, rfl, hxs, hoX, _, hg⟩; have HX4 : Hid (w4.ownsRow w3.heap.size 3 1 (.slice (some ⟨gn, 0, none⟩) xs.length cn) xs.length (ints xs)) := hoX; have hgn : w3.heap.size ≤ gn := (hoX.lt gn rfl).1; have HP4 : Hid (w4.ownsRow w1.heap.size 3 1 (.slice aP ps.length cP) ps.length (ints ps)) := HP3.out.kept hg (.inr (fun e => (by have := (HP3.out.lt g e).1; omega))); have HN4 : Hid (w4.ownsRow w1.heap.size 35 4 (.slice aN ns.length cN) ns.length (flat ns)) := HN3.out.kept hg (.inr (fun e => (by have := (HN3.out.lt g e).1; omega))); have HR4 : Hid (Row w4 w.heap.size [.slice none 0 0, .slice none 0 0]) := far_ne HR3.out hg (by omega); have HB4 : Hid (Below w.heap.size w w4) := below_grown HB3.out hg (by omega); have HT5 : Hid (Row w4 T [.slice aP ps.length cP, .slice aN ns.length cN]) := HT4.out.far hg (by intro e; have := Option.some.inj e; omega); have u0 := HT5.out.cell 0 _ rfl; have u1 := HT5.out.cell 1 _ rfl; have r0 := HR4.out.cell 0 _ rfl; have r1 := HR4.out.cell 1 _ rfl; have f0 := HR4.out.free 0; have f1 := HR4.out.free 1; clear hg hoX)
  all_goals
    have G1 := Lib.grownBy_setCell w4 w.heap.size 0 (.slice aP ps.length cP)
    have G2 := Lib.grownBy_setCell (w4.setCell ⟨w.heap.size, 0, none⟩ (.slice aP ps.length cP)) w.heap.size 1 (.slice aN ns.length cN)
    have hT3 : T < w3.heap.size := HT3.out.lt
    have HP5 := (HP4.out.kept G1 (.inr (fun e => by have := (HP4.out.lt _ e).1; omega))).kept G2 (.inr (fun e => by have := (HP4.out.lt _ e).1; omega))
    have HN5 := (HN4.out.kept G1 (.inr (fun e => by have := (HN4.out.lt _ e).1; omega))).kept G2 (.inr (fun e => by have := (HN4.out.lt _ e).1; omega))
    have HX5 := (HX4.out.kept G1 (.inr (fun e => by have := (HX4.out.lt _ e).1; omega))).kept G2 (.inr (fun e => by have := (HX4.out.lt _ e).1; omega))
    obtain ⟨_, _, hv1, sP⟩ := sq_of_owns HP5
    cases hv1
    obtain ⟨_, _, hv1, sN⟩ := owns_sq4 HN5
    cases hv1
    obtain ⟨_, _, hv1, sX⟩ := sq_of_owns HX5
    cases hv1
    have SP : Hid (Sq _ aP (ints ps)) := sP
    have SN : Hid (Sq _ aN (flat ns)) := sN
    have SX : Hid (Sq _ (some ⟨gn, 0, none⟩) (ints xs)) := sX
    have HB5 : Hid (Below w.heap.size w ((w4.setCell ⟨w.heap.size, 0, none⟩ (.slice aP ps.length cP)).setCell ⟨w.heap.size, 1, none⟩ (.slice aN ns.length cN))) := (HB4.out.setCell (p := ⟨w.heap.size, 0, none⟩) (Nat.le_refl _) _).setCell (p := ⟨w.heap.size, 1, none⟩) (Nat.le_refl _) _
    clear G1 G2 HP5 HN5 HX5 sP sN sX
    go_wp2_with fail
    exact bodyPost_ret (v := .tuple #[.agg #[.slice aP ps.length cP, .slice aN ns.length cN], .slice (some ⟨gn, 0, none⟩) xs.length cn]) (by simp [results, Try.results4, go_sem, *]) rfl ⟨aP, aN, _, cP, cN, cn, ps, ns, xs, rfl, hps, hns, hxs, SP.out, SN.out, SX.out, HB5.out⟩
end Go.Proofs.Ytcjamjfdkpgjkaa
