/- Profiles and rooms copied: the specification. -/
import Derived.Test.YtmpjebkjopfejaaGreatMgRi
import Derived.Test.YtmpjebkjopfejaaGreatMgRb
import Derived.Test.YtmpjebkjopfejaaGreatMzCoC
namespace Go.Proofs.YtmpjebkjopfejaaGreat
open Go.ChangeShapes Go.WideShapes Go.ChangeAt Go.RowKit

theorem Sq.take {w : World} {a : Option Addr} {xs : List Int} (h : Sq w a (ints xs)) (m : Nat) : Sq w a (ints (xs.take m)) :=
  ⟨fun i u hu => by
    rw [ints_get, List.getElem?_take] at hu
    split at hu
    · exact h.cell i u (by rw [ints_get]; exact hu)
    · simp at hu⟩
theorem take_nodup {xs : List Int} {m : Nat} {n : Int} (h : (xs.take m).Nodup) (hn : xs[m]? = some n) (hm : n ∉ xs.take m) : (xs.take (m + 1)).Nodup := by
  rw [List.take_add_one, hn, Option.toList_some, List.nodup_append]
  refine ⟨h, by simp, fun a ha b hb => ?_⟩
  simp at hb
  subst hb
  exact fun e => hm (e ▸ ha)
theorem take_twice {xs : List Int} {m : Nat} {n : Int} (hn : xs[m]? = some n) (hm : n ∈ xs.take m) : ¬ xs.Nodup := fun h => by
  obtain ⟨h1, rfl⟩ := List.getElem?_eq_some_iff.1 hn
  obtain ⟨i, hi⟩ := List.getElem?_of_mem hm
  rw [List.getElem?_take] at hi
  split at hi
  · obtain ⟨h2, e⟩ := List.getElem?_eq_some_iff.1 hi
    exact List.pairwise_iff_getElem.1 h i m h2 h1 (by assumption) e
  · simp at hi

set_option maxRecDepth 20000 in
set_option maxHeartbeats 8000000 in
theorem l04Diff_c (A : Ra) (R : Rm) (j : Jb) (x : Option Addr) (cx : Nat) (xs : List Int) (hs : RSmall R) (hx : xs.length ≤ 1048576) (hcx : xs.length ≤ cx) (w : World) (h : RAt w A R) (hxs : Sq w x (ints xs)) :
    Calls Tryz.prog 22 #[.agg #[.slice A.aP R.ps.length A.cP, .slice A.aN R.ns.length A.cN, .slice A.aU R.up.length A.cU, .slice A.aQ R.pss.length A.cQ, .slice A.aL R.lic.length A.cL], .agg #[.int .i64 j.id, .int .i64 j.pr, .int .i64 j.nd, .int .i64 j.na, .int .i64 j.nb, .int .i64 j.nc, .int .i64 j.la, .int .i64 j.lb, .int .i64 j.lc, .int .i64 j.wl, .int .i64 j.lv], .slice x xs.length cx] w (Says w (MvOk R j xs)) := by
  have H : Hid (RAt w A R) := h
  have HM : Hid (RSmall R) := hs
  have HXs : Hid (Sq w x (ints xs)) := hxs
  clear h hs hxs
  go_enter Tryz.func22, Tryz.ntmps22
  go_wp2_with fail
  generalize hV : (w.alloc (.cells #[.slice A.aP R.ps.length A.cP, .slice A.aN R.ns.length A.cN, .slice A.aU R.up.length A.cU, .slice A.aQ R.pss.length A.cQ, .slice A.aL R.lic.length A.cL] 46)).alloc (.cells #[.int .i64 j.id, .int .i64 j.pr, .int .i64 j.nd, .int .i64 j.na, .int .i64 j.nb, .int .i64 j.nc, .int .i64 j.la, .int .i64 j.lb, .int .i64 j.lc, .int .i64 j.wl, .int .i64 j.lv] 52) = V
  have HA : Hid (Row V w.heap.size [.slice A.aP R.ps.length A.cP, .slice A.aN R.ns.length A.cN, .slice A.aU R.up.length A.cU, .slice A.aQ R.pss.length A.cQ, .slice A.aL R.lic.length A.cL]) := by subst hV; exact (row_fresh w [.slice A.aP R.ps.length A.cP, .slice A.aN R.ns.length A.cN, .slice A.aU R.up.length A.cU, .slice A.aQ R.pss.length A.cQ, .slice A.aL R.lic.length A.cL] 46).below (low_alloc _ _)
  have HJ : Hid (Row V (w.heap.size + 1) [.int .i64 j.id, .int .i64 j.pr, .int .i64 j.nd, .int .i64 j.na, .int .i64 j.nb, .int .i64 j.nc, .int .i64 j.la, .int .i64 j.lb, .int .i64 j.lc, .int .i64 j.wl, .int .i64 j.lv]) := by
    subst hV
    have h := row_fresh (w.alloc (.cells #[.slice A.aP R.ps.length A.cP, .slice A.aN R.ns.length A.cN, .slice A.aU R.up.length A.cU, .slice A.aQ R.pss.length A.cQ, .slice A.aL R.lic.length A.cL] 46)) [.int .i64 j.id, .int .i64 j.pr, .int .i64 j.nd, .int .i64 j.na, .int .i64 j.nb, .int .i64 j.nc, .int .i64 j.la, .int .i64 j.lb, .int .i64 j.lc, .int .i64 j.wl, .int .i64 j.lv] 52
    rw [show (w.alloc (.cells #[.slice A.aP R.ps.length A.cP, .slice A.aN R.ns.length A.cN, .slice A.aU R.up.length A.cU, .slice A.aQ R.pss.length A.cQ, .slice A.aL R.lic.length A.cL] 46)).heap.size = w.heap.size + 1 by simp [go_sem]] at h
    exact h
  have BV : Hid (Below w.heap.size w V) := by subst hV; exact behind_alloc (low_alloc _ _) _
  clear hV
  refine (specRoomOk_c A R HM.out _ (H.out.below BV.out)).mono ?_
  rintro e w1 ⟨k, rfl, hk, hb⟩
  have B1 : Hid (Below V.heap.size V w1) := hb
  have HK : Hid (k = true ↔ ROk R) := hk
  clear hb hk
  cases k
  · have HN : Hid (¬ MvOk R j xs) := fun t => by have := HK.out.2 t.room; cases this
    clear HK
    go_wp2_with fail
    go_ret
    exact says_no rfl HN.out (below_then BV.out B1.out)
  have HRok : Hid (ROk R) := HK.out.1 rfl
  clear HK
  have y0 := (HJ.out.below B1.out).cell 0 _ rfl
  have y1 := (HJ.out.below B1.out).cell 1 _ rfl
  have y2 := (HJ.out.below B1.out).cell 2 _ rfl
  have y3 := (HJ.out.below B1.out).cell 3 _ rfl
  have y4 := (HJ.out.below B1.out).cell 4 _ rfl
  have y5 := (HJ.out.below B1.out).cell 5 _ rfl
  have y6 := (HJ.out.below B1.out).cell 6 _ rfl
  have y7 := (HJ.out.below B1.out).cell 7 _ rfl
  have y8 := (HJ.out.below B1.out).cell 8 _ rfl
  have y9 := (HJ.out.below B1.out).cell 9 _ rfl
  have y10 := (HJ.out.below B1.out).cell 10 _ rfl
  go_wp2_with fail
  clear y0 y1 y2 y3 y4 y5 y6 y7 y8 y9 y10
  refine (specJobOk_c j _).mono ?_
  rintro e w2 ⟨rfl, hb⟩
  have B2 : Hid (Below V.heap.size V w2) := below_then B1.out hb
  clear hb B1
  have y2 := (HJ.out.below B2.out).cell 2 _ rfl
  cases hjb : jobB j
  · have HN : Hid (¬ MvOk R j xs) := fun t => by have := t.job; rw [hjb] at this; cases this
    clear hjb
    go_wp2_with fail
    go_ret
    exact says_no rfl HN.out (below_then BV.out B2.out)
  have HJok : Hid (jobB j = true) := hjb
  clear hjb
  by_cases hlen : (xs.length : Int) = j.nd
  rotate_left
  · have HN : Hid (¬ MvOk R j xs) := fun t => hlen t.len
    have hd : ((xs.length : Int) != j.nd) = true := by simpa using hlen
    clear hlen
    go_wp2_with fail
    go_ret
    exact says_no rfl HN.out (below_then BV.out B2.out)
  have hd : ((xs.length : Int) != j.nd) = false := by simpa using hlen
  have HLen : Hid ((xs.length : Int) = j.nd) := hlen
  clear hlen
  have a0 := (HA.out.below B2.out).cell 0 _ rfl
  have a1 := (HA.out.below B2.out).cell 1 _ rfl
  go_wp2_with fail
  clear y2 a0 a1 hd
  refine (l02Nodes_c A.aP A.aN x A.cP A.cN cx R.ps R.ns xs HM.out.p HM.out.n hx _ ((H.out.sP.below BV.out).below B2.out) ((H.out.sN.below BV.out).below B2.out) ((HXs.out.below BV.out).below B2.out)).mono ?_
  rintro e w3 ⟨k, rfl, hk, hb⟩
  have B3 : Hid (Below V.heap.size V w3) := below_then B2.out hb
  have HK : Hid (k = true ↔ NdOk R.ps R.ns xs) := hk
  clear hb hk B2
  cases k
  · have HN : Hid (¬ MvOk R j xs) := fun t => by have := HK.out.2 ⟨t.room.topo, t.there⟩; cases this
    clear HK
    go_wp2_with fail
    go_ret
    exact says_no rfl HN.out (below_then BV.out B3.out)
  have HThere : Hid (∀ x ∈ xs, isNd R.ns x) := (HK.out.1 rfl).2
  clear HK
  go_wp2_with fail
  go_loopw [33] (fun i wr => ∃ m : Nat, m ≤ xs.length ∧ i = .int .i64 m ∧ (xs.take m).Nodup ∧ Below V.heap.size V wr) (fun i _ => xs.length - (intOf i).toNat)
  case atStart => exact ⟨0, Nat.zero_le _, rfl, by simp, B3.out⟩
  case round =>
    obtain ⟨m, hm, rfl, hnd, hb⟩ := hrel
    have HD : Hid ((xs.take m).Nodup) := hnd
    have HB : Hid (Below V.heap.size V wr) := hb
    clear hnd hb B3
    by_cases hlt : m < xs.length
    · have hm0 : (0 : Int) ≤ (m : Int) := by omega
      have hm1 : (m : Int) < (xs.length : Int) := by omega
      have hm2 : (m : Int) ≤ (cx : Int) := by omega
      have hm3 : m ≤ cx := by omega
      obtain ⟨p, rfl, _, c0⟩ := ((HXs.out.below BV.out).below HB.out).cell m _ (ints_at xs m hlt)
      have HX : Hid (xs[m]? = some xs[m]) := List.getElem?_eq_getElem hlt
      generalize xs[m] = n at c0 HX
      have HH : Hid (Calls Tryz.prog 53 #[.slice (some p) m cx, .int .i64 n] wr fun e w' => e = .returned (.bool (decide (n ∈ xs.take m))) ∧ Below wr.heap.size wr w') := by
        have h := l02Has_c (some p) cx (xs.take m) n (by simp; omega) wr (((HXs.out.below BV.out).below HB.out).take m)
        rwa [show (xs.take m).length = m by simp; omega] at h
      go_wp2_with fail
      refine HH.out.mono ?_
      rintro e w4 ⟨rfl, hb⟩
      have B4 : Hid (Below V.heap.size V w4) := below_then HB.out hb
      clear hb c0
      cases hk : decide (n ∈ xs.take m)
      · have HD1 : Hid ((xs.take (m + 1)).Nodup) := take_nodup HD.out HX.out (of_decide_eq_false hk)
        clear hk
        go_wp2_with fail
        exact ⟨⟨m + 1, by omega, by go_num, HD1.out, B4.out⟩, by simp [intOf]; omega⟩
      · have HN : Hid (¬ MvOk R j xs) := fun t => take_twice HX.out (of_decide_eq_true hk) t.differ
        clear hk
        go_wp2_with fail
        go_ret
        exact says_no rfl HN.out (below_then BV.out B4.out)
    · have HY : Hid (MvOk R j xs) := ⟨HRok.out, HJok.out, HLen.out, HThere.out, by have := HD.out; rwa [List.take_of_length_le (by omega)] at this⟩
      go_wp2_with fail
      go_ret
      exact ⟨true, rfl, by simp [HY.out], below_then BV.out HB.out⟩
end Go.Proofs.YtmpjebkjopfejaaGreat

namespace Go.Proofs.YtmpjebkjopfejaaGreat
open Go.ChangeShapes Go.WideShapes Go.ChangeAt Go.RowKit

set_option maxHeartbeats 2000000 in
theorem l04Prof_c (q : Addr) (d : Nat) (ns : List Nd) (hl : ns.length ≤ 1048576) (hn : 0 < ns.length) (w : World) (h : Sq w (some q) (flat ns)) :
    Calls Tryz.prog 54 #[.agg #[.slice (some q) ns.length d]] w fun e w' => ∃ g cap, e = .returned (.agg #[.slice (some ⟨g, 0, none⟩) ns.length cap]) ∧ w.heap.size ≤ g ∧ Row w' g (flat ns) ∧ Below w.heap.size w w' := by
  have H : Hid (Sq w (some q) (flat ns)) := h
  clear h
  obtain ⟨i0, hi, hz0, hz1, hz2⟩ := info_parts infoPt
  generalize hV : (w.alloc (.cells #[.slice (some q) ns.length d] 44)).alloc (.cells #[.slice none 0 0] 44) = V
  have BV : Hid (Below w.heap.size w V) := by subst hV; exact behind_alloc (low_alloc _ _) _
  have hVs : V.heap.size = w.heap.size + 1 + 1 := by subst hV; simp [go_sem]
  have X0 : Hid (Row V (w.heap.size + 1) [.slice none 0 0]) := by
    subst hV
    have h := row_fresh (w.alloc (.cells #[.slice (some q) ns.length d] 44)) [.slice none 0 0] 44
    rw [show (w.alloc (.cells #[.slice (some q) ns.length d] 44)).heap.size = w.heap.size + 1 by simp [go_sem]] at h
    exact h
  have hO : Hid ((V.alloc (.cells #[] 109)).ownsRow V.heap.size 109 4 (.slice (some ⟨V.heap.size, 0, none⟩) 0 0) 0 []) := World.ownsRow_made V #[] 0 (Nat.le_refl _) (by decide) rfl
  have hB : Hid (Below V.heap.size V (V.alloc (.cells #[] 109))) := low_alloc _ _
  rw [hVs] at hO
  subst hV
  go_enter Tryz.func54, Tryz.ntmps54
  go_wp2_with (at_builtin; refine wpList_append_own _ rfl _ _ 42 rfl (w.heap.size + 1 + 1) 109 i0 (.agg #[.int .i64 0, .int .i64 0, .int .i64 0, .int .i64 0]) 4 32 Tryz.underlying42 hi hz0 hz1 hz2 rfl (by decide) _ _ _ rfl hO.out q ns.length d (flat ns) rfl (by rw [flat_len]; omega) ?c1 ?c2 ?c3 ?c4 ?c5 ?_)
  case c1 =>
    intro k u hk
    obtain ⟨q', hq, _, hc⟩ := ((H.out.below BV.out).below hB.out).cell k u hk
    cases hq
    exact hc
  case c2 =>
    intro u hu
    obtain ⟨n, hn, hu⟩ := List.mem_flatMap.1 hu
    simp only [Nd.cells, List.mem_cons, List.not_mem_nil, or_false] at hu
    rcases hu with rfl | rfl | rfl | rfl <;> rfl
  case c3 => unfold maxLen; omega
  case c4 => omega
  case c5 => simp [go_sem]
  · intro v1 w6 hown1 hgrow1 _
    have hown2 : w6.ownsRow (w.heap.size + 1 + 1) 109 4 v1 ns.length (flat ns) := by simpa using hown1
    obtain ⟨g, cap, rfl, hg, _, hr⟩ := own4 hown2 hn
    have BB := (below_then BV.out hB.out)
    have B6 : Hid (Below w.heap.size w w6) := BB.grown hgrow1 (by have := BB.size; omega) (fun q hq => by have := (hO.out.lt q hq).1; omega)
    have X6 : Hid (Row w6 (w.heap.size + 1) [.slice none 0 0]) := (X0.out.below hB.out).far hgrow1 (fun e => by have := (hO.out.lt _ e.symm).1; omega)
    have R6 : Hid (Row w6 g (flat ns)) := hr
    clear hown1 hgrow1 hown2 hr BB
    have x0 := X6.out.cell 0 _ rfl
    have f0 := X6.out.free 0
    clear hO hB BV X0
    go_wp2_with fail
    have G := R6.out.apart (w.heap.size + 1) 0 (.slice (some ⟨g, 0, none⟩) ns.length cap) (by omega)
    have B8 := B6.out
    exact bodyPost_ret (v := .agg #[.slice (some ⟨g, 0, none⟩) ns.length cap]) (by simp [results, Tryz.results54, go_sem, *]) rfl ⟨g, cap, rfl, by omega, G, by go_grown⟩
end Go.Proofs.YtmpjebkjopfejaaGreat
