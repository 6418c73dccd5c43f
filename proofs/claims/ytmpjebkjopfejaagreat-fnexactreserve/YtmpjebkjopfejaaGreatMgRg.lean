/- ProfMin: the program. -/
import Derived.Test.YtmpjebkjopfejaaGreatMgRf
import Derived.Test.YtmpjebkjopfejaaGreatMzVecH
import Derived.Deep.RegionWith
import Derived.Deep.DeepCutAuto
namespace Go.Proofs.YtmpjebkjopfejaaGreat
open Go.ChangeShapes Go.WideShapes Go.ChangeAt Go.RowKit

/-- Of each of the three the lesser one. -/
def vmin (m n : Nd) : Nd := ⟨m.l, min m.a n.a, min m.b n.b, min m.c n.c⟩
theorem vmin_self (n : Nd) : vmin n n = n := by
  obtain ⟨l, a, b, c⟩ := n
  simp [vmin]
def vokN (n : Nd) : Bool := vokB n.a n.b n.c
theorem vmin_ok {m n : Nd} (h1 : vokN m = true) (h2 : vokN n = true) : vokN (vmin m n) = true := vok_min h1 h2

/-- The least of the first j points of the time from f to t, and of what is free at f. -/
def minTo (ns : List Nd) (f t : Int) (j : Nat) : Nd := (ns.take j).foldl (fun o n => if f ≤ n.l ∧ n.l < t then vmin o n else o) (atL ns f)
theorem min_next {ns : List Nd} {f t : Int} {j : Nat} {n : Nd} (h : ns[j]? = some n) : minTo ns f t (j + 1) = if f ≤ n.l ∧ n.l < t then vmin (minTo ns f t j) n else minTo ns f t j := by
  rw [minTo, List.take_add_one, h, Option.toList_some, List.foldl_append]
  rfl

theorem min_ok {ns : List Nd} (h : POk ns) {f t : Int} (hf : 0 ≤ f) : ∀ j, vokN (minTo ns f t j) = true
  | 0 => h.at_ok hf
  | j + 1 => by
    by_cases hj : j < ns.length
    · have e := List.getElem?_eq_getElem hj
      rw [min_next e]
      split
      · exact vmin_ok (min_ok h hf j) (h.each j _ e).2
      · exact min_ok h hf j
    · have := min_ok h hf j (t := t)
      unfold minTo at *
      rw [List.take_of_length_le (by omega)] at *
      exact this

/-- Up to the point that holds at f nothing turns. -/
theorem min_first {ns : List Nd} (h : Rising ns) {f t : Int} {s : Nat} (hs : StepAt ns f s) : minTo ns f t (s + 1) = atL ns f := by
  obtain ⟨n, hn, hle, hlt⟩ := hs
  have hat := StepAt.at ⟨n, hn, hle, hlt⟩ hn
  have key : ∀ j, j ≤ s → minTo ns f t j = atL ns f := by
    intro j
    induction j with
    | zero => intro _; rfl
    | succ j ih =>
      intro hj
      have e := List.getElem?_eq_getElem (show j < ns.length by have := (List.getElem?_eq_some_iff.1 hn).1; omega)
      have := h.mono e hn (by omega)
      rw [min_next e, if_neg (by omega), ih (by omega)]
  rw [min_next hn, key s (Nat.le_refl _), hat, vmin_self]
  split <;> rfl

/-- Behind the time nothing turns. -/
theorem min_rest {ns : List Nd} (h : Rising ns) {f t : Int} {j : Nat} {n : Nd} (hn : ns[j]? = some n) (hl : t ≤ n.l) : ∀ d, minTo ns f t (j + d) = minTo ns f t j
  | 0 => rfl
  | d + 1 => by
    rw [← min_rest h hn hl d]
    by_cases hj : j + d < ns.length
    · have e := List.getElem?_eq_getElem hj
      have hge : t ≤ ns[j + d].l := by
        by_cases hd : d = 0
        · subst hd
          have e' : ns[j]? = some ns[j + 0] := e
          rw [hn] at e'
          rw [← Option.some.inj e']
          exact hl
        · have := h.mono hn e (by omega); omega
      rw [show j + (d + 1) = j + d + 1 by omega, min_next e, if_neg (by omega)]
    · unfold minTo
      rw [List.take_of_length_le (by omega), List.take_of_length_le (by omega)]

/-- A span. -/
def spanB (f t : Int) : Bool := timeB f && (timeB t && decide (f < t))
theorem span_iff {f t : Int} : spanB f t = true ↔ (0 ≤ f ∧ f ≤ 1000000000) ∧ (0 ≤ t ∧ t ≤ 1000000000) ∧ f < t := by
  simp [spanB, timeB, and_assoc]

open Classical in
/-- Whether 'ProfMin' can answer, and what. -/
noncomputable def minK (ns : List Nd) (f t : Int) : Bool := decide (POk ns) && spanB f t
noncomputable def minR (ns : List Nd) (f t : Int) : Nd := bif minK ns f t then minTo ns f t ns.length else nd0

theorem spanOk_c (f t : Int) (w : World) : Calls Tryz.prog 91 #[.int .i64 f, .int .i64 t] w fun e w' => e = .returned (.bool (spanB f t)) ∧ w' = w := by
  cases h1 : timeB f
  · have HN : Hid (spanB f t = false) := by show _ = _; rw [spanB, h1]; rfl
    go_enter Tryz.func91, Tryz.ntmps91
    go_wp2_with fail
    refine (timeOk_c f _).mono ?_
    rintro e w1 ⟨rfl, rfl⟩
    rw [h1]
    go_wp2_with fail
    go_ret
    exact ⟨by rw [HN.out]; rfl, rfl⟩
  · cases h2 : timeB t
    · have HN : Hid (spanB f t = false) := by show _ = _; rw [spanB, h1, h2]; rfl
      go_enter Tryz.func91, Tryz.ntmps91
      go_wp2_with fail
      refine (timeOk_c f _).mono ?_
      rintro e w1 ⟨rfl, rfl⟩
      rw [h1]
      go_wp2_with fail
      refine (timeOk_c t _).mono ?_
      rintro e w1 ⟨rfl, rfl⟩
      rw [h2]
      go_wp2_with fail
      go_ret
      exact ⟨by rw [HN.out]; rfl, rfl⟩
    · have HN : Hid (spanB f t = decide (f < t)) := by show _ = _; rw [spanB, h1, h2]; rfl
      go_enter Tryz.func91, Tryz.ntmps91
      go_wp2_with fail
      refine (timeOk_c f _).mono ?_
      rintro e w1 ⟨rfl, rfl⟩
      rw [h1]
      go_wp2_with fail
      refine (timeOk_c t _).mono ?_
      rintro e w1 ⟨rfl, rfl⟩
      rw [h2]
      clear h1 h2
      go_wp2_with fail
      go_ret
      exact ⟨by rw [HN.out]; rfl, rfl⟩

theorem specVecMin_n (m n : Nd) (h1 : vokN m = true) (h2 : vokN n = true) (w : World) :
    Calls Tryz.prog 77 #[.agg #[.int .i64 m.a, .int .i64 m.b, .int .i64 m.c], .agg #[.int .i64 n.a, .int .i64 n.b, .int .i64 n.c]] w fun e w' =>
      e = .returned (.agg #[.int .i64 (vmin m n).a, .int .i64 (vmin m n).b, .int .i64 (vmin m n).c]) ∧ Below w.heap.size w w' := by
  first
    | exact specVecMin_yes m.a m.b m.c n.a n.b n.c w h1 h2
    | exact implVecMin_yes m.a m.b m.c n.a n.b n.c w (by simp only [minB]; rw [show vokB m.a m.b m.c = true from h1, show vokB n.a n.b n.c = true from h2]; simpa using vok_min h1 h2)
end Go.Proofs.YtmpjebkjopfejaaGreat

namespace Go.Proofs.YtmpjebkjopfejaaGreat
open Go.ChangeShapes Go.WideShapes Go.ChangeAt Go.RowKit

theorem minK_no {ns : List Nd} {f t : Int} (h : ¬ POk ns) : minK ns f t = false ∧ minR ns f t = nd0 := by
  have e : minK ns f t = false := by simp [minK, h]
  exact ⟨e, by rw [minR, e]; rfl⟩
theorem minK_span {ns : List Nd} {f t : Int} (h : spanB f t = false) : minK ns f t = false ∧ minR ns f t = nd0 := by
  have e : minK ns f t = false := by simp [minK, h]
  exact ⟨e, by rw [minR, e]; rfl⟩
theorem minK_yes {ns : List Nd} {f t : Int} (h : POk ns) (h2 : spanB f t = true) : minK ns f t = true ∧ minR ns f t = minTo ns f t ns.length := by
  have e : minK ns f t = true := by simp [minK, h, h2]
  exact ⟨e, by rw [minR, e]; rfl⟩

set_option maxHeartbeats 2000000 in
theorem specProfMin_c (b : Option Addr) (d : Nat) (ns : List Nd) (f t : Int) (w : World) (h : Sq w b (flat ns)) :
    Calls Tryz.prog 55 #[.agg #[.slice b ns.length d], .int .i64 f, .int .i64 t] w fun e w' => e = .returned (.tuple #[.agg #[.int .i64 (minR ns f t).a, .int .i64 (minR ns f t).b, .int .i64 (minR ns f t).c], .bool (minK ns f t)]) ∧ Below w.heap.size w w' := by
  have H : Hid (Sq w b (flat ns)) := h
  clear h
  go_enter Tryz.func55, Tryz.ntmps55
  go_wp2_with fail
  generalize hV : ((w.alloc (.cells #[.slice b ns.length d] 44)).alloc (.cells #[.int .i64 0, .int .i64 0, .int .i64 0] 50)) = V
  have HA : Hid (Row V w.heap.size [.slice b ns.length d]) := by subst hV; exact (row_fresh w [.slice b ns.length d] 44).below (low_alloc _ _)
  have HR : Hid (Row V (w.heap.size + 1) [.int .i64 0, .int .i64 0, .int .i64 0]) := by
    subst hV
    have h := row_fresh (w.alloc (.cells #[.slice b ns.length d] 44)) [.int .i64 0, .int .i64 0, .int .i64 0] 50
    rw [show (w.alloc (.cells #[.slice b ns.length d] 44)).heap.size = w.heap.size + 1 by simp [go_sem]] at h
    exact h
  have HV : Hid (Below w.heap.size w V) := by subst hV; exact behind_alloc (low_alloc _ _) _
  clear hV
  refine (specProfOk_c b d ns _ (H.out.below HV.out)).mono ?_
  rintro e w1 ⟨k, rfl, hk, hb⟩
  have HB1 : Hid (Below w.heap.size w w1) := below_then HV.out hb
  have HS1 : Hid (Sq w1 b (flat ns)) := (H.out.below HV.out).below hb
  have HR1 : Hid (Row w1 (w.heap.size + 1) [.int .i64 0, .int .i64 0, .int .i64 0]) := HR.out.below hb
  have HA1 : Hid (Row w1 w.heap.size [.slice b ns.length d]) := HA.out.below hb
  have HK : Hid (k = true ↔ POk ns) := hk
  clear hb hk HA HR HV
  cases k
  · have HN : Hid (minK ns f t = false ∧ minR ns f t = nd0) := minK_no (fun t => by have := HK.out.2 t; cases this)
    clear HK
    have r0 := HR1.out.cell 0 _ rfl; have r1 := HR1.out.cell 1 _ rfl; have r2 := HR1.out.cell 2 _ rfl; have f0 := HR1.out.free 0; have f1 := HR1.out.free 1; have f2 := HR1.out.free 2
    have B8 := HB1.out
    go_wp2_with fail
    exact bodyPost_ret (v := .tuple #[.agg #[.int .i64 0, .int .i64 0, .int .i64 0], .bool false]) (by simp [results, Tryz.results55, go_sem, *]) rfl ⟨by rw [HN.out.1, HN.out.2]; rfl, by go_grown⟩
  · have HY : Hid (POk ns) := HK.out.1 rfl
    have hfw := HY.out.few
    clear HK
    go_wp2_with fail
    refine (l01Time_c f _).mono ?_
    rintro e w2 ⟨rfl, rfl⟩
    cases ht : timeB f
    · have HN : Hid (minK ns f t = false ∧ minR ns f t = nd0) := minK_span (by rw [spanB, ht]; rfl)
      clear ht
      have r0 := HR1.out.cell 0 _ rfl; have r1 := HR1.out.cell 1 _ rfl; have r2 := HR1.out.cell 2 _ rfl; have f0 := HR1.out.free 0; have f1 := HR1.out.free 1; have f2 := HR1.out.free 2
      have B8 := HB1.out
      go_wp2_with fail
      exact bodyPost_ret (v := .tuple #[.agg #[.int .i64 0, .int .i64 0, .int .i64 0], .bool false]) (by simp [results, Tryz.results55, go_sem, *]) rfl ⟨by rw [HN.out.1, HN.out.2]; rfl, by go_grown⟩
    · have Ht : Hid (timeB f = true) := ht
      clear ht
      go_wp2_with fail
      refine (l01Time_c t _).mono ?_
      rintro e w2 ⟨rfl, rfl⟩
      cases hu : timeB t
      · have HN : Hid (minK ns f t = false ∧ minR ns f t = nd0) := minK_span (by rw [spanB, hu]; simp)
        clear hu
        have r0 := HR1.out.cell 0 _ rfl; have r1 := HR1.out.cell 1 _ rfl; have r2 := HR1.out.cell 2 _ rfl; have f0 := HR1.out.free 0; have f1 := HR1.out.free 1; have f2 := HR1.out.free 2
        have B8 := HB1.out
        go_wp2_with fail
        exact bodyPost_ret (v := .tuple #[.agg #[.int .i64 0, .int .i64 0, .int .i64 0], .bool false]) (by simp [results, Tryz.results55, go_sem, *]) rfl ⟨by rw [HN.out.1, HN.out.2]; rfl, by go_grown⟩
      · have Hu : Hid (timeB t = true) := hu
        clear hu
        by_cases hft : t ≤ f
        · have HN : Hid (minK ns f t = false ∧ minR ns f t = nd0) := minK_span (by rw [spanB, show decide (f < t) = false by simpa using hft]; simp)
          have r0 := HR1.out.cell 0 _ rfl; have r1 := HR1.out.cell 1 _ rfl; have r2 := HR1.out.cell 2 _ rfl; have f0 := HR1.out.free 0; have f1 := HR1.out.free 1; have f2 := HR1.out.free 2
          have B8 := HB1.out
          go_wp2_with fail
          exact bodyPost_ret (v := .tuple #[.agg #[.int .i64 0, .int .i64 0, .int .i64 0], .bool false]) (by simp [results, Tryz.results55, go_sem, *]) rfl ⟨by rw [HN.out.1, HN.out.2]; rfl, by go_grown⟩
        · have HSp : Hid (spanB f t = true) := by show _ = _; rw [spanB, Ht.out, Hu.out]; simpa using hft
          have HN : Hid (minK ns f t = true ∧ minR ns f t = minTo ns f t ns.length) := minK_yes HY.out HSp.out
          have hf0 : 0 ≤ f := (time_iff.1 Ht.out).1
          have a0 := HA1.out.cell 0 _ rfl
          go_wp2_with fail
          refine (l03At_c b d ns f (by omega) _ HS1.out).mono ?_
          rintro e w3 ⟨rfl, hb⟩
          have HB3 : Hid (Below w.heap.size w w3) := below_then HB1.out hb
          have HS3 : Hid (Sq w3 b (flat ns)) := HS1.out.below hb
          have HR3 : Hid (Row w3 (w.heap.size + 1) [.int .i64 0, .int .i64 0, .int .i64 0]) := HR1.out.below hb
          have a0 := (HA1.out.below hb).cell 0 _ rfl
          have hl3 := HR3.out.lt
          have hw3 : w.heap.size ≤ w3.heap.size := HB3.out.size
          clear hb HB1 HS1 HR1 HA1
          have HM0 : Hid (minTo ns f t 0 = atL ns f) := rfl
          rw [← HM0.out]
          have hne1 : w.heap.size ≠ w3.heap.size := by omega
          have hl0 : w.heap.size < w3.heap.size := by omega
          go_wp2_with fail
          generalize hq : minTo ns f t 0 = m0
          have HQ0 : Hid (minTo ns f t 0 = m0) := hq
          clear hq
          have HB4 : Hid (Below w.heap.size w (w3.alloc (.cells #[.int .i64 m0.a, .int .i64 m0.b, .int .i64 m0.c] 50))) := behind_alloc HB3.out _
          have HS4 : Hid (Sq (w3.alloc (.cells #[.int .i64 m0.a, .int .i64 m0.b, .int .i64 m0.c] 50)) b (flat ns)) := HS3.out.below (low_alloc _ _)
          have HR4 : Hid (Row (w3.alloc (.cells #[.int .i64 m0.a, .int .i64 m0.b, .int .i64 m0.c] 50)) (w.heap.size + 1) [.int .i64 0, .int .i64 0, .int .i64 0]) := HR3.out.below (low_alloc _ _)
          have HO4 : Hid (Row (w3.alloc (.cells #[.int .i64 m0.a, .int .i64 m0.b, .int .i64 m0.c] 50)) w3.heap.size [.int .i64 m0.a, .int .i64 m0.b, .int .i64 m0.c]) := row_fresh w3 [.int .i64 m0.a, .int .i64 m0.b, .int .i64 m0.c] 50
          generalize w3.alloc (.cells #[.int .i64 m0.a, .int .i64 m0.b, .int .i64 m0.c] 50) = w4 at HB4 HS4 HR4 HO4
          have hne : w.heap.size + 1 ≠ w3.heap.size := by omega
          generalize w3.heap.size = O at *
          clear HB3 HS3 HR3 a0
          rw [← HQ0.out] at HO4
          go_loopw [36] (fun i wr => ∃ j : Nat, j ≤ ns.length ∧ i = .int .i64 j ∧ Row wr (w.heap.size + 1) [.int .i64 0, .int .i64 0, .int .i64 0] ∧ Row wr O [.int .i64 (minTo ns f t j).a, .int .i64 (minTo ns f t j).b, .int .i64 (minTo ns f t j).c] ∧ Below w.heap.size w wr) (fun i _ => ns.length - (intOf i).toNat)
          case atStart => exact ⟨0, Nat.zero_le _, rfl, HR4.out, HO4.out, HB4.out⟩
          case round =>
            obtain ⟨j, hj, rfl, hr, ho, hb⟩ := hrel
            have HS5 : Hid (Sq wr b (flat ns)) := H.out.below hb
            have HR5 : Hid (Row wr (w.heap.size + 1) [.int .i64 0, .int .i64 0, .int .i64 0]) := hr
            have HO5 : Hid (Row wr O [.int .i64 (minTo ns f t j).a, .int .i64 (minTo ns f t j).b, .int .i64 (minTo ns f t j).c]) := ho
            have HB5 : Hid (Below w.heap.size w wr) := hb
            have hOl := ho.lt
            clear hr ho hb HS4 HR4 HO4 HB4
            by_cases hlt : j < ns.length
            · have hj0 : (0 : Int) ≤ (j : Int) := by omega
              have hj1 : (j : Int) < (ns.length : Int) := by omega
              obtain ⟨p2, rfl, c0, c1, c2, c3⟩ := HS5.out.node j hlt
              have HX : Hid (ns[j]? = some ns[j]) := List.getElem?_eq_getElem hlt
              generalize ns[j] = n at c0 c1 c2 c3 HX
              have HNx : Hid (minTo ns f t (j + 1) = if f ≤ n.l ∧ n.l < t then vmin (minTo ns f t j) n else minTo ns f t j) := min_next HX.out
              have HV1 : Hid (vokN (minTo ns f t j) = true) := min_ok HY.out hf0 j
              have HV2 : Hid (vokN n = true) := (HY.out.each j n HX.out).2
              have hneO : O ≠ wr.heap.size := by omega
              generalize minTo ns f t j = m at HO5 HNx HV1
              have HR6 : Hid (Row (wr.alloc (.cells #[.int .i64 n.l, .int .i64 n.a, .int .i64 n.b, .int .i64 n.c] 109)) (w.heap.size + 1) [.int .i64 0, .int .i64 0, .int .i64 0]) := HR5.out.below (low_alloc _ _)
              have HO6 : Hid (Row (wr.alloc (.cells #[.int .i64 n.l, .int .i64 n.a, .int .i64 n.b, .int .i64 n.c] 109)) O [.int .i64 m.a, .int .i64 m.b, .int .i64 m.c]) := HO5.out.below (low_alloc _ _)
              have HB6 : Hid (Below w.heap.size w (wr.alloc (.cells #[.int .i64 n.l, .int .i64 n.a, .int .i64 n.b, .int .i64 n.c] 109))) := behind_alloc HB5.out _
              by_cases hc1 : f ≤ n.l
              · by_cases hc2 : n.l < t
                · rw [if_pos ⟨hc1, hc2⟩] at HNx
                  have o0 := HO5.out.cell 0 _ rfl
                  have o1 := HO5.out.cell 1 _ rfl
                  have o2 := HO5.out.cell 2 _ rfl
                  go_wp2_with fail
                  generalize wr.alloc (.cells #[.int .i64 n.l, .int .i64 n.a, .int .i64 n.b, .int .i64 n.c] 109) = w6 at HR6 HO6 HB6
                  refine (specVecMin_n m n HV1.out HV2.out _).mono ?_
                  rintro e w7 ⟨rfl, hb⟩
                  have HR7 : Hid (Row w7 (w.heap.size + 1) [.int .i64 0, .int .i64 0, .int .i64 0]) := HR6.out.below hb
                  have HO7 : Hid (Row w7 O [.int .i64 m.a, .int .i64 m.b, .int .i64 m.c]) := HO6.out.below hb
                  have HB7 : Hid (Below w.heap.size w w7) := below_then HB6.out hb
                  clear hb HR6 HO6 HB6 o0 o1 o2 c0 c1 c2 c3
                  have o0 := HO7.out.cell 0 _ rfl
                  have o1 := HO7.out.cell 1 _ rfl
                  have o2 := HO7.out.cell 2 _ rfl
                  have g0 := HO7.out.free 0
                  have g1 := HO7.out.free 1
                  have g2 := HO7.out.free 2
                  have HO8 : Hid (Row _ O [.int .i64 (vmin m n).a, .int .i64 (vmin m n).b, .int .i64 (vmin m n).c]) := ((HO7.out.set 0 (by simp) (.int .i64 (vmin m n).a)).set 1 (by simp) (.int .i64 (vmin m n).b)).set 2 (by simp) (.int .i64 (vmin m n).c)
                  have HR8 : Hid (Row _ (w.heap.size + 1) [.int .i64 0, .int .i64 0, .int .i64 0]) := ((HR7.out.apart O 0 (.int .i64 (vmin m n).a) (by omega)).apart O 1 (.int .i64 (vmin m n).b) (by omega)).apart O 2 (.int .i64 (vmin m n).c) (by omega)
                  have HB8 : Hid (Below w.heap.size w _) := ((HB7.out.setCell (p := ⟨O, 0, none⟩) (by show w.heap.size ≤ O; omega) (.int .i64 (vmin m n).a)).setCell (p := ⟨O, 1, none⟩) (by show w.heap.size ≤ O; omega) (.int .i64 (vmin m n).b)).setCell (p := ⟨O, 2, none⟩) (by show w.heap.size ≤ O; omega) (.int .i64 (vmin m n).c)
                  go_wp2_with fail
                  exact ⟨⟨j + 1, by omega, by go_num, HR8.out, by rw [HNx.out]; exact HO8.out, HB8.out⟩, by simp [intOf]; omega⟩
                · rw [if_neg (by omega)] at HNx
                  go_wp2_with fail
                  exact ⟨⟨j + 1, by omega, by go_num, HR6.out, by rw [HNx.out]; exact HO6.out, HB6.out⟩, by simp [intOf]; omega⟩
              · rw [if_neg (by omega)] at HNx
                go_wp2_with fail
                exact ⟨⟨j + 1, by omega, by go_num, HR6.out, by rw [HNx.out]; exact HO6.out, HB6.out⟩, by simp [intOf]; omega⟩
            · obtain rfl : j = ns.length := by omega
              have r0 := HR5.out.cell 0 _ rfl
              have r1 := HR5.out.cell 1 _ rfl
              have r2 := HR5.out.cell 2 _ rfl
              have f0 := HR5.out.free 0
              have f1 := HR5.out.free 1
              have f2 := HR5.out.free 2
              have o0 := HO5.out.cell 0 _ rfl
              have o1 := HO5.out.cell 1 _ rfl
              have o2 := HO5.out.cell 2 _ rfl
              have B8 := HB5.out
              go_wp2_with fail
              exact bodyPost_ret (v := .tuple #[.agg #[.int .i64 (minTo ns f t ns.length).a, .int .i64 (minTo ns f t ns.length).b, .int .i64 (minTo ns f t ns.length).c], .bool true]) (by simp [results, Tryz.results55, go_sem, *]) rfl ⟨by rw [HN.out.1, HN.out.2], by go_grown⟩
end Go.Proofs.YtmpjebkjopfejaaGreat

namespace Go.Proofs.YtmpjebkjopfejaaGreat
open Go.ChangeShapes Go.WideShapes Go.ChangeAt Go.RowKit

theorem add_add' (p : Addr) (m k : Nat) : (p.add m).add k = p.add (m + k) := by
  unfold Addr.add
  by_cases hk : k = 0
  · subst hk; simp
  · by_cases hm : m = 0
    · subst hm; simp [hk]
    · simp [hk, hm, Nat.add_assoc]

theorem flat_drop (s : Nat) : ∀ (ns : List Nd), flat (ns.drop s) = (flat ns).drop (s * 4) := by
  induction s with
  | zero => intro ns; simp
  | succ s ih =>
    intro ns
    cases ns with
    | nil => simp [flat]
    | cons n r =>
      rw [List.drop_succ_cons, ih r]
      simp only [flat, List.flatMap_cons]
      have e : (s + 1) * 4 = n.cells.length + s * 4 := by
        have : n.cells.length = 4 := rfl
        omega
      rw [e, List.drop_append, List.drop_eq_nil_of_le (Nat.le_add_right _ _), List.nil_append, Nat.add_sub_cancel_left]

theorem Sq.drop {w : World} {p : Addr} {xs : List Nd} (h : Sq w (some p) (flat xs)) (s : Nat) : Sq w (some (p.add (s * 4))) (flat (xs.drop s)) :=
  ⟨fun i u hu => by
    rw [flat_drop, List.getElem?_drop] at hu
    obtain ⟨q, hq, hb, hc⟩ := h.cell _ _ hu
    cases hq
    exact ⟨_, rfl, by rw [block_add]; exact hb, by rw [add_add']; exact hc⟩⟩

theorem StepAt.one {ns : List Nd} {t : Int} {s s' : Nat} (h : StepAt ns t s) (_hr : Rising ns) (h' : StepAt ns t s') : s = s' := by
  obtain ⟨n, hn, hle, hlt⟩ := h
  obtain ⟨m, hm, hle', hlt'⟩ := h'
  rcases Nat.lt_trichotomy s s' with h | h | h
  · have := hlt s' m h hm; omega
  · exact h
  · have := hlt' s n h hn; omega

end Go.Proofs.YtmpjebkjopfejaaGreat
