/- FnExactEligible: for every room, vector and times the program's Eligible answers as the specification's, and its answer owns its memory; no condition. -/
import Derived.Test.YtbnbikmnembciaaP6L
import Derived.Test.YtbnbikmnembciaaVecD
import Derived.Deep.DeepCutAuto
import Derived.Deep.RegionWith
import Derived.Test.YtbnbikmnembciaaMgLv
import Derived.Test.YtbnbikmnembciaaTkA
import Derived.Test.YtbnbikmnembciaaPMinB
import Derived.Test.YtbnbikmnembciaaAnsA
import Derived.Test.YtbnbikmnembciaaRmE
import Derived.Test.YtbnbikmnembciaaPtB
import Derived.Test.YtbnbikmnembciaaTopM
import Derived.Test.YtbnbikmnembciaaMgOp
import Derived.ProofKit
import Derived.OpenShut
namespace Go.Proofs.Ytbnbikmnembciaa
open Go.ChangeShapes Go.WideShapes Go.ChangeAt Go.RowKit

/-- v fits n. -/
def fitN (v n : Nd) : Bool := fitB v.a v.b v.c n.a n.b n.c
theorem fit_iff {v n : Nd} : fitN v n = true ↔ vokN v = true ∧ vokN n = true ∧ le3 v n := by
  simp only [fitN, fitB, nabB, Bool.and_eq_true, decide_eq_true_eq, vokN, le3]
  constructor
  · rintro ⟨⟨h1, h2⟩, ⟨h3, h4⟩, h5⟩
    exact ⟨h1, h2, h3, h4, h5⟩
  · rintro ⟨h1, h2, h3, h4, h5⟩
    exact ⟨⟨h1, h2⟩, ⟨h3, h4⟩, h5⟩

theorem hold_yes {ns : List Nd} {v : Nd} {f t : Int} {s j : Nat} (hok : POk ns) (hf : 0 ≤ f) (hft : f < t) (hs : StepAt ns f s) (hv : vokN v = true)
    (hall : ∀ i n, i < j → ns[s + i]? = some n → fitN v n = true) (hend : ∀ i n, j ≤ i → ns[s + i]? = some n → t ≤ n.l) : fitN v (minTo ns f t ns.length) = true := by
  have hin : ∀ k n, s ≤ k → ns[k]? = some n → n.l < t → le3 v n := fun k n hk hn hl => by
    obtain ⟨i, rfl⟩ : ∃ i, k = s + i := ⟨k - s, by omega⟩
    by_cases hi : i < j
    · exact (fit_iff.1 (hall i n hi hn)).2.2
    · have := hend i n (by omega) hn; omega
  refine fit_iff.2 ⟨hv, min_ok hok hf _, (le_minTo _).2 ⟨?_, fun n hn h1 h2 => ?_⟩⟩
  · have hs' := hs
    obtain ⟨n, hn, hle, _⟩ := hs
    rw [StepAt.at hs' hn]
    exact hin s n (Nat.le_refl _) hn (by omega)
  · rw [List.take_length] at hn
    obtain ⟨k, hk⟩ := List.getElem?_of_mem hn
    rcases Nat.lt_or_ge k s with hlt | hge
    · obtain ⟨m, hm, hle, _⟩ := hs
      have := hok.rising.mono hk hm hlt
      have e : m.l ≤ f := hle
      have : n.l = f := by omega
      omega
    · exact hin k n hge hk h2

theorem hold_no {ns : List Nd} {v n : Nd} {f t : Int} {s j : Nat} (hok : POk ns) (hs : StepAt ns f s) (hn : ns[s + j]? = some n) (hl : n.l < t) (hno : fitN v n = false) : fitN v (minTo ns f t ns.length) = false := by
  cases h : fitN v (minTo ns f t ns.length) with
  | false => rfl
  | true =>
    obtain ⟨h1, _, h3⟩ := fit_iff.1 h
    obtain ⟨ha, hb⟩ := (le_minTo _).1 h3
    have hle : le3 v n := by
      by_cases e : j = 0
      · subst e
        rw [StepAt.at hs hn] at ha
        exact ha
      · obtain ⟨_, _, _, hlt⟩ := hs
        have := hlt (s + j) n (by omega) hn
        exact hb n (by rw [List.take_length]; exact List.mem_of_getElem? hn) (by omega) hl
    have := fit_iff.2 ⟨h1, (hok.each _ n hn).2, hle⟩
    rw [hno] at this
    cases this
theorem heldEl {V w' : World} {B F : Nat} {v n : Nd} (hr : Row V B [.int .i64 v.a, .int .i64 v.b, .int .i64 v.c]) (hp : Row V F [.int .i64 n.l, .int .i64 n.a, .int .i64 n.b, .int .i64 n.c]) (h : Below V.heap.size V w') : Below V.heap.size V w' ∧ w'.cell? ⟨B, 0, none⟩ = some (.int .i64 v.a) ∧ w'.cell? ⟨B, 1, none⟩ = some (.int .i64 v.b) ∧ w'.cell? ⟨B, 2, none⟩ = some (.int .i64 v.c) ∧ w'.cell? ⟨F, 1, none⟩ = some (.int .i64 n.a) ∧ w'.cell? ⟨F, 2, none⟩ = some (.int .i64 n.b) ∧ w'.cell? ⟨F, 3, none⟩ = some (.int .i64 n.c) :=
  ⟨h, (hr.below h).cell 0 _ rfl, (hr.below h).cell 1 _ rfl, (hr.below h).cell 2 _ rfl, (hp.below h).cell 1 _ rfl, (hp.below h).cell 2 _ rfl, (hp.below h).cell 3 _ rfl⟩


set_option maxHeartbeats 4000000 in
theorem holds_c (b : Option Addr) (d : Nat) (ns : List Nd) (v : Nd) (f t : Int) (hd : ns.length ≤ d) (hok : POk ns) (hsp : spanB f t = true) (hv : vokN v = true) (w : World) (h : Sq w b (flat ns)) :
    Calls Try.prog 54 #[.agg #[.slice b ns.length d], .agg #[.int .i64 v.a, .int .i64 v.b, .int .i64 v.c], .int .i64 f, .int .i64 t] w fun e w' => e = .returned (.bool (fitN v (minTo ns f t ns.length))) ∧ Below w.heap.size w w' := by
  have H : Hid (Sq w b (flat ns)) := h
  have HY : Hid (POk ns) := hok
  have HV : Hid (vokN v = true) := hv
  have hsn := span_iff.1 hsp
  have hf0 : 0 ≤ f := hsn.1.1
  have hft : f < t := hsn.2.2
  have hfw := hok.few
  clear h hok hsp hv hsn
  go_enter Try.func54, Try.ntmps54
  go_wp2_with fail
  generalize hV : (w.alloc (.cells #[.slice b ns.length d] 43)).alloc (.cells #[.int .i64 v.a, .int .i64 v.b, .int .i64 v.c] 47) = V
  have HA : Hid (Row V w.heap.size [.slice b ns.length d]) := by subst hV; exact (row_fresh w [.slice b ns.length d] 43).below (low_alloc _ _)
  have HW : Hid (Row V (w.heap.size + 1) [.int .i64 v.a, .int .i64 v.b, .int .i64 v.c]) := by
    subst hV
    have h := row_fresh (w.alloc (.cells #[.slice b ns.length d] 43)) [.int .i64 v.a, .int .i64 v.b, .int .i64 v.c] 47
    rw [show (w.alloc (.cells #[.slice b ns.length d] 43)).heap.size = w.heap.size + 1 by simp [go_sem]] at h
    exact h
  have HB : Hid (Below w.heap.size w V) := by subst hV; exact behind_alloc (low_alloc _ _) _
  clear hV
  have HS1 : Hid (Sq V b (flat ns)) := H.out.below HB.out
  have h1 := HY.out.one
  obtain ⟨p, hpb, _⟩ := HS1.out.node 0 h1
  subst hpb
  have a0 := HA.out.cell 0 _ rfl
  have HD := low_drew V
  have HS2 : Hid (Sq V.drew (some p) (flat ns)) := HS1.out.below HD
  go_cut [16, 17, 18] (fun u l i wc => ∃ s : Nat, u = .slice (some (p.add (s * 4))) (ns.length - s) (d - s) ∧ l = .int .i64 ((ns.length - s : Nat) : Int) ∧ i = .int .i64 0 ∧ s < ns.length ∧ StepAt ns f s ∧ Below V.heap.size V wc)
  case first =>
    go_region_with (go_at_call 68; refine (step_c (some p) d ns f HY.out hf0 V.drew HS2.out).mono ?_; rintro e w3 ⟨s, rfl, hs, hst, hb⟩; have HSt : Hid (StepAt ns f s) := hst; have HB3 : Hid (Below V.heap.size V w3) := below_then HD hb; have t1 := (HA.out.below HB3.out).cell 0 _ rfl; have hs0 : (0 : Int) ≤ (s : Int) := (by omega); have hs1 : (s : Int) ≤ (ns.length : Int) := (by omega); clear hb hst)
    all_goals
      go_wp2_with fail
      go_meet
      case rel => exact ⟨s, rfl, rfl, rfl, hs, HSt.out, HB3.out⟩
  case rest =>
  obtain ⟨s, rfl, rfl, rfl, hs, hst, hb⟩ := hcut
  have HSt : Hid (StepAt ns f s) := hst
  have hL : (ns.drop s).length = ns.length - s := List.length_drop
  have HQ : Hid (Sq V (some (p.add (s * 4))) (flat (ns.drop s))) := HS1.out.drop s
  have HX : Hid (∀ i, (ns.drop s)[i]? = ns[s + i]?) := fun i => by rw [List.getElem?_drop]
  have B3 : Hid (Below V.heap.size V wc) := hb
  rw [← hL]
  clear hb hst a0 HD HS2 HS1
  generalize p.add (s * 4) = q at HQ
  generalize d - s = D
  have hrl : (ns.drop s).length ≤ 200 := by omega
  generalize ns.drop s = rs at *
  clear hL
  go_wp2_with fail
  go_loopw [18] (fun i wr => ∃ j : Nat, j ≤ rs.length ∧ i = .int .i64 j ∧ (∀ k n, k < j → ns[s + k]? = some n → fitN v n = true) ∧ Below V.heap.size V wr) (fun i _ => rs.length - (intOf i).toNat)
  case atStart => exact ⟨0, Nat.zero_le _, rfl, fun k n hk => by omega, B3.out⟩
  case round =>
    obtain ⟨j, hj, rfl, hall, hb⟩ := hrel
    have HAl : Hid (∀ k n, k < j → ns[s + k]? = some n → fitN v n = true) := hall
    have B4 : Hid (Below V.heap.size V wr) := hb
    clear hall hb B3
    by_cases hlt : j < rs.length
    · have hj0 : (0 : Int) ≤ (j : Int) := by omega
      have hj1 : (j : Int) < (rs.length : Int) := by omega
      obtain ⟨q', hqq, c0, c1, c2, c3⟩ := (HQ.out.below B4.out).node j hlt
      cases hqq
      have HE : Hid (ns[s + j]? = some rs[j]) := by show _ = _; rw [← HX.out j]; exact List.getElem?_eq_getElem hlt
      generalize rs[j] = n at c0 c1 c2 c3 HE
      have hVl := HW.out.lt
      have hBl := B4.out.size
      have n1 : w.heap.size + 1 ≠ wr.heap.size := by omega
      have n2 : w.heap.size + 1 < wr.heap.size := by omega
      have y0 := (HW.out.below B4.out).cell 0 _ rfl
      have y1 := (HW.out.below B4.out).cell 1 _ rfl
      have y2 := (HW.out.below B4.out).cell 2 _ rfl
      by_cases hge : t ≤ n.l
      · have HF : Hid (fitN v (minTo ns f t ns.length) = true) := hold_yes HY.out hf0 hft HSt.out HV.out HAl.out (fun i m hi hm => by
          by_cases e : i = j
          · subst e; rw [HE.out] at hm; cases hm; exact hge
          · have := HY.out.rising.mono HE.out hm (by omega); omega)
        go_wp2_with fail
        go_ret
        exact ⟨by rw [HF.out]; rfl, below_then HB.out (behind_alloc B4.out _)⟩
      · have HFn : Hid (nabB v.a v.b v.c n.a n.b n.c = fitN v n) := by
          show _ = _
          have h1 : vokB v.a v.b v.c = true := HV.out
          have h2 := (HY.out.each _ _ HE.out).2
          simp [fitN, fitB, h1, h2]
        have HW5 : Hid (Row (wr.alloc (.cells #[.int .i64 n.l, .int .i64 n.a, .int .i64 n.b, .int .i64 n.c] 83)) (w.heap.size + 1) [.int .i64 v.a, .int .i64 v.b, .int .i64 v.c]) := (HW.out.below B4.out).below (low_alloc _ _)
        have HP5 : Hid (Row (wr.alloc (.cells #[.int .i64 n.l, .int .i64 n.a, .int .i64 n.b, .int .i64 n.c] 83)) wr.heap.size [.int .i64 n.l, .int .i64 n.a, .int .i64 n.b, .int .i64 n.c]) := row_fresh wr [.int .i64 n.l, .int .i64 n.a, .int .i64 n.b, .int .i64 n.c] 83
        have B5 : Hid (Below V.heap.size V (wr.alloc (.cells #[.int .i64 n.l, .int .i64 n.a, .int .i64 n.b, .int .i64 n.c] 83))) := behind_alloc B4.out _
        go_wp2_with fail
        generalize wr.alloc (.cells #[.int .i64 n.l, .int .i64 n.a, .int .i64 n.b, .int .i64 n.c] 83) = w5 at *
        generalize wr.heap.size = F at HP5 n1 n2 ⊢
        clear c0 c1 c2 c3 y0 y1 y2
        go_region_held3 (fun w' => Below w5.heap.size w5 w' ∧ w'.cell? ⟨w.heap.size + 1, 0, none⟩ = some (.int .i64 v.a) ∧ w'.cell? ⟨w.heap.size + 1, 1, none⟩ = some (.int .i64 v.b) ∧ w'.cell? ⟨w.heap.size + 1, 2, none⟩ = some (.int .i64 v.c) ∧ w'.cell? ⟨F, 1, none⟩ = some (.int .i64 n.a) ∧ w'.cell? ⟨F, 2, none⟩ = some (.int .i64 n.b) ∧ w'.cell? ⟨F, 3, none⟩ = some (.int .i64 n.c)) ((go_split_ands; refine heldEl HW5.out HP5.out ?_; first | (with_reducible assumption) | (exact low_drew _) | (exact below_then (by with_reducible assumption) (by with_reducible assumption)) | (exact behind_alloc (by with_reducible assumption) _) | (go_grown; done)))
          (first
          | (go_at_call_of 52 (Value.agg #[Value.int IntKind.i64 v.a, Value.int IntKind.i64 v.b, Value.int IntKind.i64 v.c]); refine (amounts_c _ _ _ _).mono ?_; rintro e w7 ⟨rfl, hb7⟩)
          | (go_at_call_of 52 (Value.agg #[Value.int IntKind.i64 n.a, Value.int IntKind.i64 n.b, Value.int IntKind.i64 n.c]); refine (amounts_c _ _ _ _).mono ?_; rintro e w8 ⟨rfl, hb8⟩)
          | (go_at_call 51; refine (noneAbove_c _ _ _ _ _ _ _).mono ?_; rintro e w6 ⟨rfl, hb6⟩; rw [HFn.out]))
        all_goals
          go_split_ands
          have B6 : Hid (Below V.heap.size V w6) := below_then B5.out (by with_reducible assumption)
          clear B5 HFn HW5 HP5
          cases hfit : fitN v n
          · have HF : Hid (fitN v (minTo ns f t ns.length) = false) := hold_no HY.out HSt.out HE.out (by omega) hfit
            clear hfit
            go_wp2_with fail
            go_ret
            exact ⟨by rw [HF.out]; rfl, below_then HB.out B6.out⟩
          · have HAn : Hid (∀ k m, k < j + 1 → ns[s + k]? = some m → fitN v m = true) := fun k m hk hm => by
              by_cases e : k = j
              · subst e; rw [HE.out] at hm; cases hm; exact hfit
              · exact HAl.out k m (by omega) hm
            clear hfit
            go_wp2_with fail
            exact ⟨⟨j + 1, by omega, by go_num, HAn.out, B6.out⟩, by simp [intOf]; omega⟩
    · have HF : Hid (fitN v (minTo ns f t ns.length) = true) := hold_yes HY.out hf0 hft HSt.out HV.out HAl.out (fun i m hi hm => by
        rw [← HX.out i] at hm
        have := (List.getElem?_eq_some_iff.1 hm).1
        omega)
      go_wp2_with fail
      go_ret
      exact ⟨by rw [HF.out]; rfl, below_then HB.out B4.out⟩
end Go.Proofs.Ytbnbikmnembciaa

namespace Go.Proofs.Ytbnbikmnembciaa
open Go.ChangeShapes Go.WideShapes Go.ChangeAt Go.RowKit

/-- Whether node i is up and v fits there from f to t. -/
def elC (R : Rm) (v : Nd) (f t : Int) (i : Nat) : Bool := R.up.getD i false && fitN v (minTo (R.pss.getD i []) f t (R.pss.getD i []).length)
/-- Those of the first j nodes. -/
def elTo (R : Rm) (v : Nd) (f t : Int) (j : Nat) : List Int := List.map (fun i : Nat => (i : Int)) ((List.range j).filter (fun i => elC R v f t i))
theorem el_next (R : Rm) (v : Nd) (f t : Int) (j : Nat) : elTo R v f t (j + 1) = if elC R v f t j then elTo R v f t j ++ [(j : Int)] else elTo R v f t j := by
  unfold elTo
  rw [List.range_succ, List.filter_append, List.map_append]
  cases h : elC R v f t j <;> simp [h]
theorem el_len (R : Rm) (v : Nd) (f t : Int) (j : Nat) : (elTo R v f t j).length ≤ j := by
  unfold elTo
  rw [List.length_map]
  have := List.length_filter_le (fun i => elC R v f t i) (List.range j)
  rwa [List.length_range] at this

/-- Profiles in a row, each with room. -/
structure PVc (w : World) (a : Option Addr) (pss : List (List Nd)) : Prop where
  here : ∀ (i : Nat) ns, pss[i]? = some ns → ∃ p q c, a = some p ∧ p.block < w.heap.size ∧ w.cell? (p.add i) = some (.slice q ns.length c) ∧ ns.length ≤ c ∧ Sq w q (flat ns)
theorem PVc.below {w w' : World} {a : Option Addr} {pss : List (List Nd)} (h : PVc w a pss) (hb : Below w.heap.size w w') : PVc w' a pss :=
  ⟨fun i ns hi => by
    obtain ⟨p, q, c, ha, hp, hc, hl, hs⟩ := h.here i ns hi
    exact ⟨p, q, c, ha, Nat.lt_of_lt_of_le hp hb.size, (hb.cell (p := p.add i) (by rw [block_add]; exact hp)).trans hc, hl, hs.below hb⟩⟩
theorem OPs.pvc {w : World} {g : Nat} {pss : List (List Nd)} {hs : List Nat} (h : OPs w g pss hs) : PVc w (some ⟨g, 0, none⟩) pss :=
  ⟨fun i ns hi => by
    have hil := (List.getElem?_eq_some_iff.1 hi).1
    have hih : i < hs.length := by rw [h.len]; exact hil
    have hz : (List.zipWith (fun h (ns : List Nd) => Value.slice (some ⟨h, 0, none⟩) ns.length ns.length) hs pss)[i]? = some (.slice (some ⟨hs[i], 0, none⟩) ns.length ns.length) := by
      rw [List.getElem?_zipWith, List.getElem?_eq_getElem hih, hi]
    obtain ⟨p, hp, hpl, hc⟩ := (Sq.of_row h.top).cell i _ hz
    exact ⟨p, _, _, hp, hpl, hc, Nat.le_refl _, Sq.of_row (h.each i _ ns (List.getElem?_eq_getElem hih) hi)⟩⟩

set_option maxHeartbeats 4000000 in
set_option maxRecDepth 20000 in
theorem eligible_c (A : Ra) (R : Rm) (v : Nd) (f t : Int) (hs : RSmall R) (hok : ROk R) (hsp : spanB f t = true) (hv : vokN v = true) (w : World) (h : RAt w A R) (hc : PVc w A.aQ R.pss) :
    Calls Try.prog 28 #[.agg #[.slice A.aP R.ps.length A.cP, .slice A.aN R.ns.length A.cN, .slice A.aU R.up.length A.cU, .slice A.aQ R.pss.length A.cQ, .slice A.aL R.lic.length A.cL], .agg #[.int .i64 v.a, .int .i64 v.b, .int .i64 v.c], .int .i64 f, .int .i64 t] w fun e w' => ∃ u, e = .returned u ∧ w'.ownsRow w.heap.size 3 1 u (elTo R v f t R.pss.length).length (ints (elTo R v f t R.pss.length)) ∧ Below w.heap.size w w' := by
  obtain ⟨aP, aN, aU, aQ, aL, cP, cN, cU, cQ, cL⟩ := A
  dsimp only at hc ⊢
  have H : Hid (RAt w ⟨aP, aN, aU, aQ, aL, cP, cN, cU, cQ, cL⟩ R) := h
  have HsU : Hid (Sq w aU (bools R.up)) := h.sU
  have HP : Hid (PVc w aQ R.pss) := hc
  have HM : Hid (RSmall R) := hs
  have HY : Hid (ROk R) := hok
  have HSp : Hid (spanB f t = true) := hsp
  have HV : Hid (vokN v = true) := hv
  have hq : R.pss.length ≤ 24 := by rw [hok.profs]; exact hok.topo.nodes
  have HUl : Hid (R.up.length = R.pss.length) := by show _ = _; rw [hok.ups, hok.profs]
  clear h hc hs hok hsp hv
  go_enter Try.func28, Try.ntmps28
  go_wp2_with fail
  generalize hV : (w.alloc (.cells #[.slice aP R.ps.length cP, .slice aN R.ns.length cN, .slice aU R.up.length cU, .slice aQ R.pss.length cQ, .slice aL R.lic.length cL] 45)).alloc (.cells #[.int .i64 v.a, .int .i64 v.b, .int .i64 v.c] 47) = V
  have HA : Hid (Row V w.heap.size [.slice aP R.ps.length cP, .slice aN R.ns.length cN, .slice aU R.up.length cU, .slice aQ R.pss.length cQ, .slice aL R.lic.length cL]) := by subst hV; exact (row_fresh w [.slice aP R.ps.length cP, .slice aN R.ns.length cN, .slice aU R.up.length cU, .slice aQ R.pss.length cQ, .slice aL R.lic.length cL] 45).below (low_alloc _ _)
  have HW : Hid (Row V (w.heap.size + 1) [.int .i64 v.a, .int .i64 v.b, .int .i64 v.c]) := by
    subst hV
    have h := row_fresh (w.alloc (.cells #[.slice aP R.ps.length cP, .slice aN R.ns.length cN, .slice aU R.up.length cU, .slice aQ R.pss.length cQ, .slice aL R.lic.length cL] 45)) [.int .i64 v.a, .int .i64 v.b, .int .i64 v.c] 47
    rw [show (w.alloc (.cells #[.slice aP R.ps.length cP, .slice aN R.ns.length cN, .slice aU R.up.length cU, .slice aQ R.pss.length cQ, .slice aL R.lic.length cL] 45)).heap.size = w.heap.size + 1 by simp [go_sem]] at h
    exact h
  have HB : Hid (Below w.heap.size w V) := by subst hV; exact behind_alloc (low_alloc _ _) _
  clear hV
  have hVl := HW.out.lt
  have HO0 : Hid (V.ownsRow V.heap.size 3 1 (.slice none 0 0) (elTo R v f t 0).length (ints (elTo R v f t 0))) := ⟨rfl, .inl ⟨rfl, rfl⟩⟩
  go_loopw [9, 15] (fun o i wr => ∃ j : Nat, j ≤ R.pss.length ∧ i = .int .i64 j ∧ wr.ownsRow V.heap.size 3 1 o (elTo R v f t j).length (ints (elTo R v f t j)) ∧ Below V.heap.size V wr) (fun _ i _ => R.pss.length - (intOf i).toNat)
  case atStart => exact ⟨0, Nat.zero_le _, rfl, HO0.out, Below.refl _ _⟩
  case round =>
    obtain ⟨j, hj, rfl, hown, hb⟩ := hrel
    have HO : Hid (wr.ownsRow V.heap.size 3 1 u9 (elTo R v f t j).length (ints (elTo R v f t j))) := hown
    have B4 : Hid (Below V.heap.size V wr) := hb
    have hel := el_len R v f t j
    clear hown hb HO0
    have hBl := B4.out.size
    by_cases hlt : j < R.pss.length
    · have hj0 : (0 : Int) ≤ (j : Int) := by omega
      have hj1 : (j : Int) < (R.pss.length : Int) := by omega
      have hju : j < R.up.length := by have := HUl.out; omega
      have hj2 : (j : Int) < (R.up.length : Int) := by omega
      have HE : Hid (R.pss[j]? = some R.pss[j]) := List.getElem?_eq_getElem hlt
      have HU : Hid (R.up[j]? = some R.up[j]) := List.getElem?_eq_getElem hju
      have HNx := el_next R v f t j
      have HEc : Hid (elC R v f t j = (R.up[j] && fitN v (minTo R.pss[j] f t R.pss[j].length))) := by
        show _ = _
        unfold elC
        rw [List.getD_eq_getElem?_getD, List.getD_eq_getElem?_getD, HE.out, HU.out]
        rfl
      have hpo := HY.out.each R.pss[j] (List.getElem_mem hlt)
      obtain ⟨pu, hpu, _, hcu⟩ := ((HsU.out.below HB.out).below B4.out).cell j _ (bools_at R.up j hju)
      generalize R.up[j] = x at HU HEc hcu
      generalize R.pss[j] = ns at HE HEc hpo
      have HPo : Hid (POk ns) := hpo
      obtain ⟨p, q, c, hp, hpl, hcq, hcap, hsq⟩ := ((HP.out.below HB.out).below B4.out).here j ns HE.out
      subst hp
      subst hpu
      have HQ : Hid (Sq wr q (flat ns)) := hsq
      have HNx' : Hid (elTo R v f t (j + 1) = if elC R v f t j then elTo R v f t j ++ [(j : Int)] else elTo R v f t j) := HNx
      clear hsq hpo HNx
      have a2 := (HA.out.below B4.out).cell 2 _ rfl
      have n1 : w.heap.size ≠ wr.heap.size := by omega
      have n2 : w.heap.size < wr.heap.size := by omega
      have n3 : w.heap.size + 1 ≠ wr.heap.size := by omega
      have n4 : w.heap.size + 1 < wr.heap.size := by omega
      have n5 : pu.block ≠ wr.heap.size := by have := World.block_lt_of_cell? _ _ hcu; rw [block_add] at this; omega
      have y0 := (HW.out.below B4.out).cell 0 _ rfl
      have y1 := (HW.out.below B4.out).cell 1 _ rfl
      have y2 := (HW.out.below B4.out).cell 2 _ rfl
      have B5 : Hid (Below V.heap.size V (wr.alloc (.cells #[.slice q ns.length c] 43))) := behind_alloc B4.out _
      have O5 : Hid ((wr.alloc (.cells #[.slice q ns.length c] 43)).ownsRow V.heap.size 3 1 u9 (elTo R v f t j).length (ints (elTo R v f t j))) := HO.out.alloc _
      have S5 : Hid (Sq (wr.alloc (.cells #[.slice q ns.length c] 43)) q (flat ns)) := HQ.out.below (low_alloc _ _)
      have cu5 : (wr.alloc (.cells #[.slice q ns.length c] 43)).cell? (pu.add j) = some (.bool x) := ((low_alloc wr _).cell (World.block_lt_of_cell? _ _ hcu)).trans hcu
      cases x
      · have HF : Hid (elTo R v f t (j + 1) = elTo R v f t j) := by show _ = _; rw [HNx'.out, HEc.out]; rfl
        go_wp2_with fail
        exact ⟨⟨j + 1, by omega, by go_num, by rw [HF.out]; exact O5.out, B5.out⟩, by simp [intOf]; omega⟩
      · go_wp2_with fail
        generalize wr.alloc (.cells #[.slice q ns.length c] 43) = w5 at *
        refine (holds_c q c ns v f t hcap HPo.out HSp.out HV.out _ S5.out).mono ?_
        rintro e w6 ⟨rfl, hb⟩
        have B6 : Hid (Below V.heap.size V w6) := below_then B5.out hb
        have O6 : Hid (w6.ownsRow V.heap.size 3 1 u9 (elTo R v f t j).length (ints (elTo R v f t j))) := O5.out.kept (row := none) ⟨hb.os, hb.tape, hb.output, hb.size, fun i hi _ => hb.block i hi⟩ (by cases (u9 : Value).ownBlock <;> simp)
        clear hb B5 O5 S5 cu5 hcu a2 y0 y1 y2 hcq
        cases hfit : fitN v (minTo ns f t ns.length)
        · have HF : Hid (elTo R v f t (j + 1) = elTo R v f t j) := by show _ = _; rw [HNx'.out, HEc.out, hfit]; rfl
          clear hfit
          go_wp2_with fail
          exact ⟨⟨j + 1, by omega, by go_num, by rw [HF.out]; exact O6.out, B6.out⟩, by simp [intOf]; omega⟩
        · have HF : Hid (elTo R v f t (j + 1) = elTo R v f t j ++ [(j : Int)]) := by show _ = _; rw [HNx'.out, HEc.out, hfit]; rfl
          clear hfit
          go_wp2_with (at_builtin; refine wpl_app1 (B := V) (base := V.heap.size) (xs := elTo R v f t j) (y := (j : Int)) rfl rfl O6.out (by omega) B6.out (Nat.le_refl _) B6.out.size rfl rfl ?_)
          intro v1 w7 HO7 HB7
          have O8 : Hid (w7.ownsRow V.heap.size 3 1 v1 (elTo R v f t (j + 1)).length (ints (elTo R v f t (j + 1)))) := by rw [HF.out, List.length_append, List.length_singleton]; exact HO7
          go_wp2_with fail
          exact ⟨⟨j + 1, by omega, by go_num, O8.out, HB7.out⟩, by simp [intOf]; omega⟩
    · obtain rfl : j = R.pss.length := by omega
      go_wp2_with fail
      go_ret
      exact ⟨_, rfl, owns_mono HO.out HB.out.size, below_then HB.out B4.out⟩
end Go.Proofs.Ytbnbikmnembciaa

namespace Go.Proofs.Ytbnbikmnembciaa
open Go.ChangeShapes Go.WideShapes Go.ChangeAt Go.RowKit

theorem fit_bad {v n : Nd} (h : vokN v = false) : fitN v n = false := by
  unfold vokN at h
  simp [fitN, fitB, h]
theorem el_none {R : Rm} {v : Nd} {f t : Int} (h : vokN v = false) (j : Nat) : elTo R v f t j = [] := by
  unfold elTo
  have e : (List.range j).filter (fun i => elC R v f t i) = [] := by
    rw [List.filter_eq_nil_iff]
    intro i _
    simp [elC, fit_bad h]
  rw [e]
  rfl
/-- What 'Eligible' answers. -/
noncomputable def elR (R : Rm) (v : Nd) (f t : Int) : List Int := open Classical in if ROk R ∧ spanB f t = true then elTo R v f t R.pss.length else []
theorem elR_no {R : Rm} {v : Nd} {f t : Int} (h : ¬ ROk R) : elR R v f t = [] := by rw [elR, if_neg (fun x => h x.1)]
theorem elR_vec {R : Rm} {v : Nd} {f t : Int} (h : vokN v = false) : elR R v f t = [] := by
  unfold elR
  split
  · exact el_none h _
  · rfl
theorem elR_span {R : Rm} {v : Nd} {f t : Int} (h : spanB f t = false) : elR R v f t = [] := by rw [elR, if_neg (fun x => by rw [h] at x; cases x.2)]
theorem elR_yes {R : Rm} {v : Nd} {f t : Int} (h : ROk R) (h2 : spanB f t = true) : elR R v f t = elTo R v f t R.pss.length := by rw [elR, if_pos ⟨h, h2⟩]
theorem elR_len (R : Rm) (v : Nd) (f t : Int) : (elR R v f t).length ≤ 24 := by
  unfold elR
  split
  · rename_i h
    have := el_len R v f t R.pss.length
    have h2 := h.1.profs
    have h3 := h.1.topo.nodes
    omega
  · simp

/-- What a function that answers a list of numbers answers. -/
def RetI (w : World) (xs : List Int) (e : Ending) (w' : World) : Prop := ∃ u, e = .returned u ∧ Ans w.heap.size w'.heap.size w' (ints xs) u ∧ Below w.heap.size w w'
theorem ans_wide {B B' T T' : Nat} {w : World} {xs : List Value} {v : Value} (h : Ans B T w xs v) (hB : B' ≤ B) (hT : T ≤ T') : Ans B' T' w xs v := by
  obtain ⟨a, cap, hv, h⟩ := h
  refine ⟨a, cap, hv, ?_⟩
  rcases h with rfl | ⟨g, rfl, hg, hT', hr⟩
  · exact .inl rfl
  · exact .inr ⟨g, rfl, by omega, by omega, hr⟩

set_option maxHeartbeats 4000000 in
set_option maxRecDepth 20000 in
theorem implEligible_c (A : Ra) (R : Rm) (v : Nd) (f t : Int) (hs : RSmall R) (w : World) (h : RAt w A R) (hc : PVc w A.aQ R.pss) :
    Calls Try.prog 8 #[.agg #[.slice A.aP R.ps.length A.cP, .slice A.aN R.ns.length A.cN, .slice A.aU R.up.length A.cU, .slice A.aQ R.pss.length A.cQ, .slice A.aL R.lic.length A.cL], .agg #[.int .i64 v.a, .int .i64 v.b, .int .i64 v.c], .int .i64 f, .int .i64 t] w (RetI w (elR R v f t)) := by
  have H : Hid (RAt w A R) := h
  have HP : Hid (PVc w A.aQ R.pss) := hc
  have HM : Hid (RSmall R) := hs
  clear h hc hs
  go_enter Try.func8, Try.ntmps8
  go_wp2_with fail
  generalize hV : (w.alloc (.cells #[.slice A.aP R.ps.length A.cP, .slice A.aN R.ns.length A.cN, .slice A.aU R.up.length A.cU, .slice A.aQ R.pss.length A.cQ, .slice A.aL R.lic.length A.cL] 45)).alloc (.cells #[.int .i64 v.a, .int .i64 v.b, .int .i64 v.c] 47) = V
  have HA : Hid (Row V w.heap.size [.slice A.aP R.ps.length A.cP, .slice A.aN R.ns.length A.cN, .slice A.aU R.up.length A.cU, .slice A.aQ R.pss.length A.cQ, .slice A.aL R.lic.length A.cL]) := by subst hV; exact (row_fresh w [.slice A.aP R.ps.length A.cP, .slice A.aN R.ns.length A.cN, .slice A.aU R.up.length A.cU, .slice A.aQ R.pss.length A.cQ, .slice A.aL R.lic.length A.cL] 45).below (low_alloc _ _)
  have HW : Hid (Row V (w.heap.size + 1) [.int .i64 v.a, .int .i64 v.b, .int .i64 v.c]) := by
    subst hV
    have h := row_fresh (w.alloc (.cells #[.slice A.aP R.ps.length A.cP, .slice A.aN R.ns.length A.cN, .slice A.aU R.up.length A.cU, .slice A.aQ R.pss.length A.cQ, .slice A.aL R.lic.length A.cL] 45)) [.int .i64 v.a, .int .i64 v.b, .int .i64 v.c] 47
    rw [show (w.alloc (.cells #[.slice A.aP R.ps.length A.cP, .slice A.aN R.ns.length A.cN, .slice A.aU R.up.length A.cU, .slice A.aQ R.pss.length A.cQ, .slice A.aL R.lic.length A.cL] 45)).heap.size = w.heap.size + 1 by simp [go_sem]] at h
    exact h
  have HB : Hid (Below w.heap.size w V) := by subst hV; exact behind_alloc (low_alloc _ _) _
  clear hV
  refine (implRoomOk_c A R HM.out _ (H.out.below HB.out)).mono ?_
  rintro e w1 ⟨k, rfl, hk, hb⟩
  have B1 : Hid (Below V.heap.size V w1) := hb
  have HK : Hid (k = true ↔ ROk R) := hk
  clear hb hk
  have y0 := (HW.out.below B1.out).cell 0 _ rfl
  have y1 := (HW.out.below B1.out).cell 1 _ rfl
  have y2 := (HW.out.below B1.out).cell 2 _ rfl
  cases k
  · have HN : Hid (elR R v f t = []) := elR_no (fun h => by have := HK.out.2 h; cases this)
    clear HK
    go_wp2_with fail
    go_ret
    refine ⟨_, rfl, ?_, below_then HB.out B1.out⟩
    rw [HN.out]
    exact ⟨none, 0, rfl, .inl rfl⟩
  · have HY : Hid (ROk R) := HK.out.1 rfl
    clear HK
    go_wp2_with fail
    refine (implVecOk_c v.a v.b v.c _).mono ?_
    rintro e w2 ⟨rfl, hb⟩
    have B2 : Hid (Below V.heap.size V w2) := below_then B1.out hb
    clear hb y0 y1 y2 B1
    cases hv : vokB v.a v.b v.c
    · have HN : Hid (elR R v f t = []) := elR_vec hv
      clear hv
      go_wp2_with fail
      go_ret
      refine ⟨_, rfl, ?_, below_then HB.out B2.out⟩
      rw [HN.out]
      exact ⟨none, 0, rfl, .inl rfl⟩
    · have HV : Hid (vokN v = true) := hv
      clear hv
      go_wp2_with fail
      refine (spanOk_c f t _).mono ?_
      rintro e w3 ⟨rfl, rfl⟩
      cases hsp : spanB f t
      · have HN : Hid (elR R v f t = []) := elR_span hsp
        clear hsp
        go_wp2_with fail
        go_ret
        refine ⟨_, rfl, ?_, below_then HB.out B2.out⟩
        rw [HN.out]
        exact ⟨none, 0, rfl, .inl rfl⟩
      · have HN : Hid (elR R v f t = elTo R v f t R.pss.length) := elR_yes HY.out hsp
        have HSp : Hid (spanB f t = true) := hsp
        clear hsp
        have y0 := (HW.out.below B2.out).cell 0 _ rfl
        have y1 := (HW.out.below B2.out).cell 1 _ rfl
        have y2 := (HW.out.below B2.out).cell 2 _ rfl
        have a0 := (HA.out.below B2.out).cell 0 _ rfl
        have a1 := (HA.out.below B2.out).cell 1 _ rfl
        have a2 := (HA.out.below B2.out).cell 2 _ rfl
        have a3 := (HA.out.below B2.out).cell 3 _ rfl
        have a4 := (HA.out.below B2.out).cell 4 _ rfl
        have Bw : Hid (Below w.heap.size w w3) := below_then HB.out B2.out
        go_wp2_with fail
        refine (eligible_c A R v f t HM.out HY.out HSp.out HV.out _ (H.out.below Bw.out) (HP.out.below Bw.out)).mono ?_
        rintro e w4 ⟨u, rfl, hown, hb⟩
        have O4 : Hid (Ans w3.heap.size w4.heap.size w4 (ints (elTo R v f t R.pss.length)) u) := Ans.of_owns hown
        have B4 : Hid (Below w.heap.size w w4) := below_then Bw.out hb
        have hsz := Bw.out.size
        clear hown hb y0 y1 y2 a0 a1 a2 a3 a4
        go_wp2_with fail
        go_ret
        refine ⟨u, rfl, ?_, B4.out⟩
        rw [HN.out]
        exact ans_wide O4.out hsz (Nat.le_refl _)
end Go.Proofs.Ytbnbikmnembciaa

namespace Go.Proofs.Ytbnbikmnembciaa
open Go.ChangeShapes Go.WideShapes Go.ChangeAt Go.RowKit

/-- As far as the specification has come. -/
noncomputable def elS (R : Rm) (v : Nd) (f t : Int) (j : Nat) : List Int := bif spanB f t then elTo R v f t j else []
theorem elS_len (R : Rm) (v : Nd) (f t : Int) (j : Nat) : (elS R v f t j).length ≤ j := by
  unfold elS
  cases spanB f t
  · simp
  · exact el_len R v f t j

set_option maxHeartbeats 4000000 in
set_option maxRecDepth 20000 in
theorem specEligible_c (aP aN aU aQ aL : Option Addr) (cP cN cU cQ cL : Nat) (R : Rm) (v : Nd) (f t : Int) (hs : RSmall R) (w : World) (h : RAt w ⟨aP, aN, aU, aQ, aL, cP, cN, cU, cQ, cL⟩ R) :
    Calls Try.prog 5 #[.agg #[.slice aP R.ps.length cP, .slice aN R.ns.length cN, .slice aU R.up.length cU, .slice aQ R.pss.length cQ, .slice aL R.lic.length cL], .agg #[.int .i64 v.a, .int .i64 v.b, .int .i64 v.c], .int .i64 f, .int .i64 t] w (RetI w (elR R v f t)) := by
  have H : Hid (RAt w ⟨aP, aN, aU, aQ, aL, cP, cN, cU, cQ, cL⟩ R) := h
  have HsU : Hid (Sq w aU (bools R.up)) := h.sU
  have HP : Hid (PVs w aQ R.pss) := h.sQ
  have HM : Hid (RSmall R) := hs
  clear h hs
  go_enter Try.func5, Try.ntmps5
  go_wp2_with fail
  generalize hV : (w.alloc (.cells #[.slice aP R.ps.length cP, .slice aN R.ns.length cN, .slice aU R.up.length cU, .slice aQ R.pss.length cQ, .slice aL R.lic.length cL] 45)).alloc (.cells #[.int .i64 v.a, .int .i64 v.b, .int .i64 v.c] 47) = V
  have HA : Hid (Row V w.heap.size [.slice aP R.ps.length cP, .slice aN R.ns.length cN, .slice aU R.up.length cU, .slice aQ R.pss.length cQ, .slice aL R.lic.length cL]) := by subst hV; exact (row_fresh w [.slice aP R.ps.length cP, .slice aN R.ns.length cN, .slice aU R.up.length cU, .slice aQ R.pss.length cQ, .slice aL R.lic.length cL] 45).below (low_alloc _ _)
  have HW : Hid (Row V (w.heap.size + 1) [.int .i64 v.a, .int .i64 v.b, .int .i64 v.c]) := by
    subst hV
    have h := row_fresh (w.alloc (.cells #[.slice aP R.ps.length cP, .slice aN R.ns.length cN, .slice aU R.up.length cU, .slice aQ R.pss.length cQ, .slice aL R.lic.length cL] 45)) [.int .i64 v.a, .int .i64 v.b, .int .i64 v.c] 47
    rw [show (w.alloc (.cells #[.slice aP R.ps.length cP, .slice aN R.ns.length cN, .slice aU R.up.length cU, .slice aQ R.pss.length cQ, .slice aL R.lic.length cL] 45)).heap.size = w.heap.size + 1 by simp [go_sem]] at h
    exact h
  have HB : Hid (Below w.heap.size w V) := by subst hV; exact behind_alloc (low_alloc _ _) _
  have hVs : w.heap.size + 1 + 1 = V.heap.size := by subst hV; simp [go_sem]
  clear hV
  rw [hVs]
  have HO0 : Hid ((V.alloc (.cells #[] 3)).ownsRow V.heap.size 3 1 (.slice (some ⟨V.heap.size, 0, none⟩) 0 0) (elS R v f t 0).length (ints (elS R v f t 0))) := by
    have e : elS R v f t 0 = [] := List.length_eq_zero_iff.1 (by have := elS_len R v f t 0; omega)
    rw [e]
    exact World.ownsRow_made V #[] 0 (Nat.le_refl _) (by decide) rfl
  have HB0 : Hid (Below V.heap.size V (V.alloc (.cells #[] 3))) := low_alloc _ _
  generalize V.alloc (.cells #[] 3) = w0 at *
  refine (specRoomOk_c ⟨aP, aN, aU, aQ, aL, cP, cN, cU, cQ, cL⟩ R HM.out _ (H.out.below (below_then HB.out HB0.out))).mono ?_
  rintro e w1 ⟨k, rfl, hk, hb⟩
  have B1 : Hid (Below V.heap.size V w1) := below_then HB0.out hb
  have HK : Hid (k = true ↔ ROk R) := hk
  have O1 : Hid (w1.ownsRow V.heap.size 3 1 (.slice (some ⟨V.heap.size, 0, none⟩) 0 0) (elS R v f t 0).length (ints (elS R v f t 0))) := owns_below HO0.out hb
  clear hb hk HO0 HB0
  have a3 := (HA.out.below B1.out).cell 3 _ rfl
  cases k
  · have HN : Hid (elR R v f t = []) := elR_no (fun h => by have := HK.out.2 h; cases this)
    clear HK
    go_wp2_with fail
    go_ret
    refine ⟨_, rfl, ?_, below_then HB.out B1.out⟩
    rw [HN.out]
    exact ⟨_, 0, rfl, .inl rfl⟩
  · have HY : Hid (ROk R) := HK.out.1 rfl
    clear HK
    have hq : R.pss.length ≤ 24 := by rw [HY.out.profs]; exact HY.out.topo.nodes
    have HUl : Hid (R.up.length = R.pss.length) := by show _ = _; rw [HY.out.ups, HY.out.profs]
    have hVl := HW.out.lt
    have hA0 := HA.out.lt
    clear hVs
    go_wp2_with fail
    clear a3
    go_loopw [9, 21] (fun o i wr => ∃ j : Nat, j ≤ R.pss.length ∧ i = .int .i64 j ∧ wr.ownsRow V.heap.size 3 1 o (elS R v f t j).length (ints (elS R v f t j)) ∧ Below V.heap.size V wr) (fun _ i _ => R.pss.length - (intOf i).toNat)
    case atStart => exact ⟨0, Nat.zero_le _, rfl, O1.out, B1.out⟩
    case round =>
      obtain ⟨j, hj, rfl, hown, hb⟩ := hrel
      have HO : Hid (wr.ownsRow V.heap.size 3 1 u9 (elS R v f t j).length (ints (elS R v f t j))) := hown
      have B4 : Hid (Below V.heap.size V wr) := hb
      have hel := elS_len R v f t j
      clear hown hb O1 B1
      have hBl := B4.out.size
      by_cases hlt : j < R.pss.length
      · have hj0 : (0 : Int) ≤ (j : Int) := by omega
        have hj1 : (j : Int) < (R.pss.length : Int) := by omega
        have hju : j < R.up.length := by have := HUl.out; omega
        have hj2 : (j : Int) < (R.up.length : Int) := by omega
        have HE : Hid (R.pss[j]? = some R.pss[j]) := List.getElem?_eq_getElem hlt
        have HU : Hid (R.up[j]? = some R.up[j]) := List.getElem?_eq_getElem hju
        have HEc : Hid (elC R v f t j = (R.up[j] && fitN v (minTo R.pss[j] f t R.pss[j].length))) := by
          show _ = _
          unfold elC
          rw [List.getD_eq_getElem?_getD, List.getD_eq_getElem?_getD, HE.out, HU.out]
          rfl
        have HNx : Hid (elTo R v f t (j + 1) = if elC R v f t j then elTo R v f t j ++ [(j : Int)] else elTo R v f t j) := el_next R v f t j
        have hpo := HY.out.each R.pss[j] (List.getElem_mem hlt)
        obtain ⟨pu, hpu, _, hcu⟩ := ((HsU.out.below HB.out).below B4.out).cell j _ (bools_at R.up j hju)
        generalize R.up[j] = x at HU HEc hcu
        generalize R.pss[j] = ns at HE HEc hpo
        have HPo : Hid (POk ns) := hpo
        obtain ⟨p, q, c, hp, hpl, hcq, hsq⟩ := ((HP.out.below HB.out).below B4.out).here j ns HE.out
        subst hp
        subst hpu
        have HQ : Hid (Sq wr q (flat ns)) := hsq
        clear hsq hpo
        have a3 := (HA.out.below B4.out).cell 3 _ rfl
        go_wp2_with fail
        refine (specProfMin_c q c ns f t _ HQ.out).mono ?_
        rintro e w5 ⟨rfl, hb⟩
        have B5 : Hid (Below V.heap.size V w5) := below_then B4.out hb
        have O5 : Hid (w5.ownsRow V.heap.size 3 1 u9 (elS R v f t j).length (ints (elS R v f t j))) := owns_below HO.out hb
        have cu5 : w5.cell? (pu.add j) = some (.bool x) := (hb.cell (World.block_lt_of_cell? _ _ hcu)).trans hcu
        clear hb hcu a3 hcq
        have a2 := (HA.out.below B5.out).cell 2 _ rfl
        have h5 := B5.out.size
        have n1 : w.heap.size ≠ w5.heap.size := by omega
        have n2 : w.heap.size < w5.heap.size := by omega
        have n3 : w.heap.size + 1 ≠ w5.heap.size := by omega
        have n4 : w.heap.size + 1 < w5.heap.size := by omega
        have n5 : pu.block ≠ w5.heap.size := by have := World.block_lt_of_cell? _ _ cu5; rw [block_add] at this; omega
        cases hsp : spanB f t
        · have HF : Hid (elS R v f t (j + 1) = elS R v f t j) := by show _ = _; rw [elS, elS, hsp]; rfl
          rw [(minK_span (ns := ns) hsp).1]
          generalize minR ns f t = mm
          have B6 : Hid (Below V.heap.size V (w5.alloc (.cells #[.int .i64 mm.a, .int .i64 mm.b, .int .i64 mm.c] 47))) := behind_alloc B5.out _
          have O6 : Hid ((w5.alloc (.cells #[.int .i64 mm.a, .int .i64 mm.b, .int .i64 mm.c] 47)).ownsRow V.heap.size 3 1 u9 (elS R v f t j).length (ints (elS R v f t j))) := O5.out.alloc _
          clear hsp
          go_wp2_with fail
          exact ⟨⟨j + 1, by omega, by go_num, by rw [HF.out]; exact O6.out, B6.out⟩, by simp [intOf]; omega⟩
        · have hmk := minK_yes HPo.out hsp
          rw [hmk.1, hmk.2]
          have HSe : Hid (elS R v f t (j + 1) = elTo R v f t (j + 1) ∧ elS R v f t j = elTo R v f t j) := by
            constructor
            · rw [elS, hsp]; rfl
            · rw [elS, hsp]; rfl
          have HFt : Hid (∀ W, Calls Try.prog 20 #[.agg #[.int .i64 v.a, .int .i64 v.b, .int .i64 v.c], .agg #[.int .i64 (minTo ns f t ns.length).a, .int .i64 (minTo ns f t ns.length).b, .int .i64 (minTo ns f t ns.length).c]] W fun e w' => e = .returned (.bool (fitN v (minTo ns f t ns.length))) ∧ Below W.heap.size W w') := fun W => specVecFits_c v.a v.b v.c _ _ _ W
          generalize minTo ns f t ns.length = mm at *
          have B6 : Hid (Below V.heap.size V (w5.alloc (.cells #[.int .i64 mm.a, .int .i64 mm.b, .int .i64 mm.c] 47))) := behind_alloc B5.out _
          have O6 : Hid ((w5.alloc (.cells #[.int .i64 mm.a, .int .i64 mm.b, .int .i64 mm.c] 47)).ownsRow V.heap.size 3 1 u9 (elS R v f t j).length (ints (elS R v f t j))) := O5.out.alloc _
          have M6 : Hid (Row (w5.alloc (.cells #[.int .i64 mm.a, .int .i64 mm.b, .int .i64 mm.c] 47)) w5.heap.size [.int .i64 mm.a, .int .i64 mm.b, .int .i64 mm.c]) := row_fresh w5 [.int .i64 mm.a, .int .i64 mm.b, .int .i64 mm.c] 47
          have cu6 : (w5.alloc (.cells #[.int .i64 mm.a, .int .i64 mm.b, .int .i64 mm.c] 47)).cell? (pu.add j) = some (.bool x) := ((low_alloc w5 _).cell (World.block_lt_of_cell? _ _ cu5)).trans cu5
          have y0 := (HW.out.below B5.out).cell 0 _ rfl
          have y1 := (HW.out.below B5.out).cell 1 _ rfl
          have y2 := (HW.out.below B5.out).cell 2 _ rfl
          clear hsp hmk
          cases x
          · have HF : Hid (elS R v f t (j + 1) = elS R v f t j) := by show _ = _; rw [HSe.out.1, HSe.out.2, HNx.out, HEc.out]; rfl
            go_wp2_with fail
            exact ⟨⟨j + 1, by omega, by go_num, by rw [HF.out]; exact O6.out, B6.out⟩, by simp [intOf]; omega⟩
          · go_wp2_with fail
            generalize w5.alloc (.cells #[.int .i64 mm.a, .int .i64 mm.b, .int .i64 mm.c] 47) = w6 at *
            refine (HFt.out w6).mono ?_
            rintro e w7 ⟨rfl, hb⟩
            have B7 : Hid (Below V.heap.size V w7) := below_then B6.out hb
            have O7 : Hid (w7.ownsRow V.heap.size 3 1 u9 (elS R v f t j).length (ints (elS R v f t j))) := owns_below O6.out hb
            clear hb B5 O5 B6 O6 cu5 cu6 a2 y0 y1 y2
            cases hfit : fitN v mm
            · have HF : Hid (elS R v f t (j + 1) = elS R v f t j) := by show _ = _; rw [HSe.out.1, HSe.out.2, HNx.out, HEc.out, hfit]; rfl
              clear hfit
              go_wp2_with fail
              exact ⟨⟨j + 1, by omega, by go_num, by rw [HF.out]; exact O7.out, B7.out⟩, by simp [intOf]; omega⟩
            · have HF : Hid (elS R v f t (j + 1) = elS R v f t j ++ [(j : Int)]) := by show _ = _; rw [HSe.out.1, HSe.out.2, HNx.out, HEc.out, hfit]; rfl
              clear hfit
              go_wp2_with (at_builtin; refine wpl_app1 (B := V) (base := V.heap.size) (xs := elS R v f t j) (y := (j : Int)) rfl rfl O7.out (by omega) B7.out (Nat.le_refl _) B7.out.size rfl rfl ?_)
              intro v1 w8 HO8 HB8
              have O9 : Hid (w8.ownsRow V.heap.size 3 1 v1 (elS R v f t (j + 1)).length (ints (elS R v f t (j + 1)))) := by rw [HF.out, List.length_append, List.length_singleton]; exact HO8
              go_wp2_with fail
              exact ⟨⟨j + 1, by omega, by go_num, O9.out, HB8.out⟩, by simp [intOf]; omega⟩
      · obtain rfl : j = R.pss.length := by omega
        have HN : Hid (elR R v f t = elS R v f t R.pss.length) := by
          show _ = _
          rw [elS]
          cases hsp : spanB f t
          · exact elR_span hsp
          · exact elR_yes HY.out hsp
        have OA : Hid (Ans V.heap.size wr.heap.size wr (ints (elS R v f t R.pss.length)) u9) := Ans.of_owns HO.out
        go_wp2_with fail
        go_ret
        refine ⟨_, rfl, ?_, below_then HB.out B4.out⟩
        rw [HN.out]
        exact ans_wide OA.out HB.out.size (Nat.le_refl _)
end Go.Proofs.Ytbnbikmnembciaa

namespace Go.Proofs.Ytbnbikmnembciaa
open Go.ChangeShapes Go.WideShapes Go.ChangeAt Go.RowKit

theorem Apart.of_grown {B T g : Nat} {w w' : World} (h : w.grownBy w' (some g)) (h1 : B ≤ g) (h2 : g < T) : Apart B T w w' :=
  ⟨fun b ys hr hb => hr.far h (fun e => by have := Option.some.inj e; omega), fun w0 hb0 h0 => hb0.grown h hb0.size (fun k e => by cases e; omega), h.size⟩
theorem Apart.refl (B T : Nat) (w : World) : Apart B T w w := ⟨fun _ _ h _ => h, fun _ h _ => h, Nat.le_refl _⟩
theorem Apart.trans {B T : Nat} {w w' w'' : World} (h : Apart B T w w') (h' : Apart B T w' w'') : Apart B T w w'' :=
  ⟨fun b ys hr hb => h'.1 b ys (h.1 b ys hr hb) hb, fun w0 hb h0 => h'.2.1 w0 (h.2.1 w0 hb h0) h0, Nat.le_trans h.2.2 h'.2.2⟩
theorem Apart.wide {B T B' T' : Nat} {w w' : World} (h : Apart B T w w') (hB : B' ≤ B) (hT : T ≤ T') : Apart B' T' w w' :=
  ⟨fun b ys hr hb => h.1 b ys hr (by omega), fun w0 hb h0 => h.2.1 w0 hb (by omega), h.2.2⟩
theorem Apart.new {B T : Nat} {w w' w'' : World} (hb : Below w.heap.size w w') (h : Apart B T w' w'') : Apart B T w w'' :=
  ⟨fun b ys hr hc => h.1 b ys (hr.below hb) hc, fun w0 hb0 h0 => h.2.1 w0 (below_then hb0 hb) h0, Nat.le_trans hb.size h.2.2⟩
theorem OPs.keep {B T : Nat} {w w' : World} {g : Nat} {pss : List (List Nd)} {hs : List Nat} (h : OPs w g pss hs) (ha : Apart B T w w') (hg : T ≤ g) : OPs w' g pss hs :=
  ⟨h.len, ha.1 _ _ h.top (.inr hg), fun i x ns h1 h2 => ha.1 _ _ (h.each i x ns h1 h2) (.inr (by have := (List.pairwise_cons.1 h.rise).1 x (List.mem_of_getElem? h1); omega)), h.rise⟩

set_option maxHeartbeats 1000000 in
theorem markBoolS_c (g cap n k0 : Nat) (xs : List Value) (hx : xs.length = n) (hl : n ≤ 1048576) (hk : k0 ≤ 4294967296) (w : World) (h : Row w g xs) :
    Calls Try.prog 34 #[.slice (some ⟨g, 0, none⟩) n cap, .int .i64 (k0 : Int)] w fun e w' => e = .returned (.int .i64 ((k0 + n : Nat) : Int)) ∧ w.grownBy w' (some g) := by
  have H : Hid (Row w g xs) := h
  clear h
  go_enter Try.func34, Try.ntmps34
  go_wp2_with fail
  go_loopw [1, 5] (fun k i wr => ∃ (j : Nat) (ys : List Value), j ≤ n ∧ i = .int .i64 j ∧ k = .int .i64 ((k0 + j : Nat) : Int) ∧ ys.length = n ∧ w.grownBy wr (some g) ∧ Row wr g ys) (fun _ i _ => n - (intOf i).toNat)
  case atStart => exact ⟨0, xs, Nat.zero_le _, rfl, rfl, hx, ⟨rfl, rfl, rfl, Nat.le_refl _, fun _ _ _ => rfl⟩, H.out⟩
  case round =>
    obtain ⟨j, ys, hj, rfl, rfl, hy, hg, hr⟩ := hrel
    have HG : Hid (w.grownBy wr (some g)) := hg
    have HR : Hid (Row wr g ys) := hr
    clear hg hr
    by_cases hlt : j < n
    · have hi1 : (j : Int) < (n : Int) := by omega
      have hi0 : (0 : Int) ≤ (j : Int) := by omega
      have d0 := HR.out.cell j _ (List.getElem?_eq_getElem (by omega))
      have f0 := HR.out.free j
      generalize ys[j] = y0 at d0
      go_wp2_with fail
      refine ⟨⟨j + 1, ys.set j _, by omega, by go_num, ?_, ?_, Lib.grownBy_setB HG.out _ _, HR.out.set _ ?_ _⟩, by simp [intOf]; omega⟩
      · rw [show ((k0 : Int) + (j : Int) + 1) = ((k0 + (j + 1) : Nat) : Int) by omega]
      · simpa using hy
      · omega
    · obtain rfl : j = n := by omega
      go_wp2_with fail
      go_ret
      exact ⟨rfl, HG.out⟩

set_option maxHeartbeats 2000000 in
theorem markProfS_c (g cap k0 T : Nat) (pss : List (List Nd)) (hs : List Nat) (hl : pss.length ≤ 1048576) (htot : (pss.map List.length).sum ≤ 1048576) (hk : k0 ≤ 16777216) (hT : ∀ h ∈ hs, h < T) (w : World) (h : OPs w g pss hs) :
    Calls Try.prog 35 #[.slice (some ⟨g, 0, none⟩) pss.length cap, .int .i64 (k0 : Int)] w fun e w' => ∃ k1 : Nat, e = .returned (.int .i64 (k1 : Int)) ∧ k1 ≤ k0 + 4194304 ∧ Apart (g + 1) T w w' := by
  have H : Hid (OPs w g pss hs) := h
  have HT : Hid (∀ h ∈ hs, h < T) := hT
  have HTot : Hid ((pss.map List.length).sum ≤ 1048576) := htot
  clear h hT htot
  go_enter Try.func35, Try.ntmps35
  go_wp2_with fail
  go_loopw [1, 5] (fun k i wr => ∃ j : Nat, j ≤ pss.length ∧ i = .int .i64 j ∧ k = .int .i64 ((k0 + 4 * ((pss.take j).map List.length).sum : Nat) : Int) ∧ Apart (g + 1) T w wr ∧ (∀ i x ns, j ≤ i → hs[i]? = some x → pss[i]? = some ns → Row wr x (flat ns))) (fun _ i _ => pss.length - (intOf i).toNat)
  case atStart => exact ⟨0, Nat.zero_le _, rfl, by simp, Apart.refl _ _ _, fun i x ns _ h1 h2 => H.out.each i x ns h1 h2⟩
  case round =>
    obtain ⟨j, hj, rfl, rfl, hap, hrest⟩ := hrel
    have HAp : Hid (Apart (g + 1) T w wr) := hap
    have HRs : Hid (∀ i x ns, j ≤ i → hs[i]? = some x → pss[i]? = some ns → Row wr x (flat ns)) := hrest
    have hsum : ((pss.take j).map List.length).sum ≤ 1048576 := by
      have e : (pss.map List.length).sum = ((pss.take j).map List.length).sum + ((pss.drop j).map List.length).sum := by
        rw [← List.sum_append, ← List.map_append, List.take_append_drop]
      have := HTot.out
      omega
    clear hap hrest
    by_cases hlt : j < pss.length
    · have hi0 : (0 : Int) ≤ (j : Int) := by omega
      have hi1 : (j : Int) < (pss.length : Int) := by omega
      have hjh : j < hs.length := by rw [H.out.len]; exact hlt
      have HE : Hid (pss[j]? = some pss[j]) := List.getElem?_eq_getElem hlt
      have HX : Hid (hs[j]? = some hs[j]) := List.getElem?_eq_getElem hjh
      have HSm : Hid (((pss.take (j + 1)).map List.length).sum = ((pss.take j).map List.length).sum + pss[j].length) := by
        show _ = _
        rw [List.take_add_one, HE.out, Option.toList_some, List.map_append, List.sum_append, List.map_cons, List.map_nil, List.sum_cons, List.sum_nil, Nat.add_zero]
      have hnl : pss[j].length ≤ 1048576 := by
        have h2 : ((pss.take (j + 1)).map List.length).sum ≤ 1048576 := by
          have e : (pss.map List.length).sum = ((pss.take (j + 1)).map List.length).sum + ((pss.drop (j + 1)).map List.length).sum := by
            rw [← List.sum_append, ← List.map_append, List.take_append_drop]
          have := HTot.out
          omega
        have := HSm.out
        omega
      have hz : (List.zipWith (fun h (ns : List Nd) => Value.slice (some ⟨h, 0, none⟩) ns.length ns.length) hs pss)[j]? = some (.slice (some ⟨hs[j], 0, none⟩) pss[j].length pss[j].length) := by
        rw [List.getElem?_zipWith, HX.out, HE.out]
      have d0 := (HAp.out.1 _ _ H.out.top (.inl (Nat.lt_succ_self g))).cell j _ hz
      have hxT := HT.out hs[j] (List.getElem_mem hjh)
      have hgx := (List.pairwise_cons.1 H.out.rise).1 hs[j] (List.getElem_mem hjh)
      have Hsep : Hid (∀ i x, j < i → hs[i]? = some x → x ≠ hs[j]) := fun i x hi hx e => by
        have hp := (List.pairwise_cons.1 H.out.rise).2
        rw [List.pairwise_iff_getElem] at hp
        obtain ⟨hil, rfl⟩ := List.getElem?_eq_some_iff.1 hx
        have := hp j i hjh hil hi
        omega
      have HRj : Hid (Row wr hs[j] (flat pss[j])) := HRs.out j _ _ (Nat.le_refl _) HX.out HE.out
      generalize hs[j] = x at *
      generalize pss[j] = ns at *
      clear hz
      generalize ((pss.take j).map List.length).sum = S at *
      go_wp2_with fail
      refine (markPtS_c x ns.length ns.length (k0 + 4 * S) (flat ns) (flat_len ns) hnl (by omega) _ HRj.out).mono ?_
      rintro e w1 ⟨rfl, hgr, _⟩
      have HAp1 : Hid (Apart (g + 1) T w w1) := HAp.out.trans (Apart.of_grown hgr (by omega) hxT)
      have HRs1 : Hid (∀ i y ms, j + 1 ≤ i → hs[i]? = some y → pss[i]? = some ms → Row w1 y (flat ms)) := fun i y ms hi hy hm => (HRs.out i y ms (by omega) hy hm).far hgr (fun e => Hsep.out i y (by omega) hy (Option.some.inj e))
      clear hgr d0
      go_wp2_with fail
      exact ⟨⟨j + 1, by omega, by go_num, by rw [HSm.out]; congr 1; omega, HAp1.out, HRs1.out⟩, by simp [intOf]; omega⟩
    · generalize ((pss.take j).map List.length).sum = S at *
      go_wp2_with fail
      go_ret
      exact ⟨k0 + 4 * S, rfl, by omega, HAp.out⟩

set_option maxHeartbeats 4000000 in
theorem markRoom_c (R : Rm) (gP gN gU gQ gL : Nat) (hs : List Nat) (hsm : RSmall R) (htot : RTot R) (w : World) (B : Nat) (h : RO w B R gP gN gU gQ gL hs) :
    Calls Try.prog 11 #[.agg #[.slice (some ⟨gP, 0, none⟩) R.ps.length R.ps.length, .slice (some ⟨gN, 0, none⟩) R.ns.length R.ns.length, .slice (some ⟨gU, 0, none⟩) R.up.length R.up.length, .slice (some ⟨gQ, 0, none⟩) R.pss.length R.pss.length, .slice (some ⟨gL, 0, none⟩) R.lic.length R.lic.length], .int .i64 1] w fun e w' => ∃ k : Nat, e = .returned (.int .i64 (k : Int)) ∧ k ≤ 16777216 ∧ Apart gP (gL + 1) w w' := by
  have H : Hid (RO w B R gP gN gU gQ gL hs) := h
  obtain ⟨o1, o2, o3, o4, o5⟩ := h.ord
  have lL := h.rL.lt
  have HM : Hid (RSmall R) := hsm
  have t1 : R.ps.length + R.ns.length + R.up.length + R.pss.length + (R.pss.map List.length).sum + R.lic.length ≤ 1048576 := htot
  have hu := hsm.u
  have hp := hsm.p
  have hn := hsm.n
  clear h hsm htot
  go_enter Try.func11, Try.ntmps11
  go_wp2_with fail
  have HA0 : Hid (Row (w.alloc (.cells #[.slice (some ⟨gP, 0, none⟩) R.ps.length R.ps.length, .slice (some ⟨gN, 0, none⟩) R.ns.length R.ns.length, .slice (some ⟨gU, 0, none⟩) R.up.length R.up.length, .slice (some ⟨gQ, 0, none⟩) R.pss.length R.pss.length, .slice (some ⟨gL, 0, none⟩) R.lic.length R.lic.length] 45)) w.heap.size [.slice (some ⟨gP, 0, none⟩) R.ps.length R.ps.length, .slice (some ⟨gN, 0, none⟩) R.ns.length R.ns.length, .slice (some ⟨gU, 0, none⟩) R.up.length R.up.length, .slice (some ⟨gQ, 0, none⟩) R.pss.length R.pss.length, .slice (some ⟨gL, 0, none⟩) R.lic.length R.lic.length]) := row_fresh w [.slice (some ⟨gP, 0, none⟩) R.ps.length R.ps.length, .slice (some ⟨gN, 0, none⟩) R.ns.length R.ns.length, .slice (some ⟨gU, 0, none⟩) R.up.length R.up.length, .slice (some ⟨gQ, 0, none⟩) R.pss.length R.pss.length, .slice (some ⟨gL, 0, none⟩) R.lic.length R.lic.length] 45
  have HR0 : Hid (RO (w.alloc (.cells #[.slice (some ⟨gP, 0, none⟩) R.ps.length R.ps.length, .slice (some ⟨gN, 0, none⟩) R.ns.length R.ns.length, .slice (some ⟨gU, 0, none⟩) R.up.length R.up.length, .slice (some ⟨gQ, 0, none⟩) R.pss.length R.pss.length, .slice (some ⟨gL, 0, none⟩) R.lic.length R.lic.length] 45)) B R gP gN gU gQ gL hs) := H.out.below (low_alloc _ _)
  have HB0 : Hid (Below w.heap.size w (w.alloc (.cells #[.slice (some ⟨gP, 0, none⟩) R.ps.length R.ps.length, .slice (some ⟨gN, 0, none⟩) R.ns.length R.ns.length, .slice (some ⟨gU, 0, none⟩) R.up.length R.up.length, .slice (some ⟨gQ, 0, none⟩) R.pss.length R.pss.length, .slice (some ⟨gL, 0, none⟩) R.lic.length R.lic.length] 45))) := low_alloc _ _
  generalize w.alloc (.cells #[.slice (some ⟨gP, 0, none⟩) R.ps.length R.ps.length, .slice (some ⟨gN, 0, none⟩) R.ns.length R.ns.length, .slice (some ⟨gU, 0, none⟩) R.up.length R.up.length, .slice (some ⟨gQ, 0, none⟩) R.pss.length R.pss.length, .slice (some ⟨gL, 0, none⟩) R.lic.length R.lic.length] 45) = w0 at *
  have HT1 := markTopo_c gP gN R.ps.length R.ns.length 1 (ints R.ps) (flat R.ns) R.ns.length (by rw [ints_len]; exact hp) (flat_len _) hn (by omega) (by omega) w0 HR0.out.rP HR0.out.rN
  rw [ints_len] at HT1
  refine HT1.mono ?_
  rintro e w1 ⟨rfl, hk, hbw⟩
  have A1 : Hid (∀ b ys, Row w0 b ys → b ≠ gP → b ≠ gN → Row w1 b ys) := hk
  have A1b : Hid (∀ v0 : World, Below v0.heap.size v0 w0 → v0.heap.size ≤ gP → v0.heap.size ≤ gN → Below v0.heap.size v0 w1) := hbw
  clear hk hbw HT1
  have HA1 : Hid (Row w1 w.heap.size [.slice (some ⟨gP, 0, none⟩) R.ps.length R.ps.length, .slice (some ⟨gN, 0, none⟩) R.ns.length R.ns.length, .slice (some ⟨gU, 0, none⟩) R.up.length R.up.length, .slice (some ⟨gQ, 0, none⟩) R.pss.length R.pss.length, .slice (some ⟨gL, 0, none⟩) R.lic.length R.lic.length]) := A1.out _ _ HA0.out (by omega) (by omega)
  have P1 : Hid (Apart gP gU w w1) := ⟨fun b ys hr hb => A1.out b ys (hr.below HB0.out) (by omega) (by omega), fun v0 hb0 h0 => A1b.out v0 (below_then hb0 HB0.out) h0 (by omega), Nat.le_of_lt HA1.out.lt⟩
  have U1 : Hid (Row w1 gU (bools R.up)) := P1.out.1 _ _ H.out.rU (.inr (Nat.le_refl _))
  clear A1 A1b HA0 HR0 HB0
  have a2 := HA1.out.cell 2 _ rfl
  go_wp2_with fail
  refine (markBoolS_c gU R.up.length R.up.length (1 + R.ps.length + 4 * R.ns.length) (bools R.up) (bools_len _) hu (by omega) _ U1.out).mono ?_
  rintro e w2 ⟨rfl, hgr⟩
  have HA2 : Hid (Row w2 w.heap.size [.slice (some ⟨gP, 0, none⟩) R.ps.length R.ps.length, .slice (some ⟨gN, 0, none⟩) R.ns.length R.ns.length, .slice (some ⟨gU, 0, none⟩) R.up.length R.up.length, .slice (some ⟨gQ, 0, none⟩) R.pss.length R.pss.length, .slice (some ⟨gL, 0, none⟩) R.lic.length R.lic.length]) := HA1.out.far hgr (fun e => by have := Option.some.inj e; omega)
  have P2 : Hid (Apart gP gQ w w2) := (P1.out.wide (Nat.le_refl _) (by omega)).trans (Apart.of_grown hgr (by omega) (by omega))
  have Q2 : Hid (OPs w2 gQ R.pss hs) := H.out.oQ.keep P2.out (Nat.le_refl _)
  clear hgr a2 HA1 P1 U1
  have a3 := HA2.out.cell 3 _ rfl
  generalize hk1 : 1 + R.ps.length + 4 * R.ns.length + R.up.length = k1
  have hk1' : k1 ≤ 8388608 := by omega
  clear hk1
  go_wp2_with fail
  refine (markProfS_c gQ R.pss.length k1 gL R.pss hs HM.out.q (by omega) (by omega) H.out.last _ Q2.out).mono ?_
  rintro e w3 ⟨k2, rfl, hk2, hap⟩
  have HA3 : Hid (Row w3 w.heap.size [.slice (some ⟨gP, 0, none⟩) R.ps.length R.ps.length, .slice (some ⟨gN, 0, none⟩) R.ns.length R.ns.length, .slice (some ⟨gU, 0, none⟩) R.up.length R.up.length, .slice (some ⟨gQ, 0, none⟩) R.pss.length R.pss.length, .slice (some ⟨gL, 0, none⟩) R.lic.length R.lic.length]) := hap.1 _ _ HA2.out (.inr (by omega))
  have P3 : Hid (Apart gP gL w w3) := (P2.out.wide (Nat.le_refl _) (by omega)).trans (hap.wide (by omega) (Nat.le_refl _))
  have L3 : Hid (Row w3 gL (flat R.lic)) := P3.out.1 _ _ H.out.rL (.inr (Nat.le_refl _))
  clear hap a3 HA2 P2 Q2
  have a4 := HA3.out.cell 4 _ rfl
  go_wp2_with fail
  refine (markProf_ans (k0 := k2) (B := gL) (T := gL + 1) (AnsP.of_row (cap := R.lic.length) (flat_len R.lic) L3.out (Nat.le_refl _) (Nat.lt_succ_self _)) HM.out.l (by omega)).mono ?_
  rintro e w4 ⟨rfl, _, hap⟩
  have P4 : Hid (Apart gP (gL + 1) w w4) := (P3.out.wide (Nat.le_refl _) (by omega)).trans (Apart.wide hap (by omega) (Nat.le_refl _))
  clear hap a4
  generalize hk3 : k2 + 4 * R.lic.length = k3
  have hk3' : k3 ≤ 16777216 := by omega
  clear hk3
  go_wp2_with fail
  go_ret
  exact ⟨k3, rfl, hk3', P4.out⟩
end Go.Proofs.Ytbnbikmnembciaa

namespace Go.Proofs.Ytbnbikmnembciaa
namespace LawEligible
open Go.ChangeShapes Go.WideShapes Go.ChangeAt Go.RowKit Go.Joins

set_option maxHeartbeats 8000000 in
set_option maxRecDepth 100000 in
theorem walk (A : Ra) (R : Rm) (v : Nd) (f t : Int) (hw : RWide R) (w : World) (h : RAt w A R) :
    Calls Try.prog 3 #[.agg #[.slice A.aP R.ps.length A.cP, .slice A.aN R.ns.length A.cN, .slice A.aU R.up.length A.cU, .slice A.aQ R.pss.length A.cQ, .slice A.aL R.lic.length A.cL], .agg #[.int .i64 v.a, .int .i64 v.b, .int .i64 v.c], .int .i64 f, .int .i64 t] w fun e w' => e = .returned (.bool true) ∧ Below w.heap.size w w' := by
  have H : Hid (RAt w A R) := h
  have HW0 : Hid (RWide R) := hw
  clear h hw
  go_enter Try.func3, Try.ntmps3
  go_wp2_with fail
  generalize hV : (w.alloc (.cells #[.slice A.aP R.ps.length A.cP, .slice A.aN R.ns.length A.cN, .slice A.aU R.up.length A.cU, .slice A.aQ R.pss.length A.cQ, .slice A.aL R.lic.length A.cL] 32)).alloc (.cells #[.int .i64 v.a, .int .i64 v.b, .int .i64 v.c] 34) = V
  have HA : Hid (Row V w.heap.size [.slice A.aP R.ps.length A.cP, .slice A.aN R.ns.length A.cN, .slice A.aU R.up.length A.cU, .slice A.aQ R.pss.length A.cQ, .slice A.aL R.lic.length A.cL]) := by subst hV; exact (row_fresh w [.slice A.aP R.ps.length A.cP, .slice A.aN R.ns.length A.cN, .slice A.aU R.up.length A.cU, .slice A.aQ R.pss.length A.cQ, .slice A.aL R.lic.length A.cL] 32).below (low_alloc _ _)
  have HW : Hid (Row V (w.heap.size + 1) [.int .i64 v.a, .int .i64 v.b, .int .i64 v.c]) := by
    subst hV
    have h := row_fresh (w.alloc (.cells #[.slice A.aP R.ps.length A.cP, .slice A.aN R.ns.length A.cN, .slice A.aU R.up.length A.cU, .slice A.aQ R.pss.length A.cQ, .slice A.aL R.lic.length A.cL] 32)) [.int .i64 v.a, .int .i64 v.b, .int .i64 v.c] 34
    rw [show (w.alloc (.cells #[.slice A.aP R.ps.length A.cP, .slice A.aN R.ns.length A.cN, .slice A.aU R.up.length A.cU, .slice A.aQ R.pss.length A.cQ, .slice A.aL R.lic.length A.cL] 32)).heap.size = w.heap.size + 1 by simp [go_sem]] at h
    exact h
  have HV : Hid (Below w.heap.size w V) := by subst hV; exact behind_alloc (low_alloc _ _) _
  clear hV
  have HS : Hid (RAt V A R) := H.out.below HV.out
  clear H
  generalize w.heap.size = A0 at HA HW
  refine (szRoom_c A R HW0.out V HS.out).mono ?_
  rintro e w1 ⟨z, rfl, hz, hb⟩
  have HZ : Hid (0 ≤ z → RSmall R ∧ RTot R) := hz
  have B1 : Hid (Below V.heap.size V w1) := hb
  clear hb hz
  by_cases hzn : z < 0
  · go_wp2_with fail
    go_ret
    exact ⟨rfl, below_then HV.out B1.out⟩
  · have HM : Hid (RSmall R) := (HZ.out (by omega)).1
    have HT : Hid (RTot R) := (HZ.out (by omega)).2
    clear HZ
    have HCS : Hid (∀ (gP gN gU gQ gL : Nat) (hs : List Nat) (B : Nat) (W : World), RO W B R gP gN gU gQ gL hs → Calls Try.prog 5 #[.agg #[.slice (some ⟨gP, 0, none⟩) R.ps.length R.ps.length, .slice (some ⟨gN, 0, none⟩) R.ns.length R.ns.length, .slice (some ⟨gU, 0, none⟩) R.up.length R.up.length, .slice (some ⟨gQ, 0, none⟩) R.pss.length R.pss.length, .slice (some ⟨gL, 0, none⟩) R.lic.length R.lic.length], .agg #[.int .i64 v.a, .int .i64 v.b, .int .i64 v.c], .int .i64 f, .int .i64 t] W (RetI W (elR R v f t))) := fun _ _ _ _ _ _ _ W h => specEligible_c _ _ _ _ _ _ _ _ _ _ R v f t HM.out W h.rat
    have HCI : Hid (∀ (gP gN gU gQ gL : Nat) (hs : List Nat) (B : Nat) (W : World), RO W B R gP gN gU gQ gL hs → Calls Try.prog 8 #[.agg #[.slice (some ⟨gP, 0, none⟩) R.ps.length R.ps.length, .slice (some ⟨gN, 0, none⟩) R.ns.length R.ns.length, .slice (some ⟨gU, 0, none⟩) R.up.length R.up.length, .slice (some ⟨gQ, 0, none⟩) R.pss.length R.pss.length, .slice (some ⟨gL, 0, none⟩) R.lic.length R.lic.length], .agg #[.int .i64 v.a, .int .i64 v.b, .int .i64 v.c], .int .i64 f, .int .i64 t] W (RetI W (elR R v f t))) := fun gP gN gU gQ gL _ _ W h => implEligible_c (ownRa R gP gN gU gQ gL) R v f t HM.out W h.rat h.oQ.pvc
    have hrl : (elR R v f t).length ≤ 1048576 := by have := elR_len R v f t; omega
    generalize elR R v f t = r at HCS HCI hrl
    go_wp2_with fail
    have hAV := HA.out.lt
    have hWV := HW.out.lt
    have HSU : Hid (RAt w1 A R) := HS.out.below B1.out
    have HAU : Hid (Row w1 A0 [.slice A.aP R.ps.length A.cP, .slice A.aN R.ns.length A.cN, .slice A.aU R.up.length A.cU, .slice A.aQ R.pss.length A.cQ, .slice A.aL R.lic.length A.cL]) := HA.out.below B1.out
    have HWU : Hid (Row w1 (A0 + 1) [.int .i64 v.a, .int .i64 v.b, .int .i64 v.c]) := HW.out.below B1.out
    have hVU : V.heap.size ≤ w1.heap.size := B1.out.size
    generalize hU : w1 = U at *
    have HK : Hid (∀ W : World, Below U.heap.size U W → Below U.heap.size U W ∧ U.heap.size ≤ W.heap.size ∧ W.cell? ⟨A0, 0, none⟩ = some (.slice A.aP R.ps.length A.cP) ∧ W.cell? ⟨A0, 1, none⟩ = some (.slice A.aN R.ns.length A.cN) ∧ W.cell? ⟨A0, 2, none⟩ = some (.slice A.aU R.up.length A.cU) ∧ W.cell? ⟨A0, 3, none⟩ = some (.slice A.aQ R.pss.length A.cQ) ∧ W.cell? ⟨A0, 4, none⟩ = some (.slice A.aL R.lic.length A.cL) ∧ W.cell? ⟨A0 + 1, 0, none⟩ = some (.int .i64 v.a) ∧ W.cell? ⟨A0 + 1, 1, none⟩ = some (.int .i64 v.b) ∧ W.cell? ⟨A0 + 1, 2, none⟩ = some (.int .i64 v.c)) := fun W h => ⟨h, h.size, (HAU.out.below h).cell 0 _ rfl, (HAU.out.below h).cell 1 _ rfl, (HAU.out.below h).cell 2 _ rfl, (HAU.out.below h).cell 3 _ rfl, (HAU.out.below h).cell 4 _ rfl, (HWU.out.below h).cell 0 _ rfl, (HWU.out.below h).cell 1 _ rfl, (HWU.out.below h).cell 2 _ rfl⟩
    have D1 : Hid (Below U.heap.size U U.drew) := low_drew U
    have z1 : U.heap.size ≤ U.heap.size := Nat.le_refl _
    have z2 : U.heap.size ≤ U.drew.heap.size := Nat.le_refl _
    go_cut [10] (fun p wc => ∃ u, u = p ∧ Ans U.heap.size wc.heap.size wc (ints r) u ∧ Below U.heap.size U wc)
    case first =>
      go_region_held3 (fun W => Below U.heap.size U W ∧ U.heap.size ≤ W.heap.size ∧ W.cell? ⟨A0, 0, none⟩ = some (.slice A.aP R.ps.length A.cP) ∧ W.cell? ⟨A0, 1, none⟩ = some (.slice A.aN R.ns.length A.cN) ∧ W.cell? ⟨A0, 2, none⟩ = some (.slice A.aU R.up.length A.cU) ∧ W.cell? ⟨A0, 3, none⟩ = some (.slice A.aQ R.pss.length A.cQ) ∧ W.cell? ⟨A0, 4, none⟩ = some (.slice A.aL R.lic.length A.cL) ∧ W.cell? ⟨A0 + 1, 0, none⟩ = some (.int .i64 v.a) ∧ W.cell? ⟨A0 + 1, 1, none⟩ = some (.int .i64 v.b) ∧ W.cell? ⟨A0 + 1, 2, none⟩ = some (.int .i64 v.c)) ((go_split_ands; refine HK.out _ ?_; first | (exact Hid.out (by with_reducible assumption)) | (exact behind_alloc (Hid.out (by with_reducible assumption)) _) | (with_reducible assumption) | (exact behind (by with_reducible assumption) (by with_reducible assumption)) | (go_grown; done)))
        (first
        | (go_at_call 6; refine (toRoom_c A R HM.out _ (HSU.out.below (And.left (by with_reducible assumption)))).mono ?_; rintro e wk ⟨fP, fN, fU, fQ, fL, fs, rfl, hro, hbk⟩; have HR1 : Hid (RO wk _ R fP fN fU fQ fL fs) := hro; clear hro; have Bk : Hid (Below U.heap.size U wk) := behind hbk (And.left (by with_reducible assumption)); have zk := Bk.out.size; (first | have C := behind hbk (by with_reducible assumption) | have C := hbk); obtain ⟨hck, hfk, hzk⟩ := bfacts C)
        | (go_at_call 7; refine (toVec_c _ _ _ _).mono ?_; rintro e wk ⟨rfl, hbk⟩; have HR2 : Hid (RO wk _ R fP fN fU fQ fL fs) := HR1.out.below hbk; have Bk : Hid (Below U.heap.size U wk) := behind hbk (And.left (by with_reducible assumption)); have zk := Bk.out.size; (first | have C := behind hbk (by with_reducible assumption) | have C := hbk); obtain ⟨hck, hfk, hzk⟩ := bfacts C)
        | (go_at_call 5; refine (HCS.out _ _ _ _ _ _ _ _ HR2.out).mono ?_; rintro e wk ⟨v0, rfl, hans, hbk⟩;
            have Bk : Hid (Below U.heap.size U wk) := behind hbk (And.left (by with_reducible assumption));
            have FA : Hid (Ans U.heap.size wk.heap.size wk (ints r) v0) := ans_wide hans (by first | exact Nat.le_refl _ | omega | (simp [go_sem]; omega)) (Nat.le_refl _); clear hans;
            (first | have C := behind hbk (by with_reducible assumption) | have C := hbk); obtain ⟨hck, hfk, hzk⟩ := bfacts C))
      all_goals
        go_split_ands
        go_wp2_with fail
        go_meet
        case rel => exact ⟨_, rfl, FA.out, Bk.out⟩
    case rest =>
    obtain ⟨pp, hpp, hFA, hFB⟩ := hcut
    subst hpp
    subst hU
    have B3 : Hid (Below V.heap.size V wc) := below_then B1.out hFB
    have P3 : Hid (Ans V.heap.size wc.heap.size wc (ints r) pp) := ans_wide hFA hVU (Nat.le_refl _)
    have hV3 : V.heap.size ≤ wc.heap.size := B3.out.size
    clear hFA hFB D1 z1 z2 HK HSU HAU HWU B1 HCS hVU
    generalize hT : wc.heap.size = T0 at P3 hV3
    generalize pp = v0 at *
    generalize wc = w3 at *
    have a0 := (HA.out.below B3.out).cell 0 _ rfl
    have a1 := (HA.out.below B3.out).cell 1 _ rfl
    have a2 := (HA.out.below B3.out).cell 2 _ rfl
    have a3 := (HA.out.below B3.out).cell 3 _ rfl
    have a4 := (HA.out.below B3.out).cell 4 _ rfl
    go_wp2_with fail
    refine (toRoom_c A R HM.out _ (HS.out.below B3.out)).mono ?_
    rintro e w4 ⟨gP, gN, gU, gQ, gL, hs, rfl, hro, hb⟩
    have hT4 : T0 ≤ w4.heap.size := by have := hb.size; omega
    have hTP : T0 ≤ gP := by have := hro.ord.1; omega
    have lL : gL < w4.heap.size := hro.rL.lt
    have O4 : Hid (RO w4 _ R gP gN gU gQ gL hs) := hro
    have B4 : Hid (Below V.heap.size V w4) := below_then B3.out hb
    have P4 : Hid (Ans V.heap.size T0 w4 (ints r) v0) := P3.out.below hb
    clear hb B3 P3
    clear hro hT a0 a1 a2 a3 a4
    generalize hTB : w3.heap.size = TB at O4
    have B5 : Hid (Below V.heap.size V (w4.alloc (.cells #[.slice (some ⟨gP, 0, none⟩) R.ps.length R.ps.length, .slice (some ⟨gN, 0, none⟩) R.ns.length R.ns.length, .slice (some ⟨gU, 0, none⟩) R.up.length R.up.length, .slice (some ⟨gQ, 0, none⟩) R.pss.length R.pss.length, .slice (some ⟨gL, 0, none⟩) R.lic.length R.lic.length] 45))) := behind_alloc B4.out _
    have P5 : Hid (Ans V.heap.size T0 (w4.alloc (.cells #[.slice (some ⟨gP, 0, none⟩) R.ps.length R.ps.length, .slice (some ⟨gN, 0, none⟩) R.ns.length R.ns.length, .slice (some ⟨gU, 0, none⟩) R.up.length R.up.length, .slice (some ⟨gQ, 0, none⟩) R.pss.length R.pss.length, .slice (some ⟨gL, 0, none⟩) R.lic.length R.lic.length] 45)) (ints r) v0) := P4.out.below (low_alloc _ _)
    have O5 : Hid (RO (w4.alloc (.cells #[.slice (some ⟨gP, 0, none⟩) R.ps.length R.ps.length, .slice (some ⟨gN, 0, none⟩) R.ns.length R.ns.length, .slice (some ⟨gU, 0, none⟩) R.up.length R.up.length, .slice (some ⟨gQ, 0, none⟩) R.pss.length R.pss.length, .slice (some ⟨gL, 0, none⟩) R.lic.length R.lic.length] 45)) TB R gP gN gU gQ gL hs) := O4.out.below (low_alloc _ _)
    have X5 : Hid (Row (w4.alloc (.cells #[.slice (some ⟨gP, 0, none⟩) R.ps.length R.ps.length, .slice (some ⟨gN, 0, none⟩) R.ns.length R.ns.length, .slice (some ⟨gU, 0, none⟩) R.up.length R.up.length, .slice (some ⟨gQ, 0, none⟩) R.pss.length R.pss.length, .slice (some ⟨gL, 0, none⟩) R.lic.length R.lic.length] 45)) w4.heap.size [.slice (some ⟨gP, 0, none⟩) R.ps.length R.ps.length, .slice (some ⟨gN, 0, none⟩) R.ns.length R.ns.length, .slice (some ⟨gU, 0, none⟩) R.up.length R.up.length, .slice (some ⟨gQ, 0, none⟩) R.pss.length R.pss.length, .slice (some ⟨gL, 0, none⟩) R.lic.length R.lic.length]) := row_fresh w4 [.slice (some ⟨gP, 0, none⟩) R.ps.length R.ps.length, .slice (some ⟨gN, 0, none⟩) R.ns.length R.ns.length, .slice (some ⟨gU, 0, none⟩) R.up.length R.up.length, .slice (some ⟨gQ, 0, none⟩) R.pss.length R.pss.length, .slice (some ⟨gL, 0, none⟩) R.lic.length R.lic.length] 45
    clear B4 P4 O4 hTB
    go_wp2_with fail
    generalize w4.alloc (.cells #[.slice (some ⟨gP, 0, none⟩) R.ps.length R.ps.length, .slice (some ⟨gN, 0, none⟩) R.ns.length R.ns.length, .slice (some ⟨gU, 0, none⟩) R.up.length R.up.length, .slice (some ⟨gQ, 0, none⟩) R.pss.length R.pss.length, .slice (some ⟨gL, 0, none⟩) R.lic.length R.lic.length] 45) = w5 at *
    generalize w4.heap.size = X at *
    have hX5 : X < w5.heap.size := X5.out.lt
    have HOU : Hid (RO w5 TB R gP gN gU gQ gL hs) := O5
    have HXU : Hid (Row w5 X [.slice (some ⟨gP, 0, none⟩) R.ps.length R.ps.length, .slice (some ⟨gN, 0, none⟩) R.ns.length R.ns.length, .slice (some ⟨gU, 0, none⟩) R.up.length R.up.length, .slice (some ⟨gQ, 0, none⟩) R.pss.length R.pss.length, .slice (some ⟨gL, 0, none⟩) R.lic.length R.lic.length]) := X5
    have HWU : Hid (Row w5 (A0 + 1) [.int .i64 v.a, .int .i64 v.b, .int .i64 v.c]) := HW.out.below B5.out
    generalize hU : w5 = U at *
    have HK : Hid (∀ W : World, Below U.heap.size U W → Below U.heap.size U W ∧ U.heap.size ≤ W.heap.size ∧ W.cell? ⟨X, 0, none⟩ = some (.slice (some ⟨gP, 0, none⟩) R.ps.length R.ps.length) ∧ W.cell? ⟨X, 1, none⟩ = some (.slice (some ⟨gN, 0, none⟩) R.ns.length R.ns.length) ∧ W.cell? ⟨X, 2, none⟩ = some (.slice (some ⟨gU, 0, none⟩) R.up.length R.up.length) ∧ W.cell? ⟨X, 3, none⟩ = some (.slice (some ⟨gQ, 0, none⟩) R.pss.length R.pss.length) ∧ W.cell? ⟨X, 4, none⟩ = some (.slice (some ⟨gL, 0, none⟩) R.lic.length R.lic.length) ∧ W.cell? ⟨A0 + 1, 0, none⟩ = some (.int .i64 v.a) ∧ W.cell? ⟨A0 + 1, 1, none⟩ = some (.int .i64 v.b) ∧ W.cell? ⟨A0 + 1, 2, none⟩ = some (.int .i64 v.c)) := fun W h => ⟨h, h.size, (HXU.out.below h).cell 0 _ rfl, (HXU.out.below h).cell 1 _ rfl, (HXU.out.below h).cell 2 _ rfl, (HXU.out.below h).cell 3 _ rfl, (HXU.out.below h).cell 4 _ rfl, (HWU.out.below h).cell 0 _ rfl, (HWU.out.below h).cell 1 _ rfl, (HWU.out.below h).cell 2 _ rfl⟩
    have D1 : Hid (Below U.heap.size U U.drew) := low_drew U
    have z1 : U.heap.size ≤ U.heap.size := Nat.le_refl _
    have z2 : U.heap.size ≤ U.drew.heap.size := Nat.le_refl _
    go_cut [12] (fun p wc => ∃ u, u = p ∧ Ans U.heap.size wc.heap.size wc (ints r) u ∧ Below U.heap.size U wc)
    case first =>
      go_region_held3 (fun W => Below U.heap.size U W ∧ U.heap.size ≤ W.heap.size ∧ W.cell? ⟨X, 0, none⟩ = some (.slice (some ⟨gP, 0, none⟩) R.ps.length R.ps.length) ∧ W.cell? ⟨X, 1, none⟩ = some (.slice (some ⟨gN, 0, none⟩) R.ns.length R.ns.length) ∧ W.cell? ⟨X, 2, none⟩ = some (.slice (some ⟨gU, 0, none⟩) R.up.length R.up.length) ∧ W.cell? ⟨X, 3, none⟩ = some (.slice (some ⟨gQ, 0, none⟩) R.pss.length R.pss.length) ∧ W.cell? ⟨X, 4, none⟩ = some (.slice (some ⟨gL, 0, none⟩) R.lic.length R.lic.length) ∧ W.cell? ⟨A0 + 1, 0, none⟩ = some (.int .i64 v.a) ∧ W.cell? ⟨A0 + 1, 1, none⟩ = some (.int .i64 v.b) ∧ W.cell? ⟨A0 + 1, 2, none⟩ = some (.int .i64 v.c)) ((go_split_ands; refine HK.out _ ?_; first | (exact Hid.out (by with_reducible assumption)) | (exact behind_alloc (Hid.out (by with_reducible assumption)) _) | (with_reducible assumption) | (exact behind (by with_reducible assumption) (by with_reducible assumption)) | (go_grown; done)))
        (first
        | (go_at_call 7; refine (toVec_c _ _ _ _).mono ?_; rintro e wk ⟨rfl, hbk⟩; have Bk : Hid (Below U.heap.size U wk) := behind hbk (And.left (by with_reducible assumption)); have zk := Bk.out.size; (first | have C := behind hbk (by with_reducible assumption) | have C := hbk); obtain ⟨hck, hfk, hzk⟩ := bfacts C)
        | (go_at_call 8; refine (HCI.out _ _ _ _ _ _ _ _ (HOU.out.below (And.left (by with_reducible assumption)))).mono ?_; rintro e wk ⟨v0, rfl, hans, hbk⟩;
            have Bk : Hid (Below U.heap.size U wk) := behind hbk (And.left (by with_reducible assumption));
            have FA : Hid (Ans U.heap.size wk.heap.size wk (ints r) v0) := ans_wide hans (by first | exact Nat.le_refl _ | omega | (simp [go_sem]; omega)) (Nat.le_refl _); clear hans;
            (first | have C := behind hbk (by with_reducible assumption) | have C := hbk); obtain ⟨hck, hfk, hzk⟩ := bfacts C))
      all_goals
        go_split_ands
        go_wp2_with fail
        go_meet
        case rel => exact ⟨_, rfl, FA.out, Bk.out⟩
    case rest =>
    obtain ⟨pp, hpp, hFA, hFB⟩ := hcut
    subst hpp
    subst hU
    have hb := hFB
    generalize pp = v1 at *
    have h56 : w5.heap.size ≤ wc.heap.size := hb.size
    have Q6 : Hid (Ans w5.heap.size wc.heap.size wc (ints r) v1) := hFA
    generalize wc = w6 at *
    have B6 : Hid (Below V.heap.size V w6) := below_then B5.out hb
    have P6 : Hid (Ans V.heap.size T0 w6 (ints r) v0) := P5.out.below hb
    have O6 : Hid (RO w6 TB R gP gN gU gQ gL hs) := O5.out.below hb
    have X6 : Hid (Row w6 X [.slice (some ⟨gP, 0, none⟩) R.ps.length R.ps.length, .slice (some ⟨gN, 0, none⟩) R.ns.length R.ns.length, .slice (some ⟨gU, 0, none⟩) R.up.length R.up.length, .slice (some ⟨gQ, 0, none⟩) R.pss.length R.pss.length, .slice (some ⟨gL, 0, none⟩) R.lic.length R.lic.length]) := X5.out.below hb
    clear hb hFA hFB D1 z1 z2 HK HOU HXU HWU B5 P5 O5 X5
    generalize w6.heap.size = T1 at Q6 h56
    generalize w5.heap.size = T2 at *
    go_wp2_with fail
    refine (eq_ans Q6.out P6.out hrl).mono ?_
    rintro e w7 ⟨rfl, hb⟩
    have B7 : Hid (Below V.heap.size V w7) := below_then B6.out hb
    have P7 : Hid (Ans V.heap.size T0 w7 (ints r) v0) := P6.out.below hb
    have O7 : Hid (RO w7 TB R gP gN gU gQ gL hs) := O6.out.below hb
    have X7 : Hid (Row w7 X [.slice (some ⟨gP, 0, none⟩) R.ps.length R.ps.length, .slice (some ⟨gN, 0, none⟩) R.ns.length R.ns.length, .slice (some ⟨gU, 0, none⟩) R.up.length R.up.length, .slice (some ⟨gQ, 0, none⟩) R.pss.length R.pss.length, .slice (some ⟨gL, 0, none⟩) R.lic.length R.lic.length]) := X6.out.below hb
    have Q7 : Hid (Ans T2 T1 w7 (ints r) v1) := Q6.out.below hb
    clear hb B6 P6 O6 X6 Q6
    go_wp2_with fail
    have B8 : Hid (Below V.heap.size V w7.drew) := below_then B7.out (low_drew _)
    have P8 : Hid (Ans V.heap.size T0 w7.drew (ints r) v0) := P7.out.below (low_drew _)
    have O8 : Hid (RO w7.drew TB R gP gN gU gQ gL hs) := O7.out.below (low_drew _)
    have X8 : Hid (Row w7.drew X [.slice (some ⟨gP, 0, none⟩) R.ps.length R.ps.length, .slice (some ⟨gN, 0, none⟩) R.ns.length R.ns.length, .slice (some ⟨gU, 0, none⟩) R.up.length R.up.length, .slice (some ⟨gQ, 0, none⟩) R.pss.length R.pss.length, .slice (some ⟨gL, 0, none⟩) R.lic.length R.lic.length]) := X7.out.below (low_drew _)
    have Q8 : Hid (Ans T2 T1 w7.drew (ints r) v1) := Q7.out.below (low_drew _)
    have a0 := (HA.out.below B7.out).cell 0 _ rfl
    have x0 := X7.out.cell 0 _ rfl
    have a1 := (HA.out.below B7.out).cell 1 _ rfl
    have x1 := X7.out.cell 1 _ rfl
    have a2 := (HA.out.below B7.out).cell 2 _ rfl
    have x2 := X7.out.cell 2 _ rfl
    have a3 := (HA.out.below B7.out).cell 3 _ rfl
    have x3 := X7.out.cell 3 _ rfl
    have a4 := (HA.out.below B7.out).cell 4 _ rfl
    have x4 := X7.out.cell 4 _ rfl
    clear B7 P7 O7 X7 Q7
    go_cut [45] (fun u wc => u = .bool false ∧ (Below V.heap.size V wc) ∧ (Ans V.heap.size T0 wc (ints r) v0) ∧ (RO wc TB R gP gN gU gQ gL hs) ∧ (Row wc X [.slice (some ⟨gP, 0, none⟩) R.ps.length R.ps.length, .slice (some ⟨gN, 0, none⟩) R.ns.length R.ns.length, .slice (some ⟨gU, 0, none⟩) R.up.length R.up.length, .slice (some ⟨gQ, 0, none⟩) R.pss.length R.pss.length, .slice (some ⟨gL, 0, none⟩) R.lic.length R.lic.length]) ∧ (Ans T2 T1 wc (ints r) v1))
    case first =>
      go_region_with (first
        | (go_at_call 6; refine (toRoom_c A R HM.out w7.drew (HS.out.below B8.out)).mono ?_; rintro e wb ⟨g1, g2, g3, g4, g5, hs8, rfl, hro, hb⟩; have y0 := (X8.out.below hb).cell 0 _ rfl; have y1 := (X8.out.below hb).cell 1 _ rfl; have y2 := (X8.out.below hb).cell 2 _ rfl; have y3 := (X8.out.below hb).cell 3 _ rfl; have y4 := (X8.out.below hb).cell 4 _ rfl; have Bb : Hid (Below V.heap.size V wb) := below_then B8.out hb; have Pb : Hid (Ans V.heap.size T0 wb (ints r) v0) := P8.out.below hb; have Ob : Hid (RO wb TB R gP gN gU gQ gL hs) := O8.out.below hb; have Xb : Hid (Row wb X [.slice (some ⟨gP, 0, none⟩) R.ps.length R.ps.length, .slice (some ⟨gN, 0, none⟩) R.ns.length R.ns.length, .slice (some ⟨gU, 0, none⟩) R.up.length R.up.length, .slice (some ⟨gQ, 0, none⟩) R.pss.length R.pss.length, .slice (some ⟨gL, 0, none⟩) R.lic.length R.lic.length]) := X8.out.below hb; have Qb : Hid (Ans T2 T1 wb (ints r) v1) := Q8.out.below hb; have K8 : Hid (RAt wb (ownRa R g1 g2 g3 g4 g5) R) := hro.rat; clear hb hro)
        | (go_at_call 10; refine (eqRoom_c (ownRa R gP gN gU gQ gL) (ownRa R g1 g2 g3 g4 g5) R HM.out wb Ob.out.rat K8.out).mono ?_; rintro e wd ⟨rfl, hb⟩; have Bd : Hid (Below V.heap.size V wd) := below_then Bb.out hb; have Pd : Hid (Ans V.heap.size T0 wd (ints r) v0) := Pb.out.below hb; have Od : Hid (RO wd TB R gP gN gU gQ gL hs) := Ob.out.below hb; have Xd : Hid (Row wd X [.slice (some ⟨gP, 0, none⟩) R.ps.length R.ps.length, .slice (some ⟨gN, 0, none⟩) R.ns.length R.ns.length, .slice (some ⟨gU, 0, none⟩) R.up.length R.up.length, .slice (some ⟨gQ, 0, none⟩) R.pss.length R.pss.length, .slice (some ⟨gL, 0, none⟩) R.lic.length R.lic.length]) := Xb.out.below hb; have Qd : Hid (Ans T2 T1 wd (ints r) v1) := Qb.out.below hb; clear hb))
      all_goals
        go_wp2_with fail
        go_meet
        case rel => exact ⟨rfl, Bd.out, Pd.out, Od.out, Xd.out, Qd.out⟩
    case rest =>
    clear B8 P8 O8 X8 Q8 a0 a1 a2 a3 a4 x0 x1 x2 x3 x4
    obtain ⟨rfl, jB, jP, jO, jX, jQ⟩ := hcut
    have Be : Hid (Below V.heap.size V wc) := jB
    have Pe : Hid (Ans V.heap.size T0 wc (ints r) v0) := jP
    have Oe : Hid (RO wc TB R gP gN gU gQ gL hs) := jO
    have Xe : Hid (Row wc X [.slice (some ⟨gP, 0, none⟩) R.ps.length R.ps.length, .slice (some ⟨gN, 0, none⟩) R.ns.length R.ns.length, .slice (some ⟨gU, 0, none⟩) R.up.length R.up.length, .slice (some ⟨gQ, 0, none⟩) R.pss.length R.pss.length, .slice (some ⟨gL, 0, none⟩) R.lic.length R.lic.length]) := jX
    have Qe : Hid (Ans T2 T1 wc (ints r) v1) := jQ
    clear jB jP jO jX jQ
    have x0 := Xe.out.cell 0 _ rfl
    have x1 := Xe.out.cell 1 _ rfl
    have x2 := Xe.out.cell 2 _ rfl
    have x3 := Xe.out.cell 3 _ rfl
    have x4 := Xe.out.cell 4 _ rfl
    go_wp2_with fail
    refine (markRoom_c R gP gN gU gQ gL hs HM.out HT.out _ _ Oe.out).mono ?_
    rintro e wf ⟨km, rfl, hkm, hap⟩
    have Bf : Hid (Below V.heap.size V wf) := hap.2.1 _ Be.out (by omega)
    have Pf : Hid (Ans V.heap.size T0 wf (ints r) v0) := Pe.out.keep fun g h1 h2 hr => hap.1 g _ hr (.inl (by omega))
    have Qf : Hid (Ans T2 T1 wf (ints r) v1) := Qe.out.keep fun g h1 h2 hr => hap.1 g _ hr (.inr (by omega))
    clear hap x0 x1 x2 x3 x4 Be Pe Oe Xe Qe
    go_wp2_with fail
    refine (eq_ans Qf.out Pf.out hrl).mono ?_
    rintro e wg ⟨rfl, hb⟩
    have Bg : Hid (Below V.heap.size V wg) := below_then Bf.out hb
    have Pg : Hid (Ans V.heap.size T0 wg (ints r) v0) := Pf.out.below hb
    have Qg : Hid (Ans T2 T1 wg (ints r) v1) := Qf.out.below hb
    clear hb Bf Pf Qf
    go_wp2_with fail
    refine (mark_ans (k0 := 1) Qg.out (by rw [ints_len]; omega) (by omega)).mono ?_
    rintro e wh ⟨rfl, hC, hk, hbw⟩
    rw [ints_len] at hC ⊢
    have Bh : Hid (Below V.heap.size V wh) := hbw V Bg.out (by omega)
    have Ph : Hid (Ans V.heap.size T0 wh (ints r) v0) := Pg.out.keep fun g _ h1 hr => hk g _ hr (by omega)
    have Qh : Hid (Ans T2 T1 wh (upFrom 1 r.length) v1) := hC
    clear hC hk hbw Bg Pg Qg
    go_wp2_with fail
    refine (held_ans (k0 := 1) Qh.out (by omega) (by omega)).mono ?_
    rintro e wi ⟨rfl, hb⟩
    have Bi : Hid (Below V.heap.size V wi) := below_then Bh.out hb
    have Pi : Hid (Ans V.heap.size T0 wi (ints r) v0) := Ph.out.below hb
    have Qi : Hid (Ans T2 T1 wi (upFrom 1 r.length) v1) := Qh.out.below hb
    clear hb Bh Ph Qh
    go_wp2_with fail
    have HSU : Hid (RAt wi A R) := HS.out.below Bi.out
    have HAU : Hid (Row wi A0 [.slice A.aP R.ps.length A.cP, .slice A.aN R.ns.length A.cN, .slice A.aU R.up.length A.cU, .slice A.aQ R.pss.length A.cQ, .slice A.aL R.lic.length A.cL]) := HA.out.below Bi.out
    have HWU : Hid (Row wi (A0 + 1) [.int .i64 v.a, .int .i64 v.b, .int .i64 v.c]) := HW.out.below Bi.out
    have hVU : V.heap.size ≤ wi.heap.size := Bi.out.size
    generalize hU : wi = U at *
    have HK : Hid (∀ W : World, Below U.heap.size U W → Below U.heap.size U W ∧ U.heap.size ≤ W.heap.size ∧ W.cell? ⟨A0, 0, none⟩ = some (.slice A.aP R.ps.length A.cP) ∧ W.cell? ⟨A0, 1, none⟩ = some (.slice A.aN R.ns.length A.cN) ∧ W.cell? ⟨A0, 2, none⟩ = some (.slice A.aU R.up.length A.cU) ∧ W.cell? ⟨A0, 3, none⟩ = some (.slice A.aQ R.pss.length A.cQ) ∧ W.cell? ⟨A0, 4, none⟩ = some (.slice A.aL R.lic.length A.cL) ∧ W.cell? ⟨A0 + 1, 0, none⟩ = some (.int .i64 v.a) ∧ W.cell? ⟨A0 + 1, 1, none⟩ = some (.int .i64 v.b) ∧ W.cell? ⟨A0 + 1, 2, none⟩ = some (.int .i64 v.c)) := fun W h => ⟨h, h.size, (HAU.out.below h).cell 0 _ rfl, (HAU.out.below h).cell 1 _ rfl, (HAU.out.below h).cell 2 _ rfl, (HAU.out.below h).cell 3 _ rfl, (HAU.out.below h).cell 4 _ rfl, (HWU.out.below h).cell 0 _ rfl, (HWU.out.below h).cell 1 _ rfl, (HWU.out.below h).cell 2 _ rfl⟩
    have D1 : Hid (Below U.heap.size U U.drew) := low_drew U
    have z1 : U.heap.size ≤ U.heap.size := Nat.le_refl _
    have z2 : U.heap.size ≤ U.drew.heap.size := Nat.le_refl _
    go_cut [16] (fun p wc => ∃ u, u = p ∧ Ans U.heap.size wc.heap.size wc (ints r) u ∧ Below U.heap.size U wc)
    case first =>
      go_region_held3 (fun W => Below U.heap.size U W ∧ U.heap.size ≤ W.heap.size ∧ W.cell? ⟨A0, 0, none⟩ = some (.slice A.aP R.ps.length A.cP) ∧ W.cell? ⟨A0, 1, none⟩ = some (.slice A.aN R.ns.length A.cN) ∧ W.cell? ⟨A0, 2, none⟩ = some (.slice A.aU R.up.length A.cU) ∧ W.cell? ⟨A0, 3, none⟩ = some (.slice A.aQ R.pss.length A.cQ) ∧ W.cell? ⟨A0, 4, none⟩ = some (.slice A.aL R.lic.length A.cL) ∧ W.cell? ⟨A0 + 1, 0, none⟩ = some (.int .i64 v.a) ∧ W.cell? ⟨A0 + 1, 1, none⟩ = some (.int .i64 v.b) ∧ W.cell? ⟨A0 + 1, 2, none⟩ = some (.int .i64 v.c)) ((go_split_ands; refine HK.out _ ?_; first | (exact Hid.out (by with_reducible assumption)) | (exact behind_alloc (Hid.out (by with_reducible assumption)) _) | (with_reducible assumption) | (exact behind (by with_reducible assumption) (by with_reducible assumption)) | (go_grown; done)))
        (first
        | (go_at_call 6; refine (toRoom_c A R HM.out _ (HSU.out.below (And.left (by with_reducible assumption)))).mono ?_; rintro e wk ⟨fP, fN, fU, fQ, fL, fs, rfl, hro, hbk⟩; have HR1 : Hid (RO wk _ R fP fN fU fQ fL fs) := hro; clear hro; have Bk : Hid (Below U.heap.size U wk) := behind hbk (And.left (by with_reducible assumption)); have zk := Bk.out.size; (first | have C := behind hbk (by with_reducible assumption) | have C := hbk); obtain ⟨hck, hfk, hzk⟩ := bfacts C)
        | (go_at_call 7; refine (toVec_c _ _ _ _).mono ?_; rintro e wk ⟨rfl, hbk⟩; have HR2 : Hid (RO wk _ R fP fN fU fQ fL fs) := HR1.out.below hbk; have Bk : Hid (Below U.heap.size U wk) := behind hbk (And.left (by with_reducible assumption)); have zk := Bk.out.size; (first | have C := behind hbk (by with_reducible assumption) | have C := hbk); obtain ⟨hck, hfk, hzk⟩ := bfacts C)
        | (go_at_call 8; refine (HCI.out _ _ _ _ _ _ _ _ HR2.out).mono ?_; rintro e wk ⟨v0, rfl, hans, hbk⟩;
            have Bk : Hid (Below U.heap.size U wk) := behind hbk (And.left (by with_reducible assumption));
            have FA : Hid (Ans U.heap.size wk.heap.size wk (ints r) v0) := ans_wide hans (by first | exact Nat.le_refl _ | omega | (simp [go_sem]; omega)) (Nat.le_refl _); clear hans;
            (first | have C := behind hbk (by with_reducible assumption) | have C := hbk); obtain ⟨hck, hfk, hzk⟩ := bfacts C))
      all_goals
        go_split_ands
        go_wp2_with fail
        go_meet
        case rel => exact ⟨_, rfl, FA.out, Bk.out⟩
    case rest =>
    obtain ⟨pp, hpp, hFA, hFB⟩ := hcut
    subst hpp
    subst hU
    have hb := hFB
    have R3 : Hid (Ans wi.heap.size wc.heap.size wc (ints r) pp) := hFA
    have Bk : Hid (Below V.heap.size V wc) := below_then Bi.out hb
    have Pk : Hid (Ans V.heap.size T0 wc (ints r) v0) := Pi.out.below hb
    have Qk : Hid (Ans T2 T1 wc (upFrom 1 r.length) v1) := Qi.out.below hb
    clear hb hFA hFB D1 z1 z2 HK HSU HAU HWU Bi Pi Qi
    go_wp2_with fail
    refine (eq_ans R3.out Pk.out hrl).mono ?_
    rintro e wn ⟨rfl, hb⟩
    clear R3
    have Bn : Hid (Below V.heap.size V wn) := below_then Bk.out hb
    have Pn : Hid (Ans V.heap.size T0 wn (ints r) v0) := Pk.out.below hb
    have Qn : Hid (Ans T2 T1 wn (upFrom 1 r.length) v1) := Qk.out.below hb
    clear hb Bk Pk Qk
    go_wp2_with fail
    refine (held_ans (k0 := 1) Qn.out (by omega) (by omega)).mono ?_
    rintro e wo ⟨rfl, hb⟩
    have Bo : Hid (Below V.heap.size V wo) := below_then Bn.out hb
    have Po : Hid (Ans V.heap.size T0 wo (ints r) v0) := Pn.out.below hb
    have Qo : Hid (Ans T2 T1 wo (upFrom 1 r.length) v1) := Qn.out.below hb
    clear hb Bn Pn Qn
    go_wp2_with fail
    go_ret
    exact ⟨rfl, below_then HV.out Bo.out⟩

set_option maxRecDepth 100000 in
theorem lifted (os : Os) (started : os.Started) (H : Type) (enc : TypeId × Value → H) :
    ReturnsInHanded {} Try.checked os 3 .any (Rows.fnExactEligibleSpec.pre6 enc Try.prog Try.f3 Rows.fnExactEligibleRow.domain false) (Rows.fnExactEligibleSpec.post enc Try.prog Try.f3 false true false false) := by
  refine returnsInHanded_of_change (C := Try.checked) own started (by kernel_rfl) Try.func3
    (ChangeSpec.witness6 (enc := enc) (C := Try.checked) false ⟨#[], #[.agg #[.slice none 0 0, .slice none 0 0, .slice none 0 0, .slice none 0 0, .slice none 0 0], .agg #[.int .i64 0, .int .i64 0, .int .i64 0], .int .i64 0, .int .i64 0], []⟩ 8 (by kernel_rfl) (by kernel_rfl) (by kernel_rfl) (by kernel_rfl)) ?_
  intro W base args ds gs before hval0 hW _ _
  have hval : ∀ (j : Nat) t v, Try.f3.params[j]? = some t → args[j]? = some v → Value.okWide Try.prog W .any base t v := hval0
  have hW' := hW
  obtain ⟨p, q, hA0, hV, rfl, _, _⟩ := hW
  have hA : DataW.TrodAll enc Try.prog W 0 (fun _ => true) true Try.f3.params.toList args.toList ds p := hA0
  rw [Try.params3] at hA hval
  obtain ⟨v0, v1, v2, v3, d0, d1, d2, d3, p0, p1, p2, p3, rfl, rfl, rfl, h0, h1, h2, h3⟩ := trodAll_four hA
  obtain ⟨rfl, rfl⟩ := trodVars_none hV
  obtain ⟨A, R, rfl, hwd, hat⟩ := room_opened (hval 0 32 v0 rfl rfl) h0
  obtain ⟨x, y, z, rfl⟩ := vec_opened (hval 1 34 v1 rfl rfl) h1
  obtain ⟨f, rfl⟩ := okWide_int Try.underlying3 (hval 2 3 v2 rfl rfl)
  obtain ⟨u, rfl⟩ := okWide_int Try.underlying3 (hval 3 3 v3 rfl rfl)
  clear hA0 hval0
  simp only [List.append_nil] at hW'
  refine (walk A R ⟨0, x, y, z⟩ f u hwd W hat).mono fun e W' ⟨he, hg⟩ => ?_
  subst he
  have hlt : ∀ x ∈ p0 ++ p1 ++ p2 ++ p3, x.block < W.heap.size := fun x hx => by simpa using hW'.lt x hx
  have harg := Below.trod laidOutAll (by kernel_rfl) (of_decide_eq_true (by kernel_rfl)) h0 hg (fun x hx => hlt x (by simp [hx]))
  have harg1 := Below.trod laidOutAll (by kernel_rfl) (of_decide_eq_true (by kernel_rfl)) h1 hg (fun x hx => hlt x (by simp [hx]))
  have harg2 := Below.trod laidOutAll (by kernel_rfl) (of_decide_eq_true (by kernel_rfl)) h2 hg (fun x hx => hlt x (by simp [hx]))
  have harg3 := Below.trod laidOutAll (by kernel_rfl) (of_decide_eq_true (by kernel_rfl)) h3 hg (fun x hx => hlt x (by simp [hx]))
  exact ⟨_, rfl, _, _, _, [], _, [], hW', trodAll_mk1 (shut_bool Try.underlying4 _), trodAll_mk4 harg harg1 harg2 harg3, rfl, hg.frame _, fun h => by cases h⟩
end LawEligible

/-- For every room, vector and times: the law returns true, and they read as they did. -/
theorem fnExactEligible_holds : Rows.FnExactEligibleSaid :=
  OpenClaim.holds_of_wide 3 Try.f3 rfl rfl rfl rfl rfl rfl rfl ⟨rfl, rfl, rfl, rfl, rfl⟩ rfl rfl rfl rfl rfl (by kernel_rfl) Try.func3 (by kernel_rfl)
    (of_decide_eq_true (by kernel_rfl)) (by unfold Func.isWrapper; rw [if_neg (of_decide_eq_false (by kernel_rfl))]; exact ⟨rfl, rfl⟩)
    (fun os started H enc _ => LawEligible.lifted os started H enc)
#print axioms fnExactEligible_holds
end Go.Proofs.Ytbnbikmnembciaa
