/- Whether a topology is right, by the specification: the two loops. -/
import Derived.Test.YtbnbikmnembciaaTopG
namespace Go.Proofs.Ytbnbikmnembciaa
open Go.ChangeShapes Go.WideShapes Go.ChangeAt Go.RowKit

set_option maxHeartbeats 4000000 in
theorem specTopoOk_main (a b : Option Addr) (c d : Nat) (ps : List Int) (ns : List Nd) (w : World) (h : Sq w a (ints ps)) (h' : Sq w b (flat ns)) (h0 : 1 ≤ ps.length) (h1 : ps.length ≤ 24) (h2 : ns.length ≤ 24) (h3 : ps[0]? = some 0) :
    Calls Try.prog 40 #[.agg #[.slice a ps.length c, .slice b ns.length d]] w (Says w (TopOk ps ns)) := by
  have hi : ¬ (ps.length : Int) < 1 := by omega
  have hi' : ¬ 24 < (ps.length : Int) := by omega
  have hi2 : ¬ 24 < (ns.length : Int) := by omega
  have hi3 : (0 : Int) < (ps.length : Int) := by omega
  have HT : Hid (ps[0]? = some 0) := h3
  have H : Hid (Sq w a (ints ps)) := h
  have H' : Hid (Sq w b (flat ns)) := h'
  obtain ⟨p, rfl, hpb, hc⟩ := (h.below (low_alloc w (.cells #[.slice a ps.length c, .slice b ns.length d] 39))).cell 0 _ (ints_at ps 0 h0)
  have hx : ps[0] = 0 := by
    have := List.getElem?_eq_getElem h0
    rw [h3] at this
    exact (Option.some.inj this).symm
  rw [hx, show p.add 0 = p from rfl] at hc
  clear h3 h h' hx
  go_enter Try.func40, Try.ntmps40
  go_wp2_with fail
  generalize hV : w.alloc (.cells #[.slice (some p) ps.length c, .slice b ns.length d] 39) = V at hc
  have HA : Hid (Row V w.heap.size [.slice (some p) ps.length c, .slice b ns.length d]) := by subst hV; exact row_fresh w [.slice (some p) ps.length c, .slice b ns.length d] 39
  have HV : Hid (Below w.heap.size w V) := by subst hV; exact low_alloc _ _
  clear hV hpb hc
  go_loopw [3] (fun i wr => ∃ k : Nat, 1 ≤ k ∧ k ≤ ps.length ∧ i = .int .i64 k ∧ (∀ (i : Nat) (x : Int), 1 ≤ i → i < k → ps[i]? = some x → 0 ≤ x ∧ x < i) ∧ Below V.heap.size V wr) (fun i _ => ps.length - (intOf i).toNat)
  case atStart => exact ⟨1, Nat.le_refl _, h0, rfl, fun i x h1 h2 => by omega, Below.refl _ _⟩
  case round =>
    obtain ⟨k, hk1, hk2, rfl, hi5, hb⟩ := hrel
    have HI : Hid (∀ (i : Nat) (x : Int), 1 ≤ i → i < k → ps[i]? = some x → 0 ≤ x ∧ x < i) := hi5
    have HB : Hid (Below V.heap.size V wr) := hb
    have t0 := (HA.out.below hb).cell 0 _ rfl
    have t1 := (HA.out.below hb).cell 1 _ rfl
    clear hi5 hb
    by_cases hlt : k < ps.length
    · have hj0 : (0 : Int) ≤ (k : Int) := by omega
      have hj1 : (k : Int) < (ps.length : Int) := by omega
      obtain ⟨p', hpp, _, hc⟩ := ((H.out.below HV.out).below HB.out).cell k _ (ints_at ps k hlt)
      cases hpp
      have HX : Hid (ps[k]? = some ps[k]) := List.getElem?_eq_getElem hlt
      generalize ps[k] = x at hc HX
      by_cases hx0 : x < 0
      · have HN : Hid (¬ TopOk ps ns) := fun t => by have := t.tree k x hk1 HX.out; omega
        go_wp2_with fail
        go_ret
        exact says_no rfl HN.out (below_then HV.out HB.out)
      · by_cases hx1 : (k : Int) ≤ x
        · have HN : Hid (¬ TopOk ps ns) := fun t => by have := t.tree k x hk1 HX.out; omega
          go_wp2_with fail
          go_ret
          exact says_no rfl HN.out (below_then HV.out HB.out)
        · have HI1 : Hid (∀ (i : Nat) (x : Int), 1 ≤ i → i < k + 1 → ps[i]? = some x → 0 ≤ x ∧ x < i) := fun i y h1 h2 h3 => by
            by_cases e : i = k
            · subst e
              rw [HX.out] at h3
              cases h3
              omega
            · exact HI.out i y h1 (by omega) h3
          go_wp2_with fail
          go_roundw
          case rel => exact ⟨k + 1, by omega, by omega, by go_num, HI1.out, HB.out⟩
          case measure => simp [intOf]; omega
    · have HTr : Hid (treeB ps) := fun i x h1 h2 => HI.out i x h1 (by have := (List.getElem?_eq_some_iff.1 h2).1; omega) h2
      clear HI
      go_wp2_with fail
      go_loopw [54] (fun i wq => ∃ j : Nat, j ≤ ns.length ∧ i = .int .i64 j ∧ (∀ n ∈ ns.take j, 0 ≤ n.l ∧ n.l < ps.length ∧ kidsTo ps n.l ps.length = [] ∧ vokB n.a n.b n.c = true) ∧ Below V.heap.size V wq) (fun i _ => ns.length - (intOf i).toNat)
      case atStart => exact ⟨0, Nat.zero_le _, rfl, fun n h => by simp at h, HB.out⟩
      case round =>
        obtain ⟨j, hj, rfl, hi5, hb⟩ := hrel
        have HI : Hid (∀ n ∈ ns.take j, 0 ≤ n.l ∧ n.l < ps.length ∧ kidsTo ps n.l ps.length = [] ∧ vokB n.a n.b n.c = true) := hi5
        have HB2 : Hid (Below V.heap.size V wr) := hb
        have r0 := (HA.out.below hb).cell 0 _ rfl
        have r1 := (HA.out.below hb).cell 1 _ rfl
        have hsz : w.heap.size < wr.heap.size := (HA.out.below hb).lt
        have hne : w.heap.size ≠ wr.heap.size := by omega
        clear hi5 hb t0 t1
        by_cases hlt2 : j < ns.length
        · have hj0 : (0 : Int) ≤ (j : Int) := by omega
          have hj1 : (j : Int) < (ns.length : Int) := by omega
          obtain ⟨p2, rfl, c0, c1, c2, c3⟩ := ((H'.out.below HV.out).below HB2.out).node j hlt2
          have HX : Hid (ns[j]? = some ns[j]) := List.getElem?_eq_getElem hlt2
          generalize ns[j] = n at c0 c1 c2 c3 HX
          have HMem : Hid (n ∈ ns) := List.mem_of_getElem? HX.out
          by_cases hn0 : n.l < 0
          · have HN : Hid (¬ TopOk ps ns) := fun t => by have := (t.node n HMem.out).1; omega
            go_wp2_with fail
            go_ret
            exact says_no rfl HN.out (behind_alloc (below_then HV.out HB2.out) _)
          · by_cases hn1 : (ps.length : Int) ≤ n.l
            · have HN : Hid (¬ TopOk ps ns) := fun t => by have := (t.node n HMem.out).2.1; omega
              go_wp2_with fail
              go_ret
              exact says_no rfl HN.out (behind_alloc (below_then HV.out HB2.out) _)
            · go_wp2_with fail
              have HQ3 : Hid (Row (wr.alloc (.cells #[.int .i64 n.l, .int .i64 n.a, .int .i64 n.b, .int .i64 n.c] 97)) wr.heap.size [.int .i64 n.l, .int .i64 n.a, .int .i64 n.b, .int .i64 n.c]) := row_fresh wr [.int .i64 n.l, .int .i64 n.a, .int .i64 n.b, .int .i64 n.c] 97
              have HB3 : Hid (Below V.heap.size V (wr.alloc (.cells #[.int .i64 n.l, .int .i64 n.a, .int .i64 n.b, .int .i64 n.c] 97))) := behind_alloc HB2.out _
              generalize wr.alloc (.cells #[.int .i64 n.l, .int .i64 n.a, .int .i64 n.b, .int .i64 n.c] 97) = w3 at HQ3 HB3
              generalize wr.heap.size = q at *
              clear r0 r1 c0 c1 c2 c3 HB2
              refine (l02Kids_c (some p) (some p2) c ns.length d ps n.l (by omega) _ ((H.out.below HV.out).below HB3.out)).mono ?_
              rintro e w4 ⟨a', cap, rfl, _, hb⟩
              have HB4 : Hid (Below V.heap.size V w4) := below_then HB3.out hb
              have q1 := (HQ3.out.below hb).cell 1 _ rfl
              have q2 := (HQ3.out.below hb).cell 2 _ rfl
              have q3 := (HQ3.out.below hb).cell 3 _ rfl
              have hkl := kids_len ps n.l ps.length
              clear hb HQ3 HB3
              by_cases hk0 : 0 < (kidsTo ps n.l ps.length).length
              · have HN : Hid (¬ TopOk ps ns) := fun t => by
                  have h := (t.node n HMem.out).2.2.1
                  rw [h] at hk0
                  simp at hk0
                generalize (kidsTo ps n.l ps.length).length = m at *
                have hk1 : (0 : Int) < (m : Int) := by omega
                go_wp2_with fail
                go_ret
                exact says_no rfl HN.out (below_then HV.out HB4.out)
              · have HK : Hid (kidsTo ps n.l ps.length = []) := by show _ = _; exact List.length_eq_zero_iff.1 (by omega)
                rw [HK.out] at hkl hk0 ⊢
                go_wp2_with fail
                refine (specVecOk_c n.a n.b n.c _).mono ?_
                rintro e w5 ⟨rfl, hb⟩
                have HB5 : Hid (Below V.heap.size V w5) := below_then HB4.out hb
                clear hb q1 q2 q3 HB4
                cases hv : vokB n.a n.b n.c
                · have HN : Hid (¬ TopOk ps ns) := fun t => by
                    have h := (t.node n HMem.out).2.2.2
                    rw [hv] at h
                    cases h
                  clear hv
                  go_wp2_with fail
                  go_ret
                  exact says_no rfl HN.out (below_then HV.out HB5.out)
                · have HI1 : Hid (∀ n ∈ ns.take (j + 1), 0 ≤ n.l ∧ n.l < ps.length ∧ kidsTo ps n.l ps.length = [] ∧ vokB n.a n.b n.c = true) := fun y hy => by
                    rw [List.take_add_one, HX.out, Option.toList_some] at hy
                    rcases List.mem_append.1 hy with hy | hy
                    · exact HI.out y hy
                    · have e := List.mem_singleton.1 hy
                      subst e
                      exact ⟨by omega, by omega, HK.out, hv⟩
                  clear hv
                  go_wp2_with fail
                  go_roundw
                  case rel => exact ⟨j + 1, by omega, by go_num, HI1.out, HB5.out⟩
                  case measure => simp [intOf]; omega
        · have HAll : Hid (∀ n ∈ ns, 0 ≤ n.l ∧ n.l < ps.length ∧ kidsTo ps n.l ps.length = [] ∧ vokB n.a n.b n.c = true) := fun n hn => HI.out n (by rw [List.take_of_length_le (by omega)]; exact hn)
          go_wp2_with fail
          refine (l02Level_c (some p) b c ns.length d ps (by omega) HTr.out ps.length 0 _ (by omega) (by omega) (by omega) ((H.out.below HV.out).below HB2.out)).mono ?_
          rintro e w3 ⟨rfl, hb⟩
          have HB3 : Hid (Below V.heap.size V w3) := below_then HB2.out hb
          clear hb
          have HLv : Hid (TopOk ps ns ↔ 0 ≤ lvF ps ps.length ((0 : Nat) : Int)) := ⟨fun t => t.level, fun h => ⟨h0, h1, h2, HT.out, HTr.out, HAll.out, h⟩⟩
          generalize lvF ps ps.length ((0 : Nat) : Int) = L at HLv ⊢
          go_wp2_with fail
          go_ret
          exact ⟨decide (0 ≤ L), rfl, by rw [decide_eq_true_eq]; exact HLv.out.symm, below_then HV.out HB3.out⟩

theorem specTopoOk_c (a b : Option Addr) (c d : Nat) (ps : List Int) (ns : List Nd) (hp : ps.length ≤ 1048576) (hn : ns.length ≤ 1048576) (w : World) (h : Sq w a (ints ps)) (h' : Sq w b (flat ns)) :
    Calls Try.prog 40 #[.agg #[.slice a ps.length c, .slice b ns.length d]] w (Says w (TopOk ps ns)) := by
  by_cases h0 : ps.length < 1
  · exact specTopoOk_none a b c d ps ns hp hn w h0
  · by_cases h1 : 24 < ps.length
    · exact specTopoOk_many a b c d ps ns hp hn w h1
    · by_cases h2 : 24 < ns.length
      · exact specTopoOk_full a b c d ps ns hp hn w (by omega) (by omega) h2
      · by_cases h3 : ps[0]? = some 0
        · exact specTopoOk_main a b c d ps ns w h h' (by omega) (by omega) (by omega) h3
        · exact specTopoOk_top a b c d ps ns hp hn w h (by omega) (by omega) (by omega) h3
end Go.Proofs.Ytbnbikmnembciaa
