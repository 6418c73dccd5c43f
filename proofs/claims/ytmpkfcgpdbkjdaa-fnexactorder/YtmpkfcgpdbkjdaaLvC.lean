/- Whether a topology is right, by the program; its switches and their levels. -/
import Derived.Test.YtmpkfcgpdbkjdaaLvB
import Derived.Test.YtmpkfcgpdbkjdaaTopI
import Derived.Test.YtmpkfcgpdbkjdaaVecC
namespace Go.Proofs.Ytmpkfcgpdbkjdaa
open Go.ChangeShapes Go.WideShapes Go.ChangeAt Go.RowKit

theorem TopOk.treeOk {ps : List Int} {ns : List Nd} (t : TopOk ps ns) : TreeOk ps := ⟨t.one, t.few, t.top, t.tree, t.level⟩

theorem TreeOk.topOk {ps : List Int} {ns : List Nd} (t : TreeOk ps) (hn : ns.length ≤ 24) (h : ∀ n ∈ ns, 0 ≤ n.l ∧ n.l < ps.length ∧ lvN ps n.l = 0 ∧ vokB n.a n.b n.c = true) : TopOk ps ns :=
  ⟨t.one, t.few, hn, t.top, t.tree, fun n hm => by
    obtain ⟨h0, h1, h2, h3⟩ := h n hm
    obtain ⟨m, hm⟩ : ∃ m : Nat, n.l = m := ⟨n.l.toNat, by omega⟩
    rw [hm] at h2
    refine ⟨h0, h1, ?_, h3⟩
    rw [hm]
    exact (lvN_leaf t.tree t.level m (by omega)).1 h2, t.level⟩

theorem TopOk.leaf {ps : List Int} {ns : List Nd} (t : TopOk ps ns) (n : Nd) (hm : n ∈ ns) : lvN ps n.l = 0 := by
  obtain ⟨h0, h1, h2, _⟩ := t.node n hm
  obtain ⟨m, hm⟩ : ∃ m : Nat, n.l = m := ⟨n.l.toNat, by omega⟩
  rw [hm] at h2 ⊢
  exact (lvN_leaf t.tree t.level m (by omega)).2 h2

theorem levelsOf_c (a : Option Addr) (c : Nat) (ps : List Int) (w : World) (h : Sq w a (ints ps)) : Calls Try.prog 76 #[.slice a ps.length c] w (LvSays w ps) := by
  by_cases h0 : ps.length < 1
  · exact levelsOf_none a c ps w h0
  · by_cases h1 : 24 < ps.length
    · exact levelsOf_many a c ps w h1
    · by_cases h3 : ps[0]? = some 0
      · exact levelsOf_main a c ps w h (by omega) (by omega) h3
      · exact levelsOf_top a c ps w h (by omega) (by omega) h3

set_option maxHeartbeats 4000000 in
theorem implTopoOk_c (a b : Option Addr) (c d : Nat) (ps : List Int) (ns : List Nd) (hn : ns.length ≤ 1048576) (w : World) (h : Sq w a (ints ps)) (h' : Sq w b (flat ns)) :
    Calls Try.prog 54 #[.agg #[.slice a ps.length c, .slice b ns.length d]] w (Says w (TopOk ps ns)) := by
  have H : Hid (Sq w a (ints ps)) := h
  have H' : Hid (Sq w b (flat ns)) := h'
  clear h h'
  go_enter Try.func54, Try.ntmps54
  go_wp2_with fail
  generalize hV : w.alloc (.cells #[.slice a ps.length c, .slice b ns.length d] 31) = V
  have HA : Hid (Row V w.heap.size [.slice a ps.length c, .slice b ns.length d]) := by subst hV; exact row_fresh w [.slice a ps.length c, .slice b ns.length d] 31
  have HV : Hid (Below w.heap.size w V) := by subst hV; exact low_alloc _ _
  clear hV
  refine (levelsOf_c a c ps V (H.out.below HV.out)).mono ?_
  rintro e w1 (⟨rfl, hno, hb⟩ | ⟨g, L, rfl, hyes, hLl, hLv, hg, hr, hb⟩)
  · have HN : Hid (¬ TopOk ps ns) := fun t => hno t.treeOk
    have HB : Hid (Below V.heap.size V w1) := hb
    have t1 := (HA.out.below hb).cell 1 _ rfl
    clear hno hb
    go_wp2_with fail
    go_ret
    exact says_no rfl HN.out (below_then HV.out HB.out)
  · have HT : Hid (TreeOk ps) := hyes
    have HL : Hid (∀ i : Nat, i < ps.length → L[i]? = some (lvN ps i)) := hLv
    have HB : Hid (Below V.heap.size V w1) := hb
    have HR : Hid (Row w1 g (ints L)) := hr
    have hpl := hyes.few
    have t1 := (HA.out.below hb).cell 1 _ rfl
    clear hyes hLv hb hr
    by_cases h2 : 24 < ns.length
    · have hi2 : 24 < (ns.length : Int) := by omega
      have HN : Hid (¬ TopOk ps ns) := fun t => by have := t.nodes; omega
      go_wp2_with fail
      go_ret
      exact says_no rfl HN.out (below_then HV.out HB.out)
    · have hi2 : ¬ 24 < (ns.length : Int) := by omega
      go_wp2_with fail
      clear t1
      go_loopw [24] (fun i wq => ∃ j : Nat, j ≤ ns.length ∧ i = .int .i64 j ∧ (∀ n ∈ ns.take j, 0 ≤ n.l ∧ n.l < ps.length ∧ lvN ps n.l = 0 ∧ vokB n.a n.b n.c = true) ∧ Row wq g (ints L) ∧ Below V.heap.size V wq) (fun i _ => ns.length - (intOf i).toNat)
      case atStart => exact ⟨0, Nat.zero_le _, rfl, fun n h => by simp at h, HR.out, HB.out⟩
      case round =>
        obtain ⟨j, hj, rfl, hi5, hr, hb⟩ := hrel
        have HI : Hid (∀ n ∈ ns.take j, 0 ≤ n.l ∧ n.l < ps.length ∧ lvN ps n.l = 0 ∧ vokB n.a n.b n.c = true) := hi5
        have HB2 : Hid (Below V.heap.size V wr) := hb
        have HR2 : Hid (Row wr g (ints L)) := hr
        have r1 := (HA.out.below hb).cell 1 _ rfl
        have hsz : w.heap.size < wr.heap.size := (HA.out.below hb).lt
        have hne : w.heap.size ≠ wr.heap.size := by omega
        clear hi5 hb hr HR HB
        by_cases hlt2 : j < ns.length
        · have hj0 : (0 : Int) ≤ (j : Int) := by omega
          have hj1 : (j : Int) < (ns.length : Int) := by omega
          obtain ⟨p2, rfl, c0, c1, c2, c3⟩ := ((H'.out.below HV.out).below HB2.out).node j hlt2
          have HX : Hid (ns[j]? = some ns[j]) := List.getElem?_eq_getElem hlt2
          generalize ns[j] = n at c0 c1 c2 c3 HX
          have HMem : Hid (n ∈ ns) := List.mem_of_getElem? HX.out
          by_cases hn0 : n.l < 0
          · have HN : Hid (¬ TopOk ps ns) := fun t => by have := (t.node n HMem.out).1; omega
            go_wp2_with fail
            go_ret
            exact says_no rfl HN.out (behind_alloc (below_then HV.out HB2.out) _)
          · by_cases hn1 : (ps.length : Int) ≤ n.l
            · have HN : Hid (¬ TopOk ps ns) := fun t => by have := (t.node n HMem.out).2.1; omega
              go_wp2_with fail
              go_ret
              exact says_no rfl HN.out (behind_alloc (below_then HV.out HB2.out) _)
            · obtain ⟨m, hm⟩ : ∃ m : Nat, n.l = m := ⟨n.l.toNat, by omega⟩
              have hm0 : (0 : Int) ≤ (m : Int) := by omega
              have hm1 : (m : Int) < (ps.length : Int) := by omega
              have HM : Hid (n.l = m) := hm
              have hrc := HR2.out.cell m _ (by rw [ints_get, HL.out m (by omega)]; rfl)
              have hgne : g ≠ wr.heap.size := by have := HR2.out.lt; omega
              have hglt : g < wr.heap.size := HR2.out.lt
              rw [hm] at c0 hn0 hn1
              clear hm
              by_cases hz : lvN ps m = 0
              · have HZ : Hid (lvN ps m = 0) := hz
                rw [hz] at hrc
                clear hz
                go_wp2_with fail
                have HB3 : Hid (Below V.heap.size V (wr.alloc (.cells #[.int .i64 m, .int .i64 n.a, .int .i64 n.b, .int .i64 n.c] 74))) := behind_alloc HB2.out _
                have HR3 : Hid (Row (wr.alloc (.cells #[.int .i64 m, .int .i64 n.a, .int .i64 n.b, .int .i64 n.c] 74)) g (ints L)) := HR2.out.below (low_alloc _ _)
                generalize wr.alloc (.cells #[.int .i64 m, .int .i64 n.a, .int .i64 n.b, .int .i64 n.c] 74) = w3 at HB3 HR3
                clear r1 c0 c1 c2 c3 HB2 HR2 hrc
                refine (implVecOk_c n.a n.b n.c _).mono ?_
                rintro e w5 ⟨rfl, hb⟩
                have HB5 : Hid (Below V.heap.size V w5) := below_then HB3.out hb
                have HR5 : Hid (Row w5 g (ints L)) := HR3.out.below hb
                clear hb HB3 HR3
                cases hv : vokB n.a n.b n.c
                · have HN : Hid (¬ TopOk ps ns) := fun t => by
                    have h := (t.node n HMem.out).2.2.2
                    rw [hv] at h
                    cases h
                  clear hv
                  go_wp2_with fail
                  go_ret
                  exact says_no rfl HN.out (below_then HV.out HB5.out)
                · have HI1 : Hid (∀ n ∈ ns.take (j + 1), 0 ≤ n.l ∧ n.l < ps.length ∧ lvN ps n.l = 0 ∧ vokB n.a n.b n.c = true) := fun y hy => by
                    rw [List.take_add_one, HX.out, Option.toList_some] at hy
                    rcases List.mem_append.1 hy with hy | hy
                    · exact HI.out y hy
                    · have e := List.mem_singleton.1 hy
                      subst e
                      rw [HM.out]
                      exact ⟨by omega, by omega, HZ.out, hv⟩
                  clear hv
                  go_wp2_with fail
                  go_roundw
                  case rel => exact ⟨j + 1, by omega, by go_num, HI1.out, HR5.out, HB5.out⟩
                  case measure => simp [intOf]; omega
              · have HN : Hid (¬ TopOk ps ns) := fun t => by
                  have h := t.leaf n HMem.out
                  rw [HM.out] at h
                  exact hz h
                have hz' : (lvN ps m != 0) = true := by simpa using hz
                generalize lvN ps m = z at hrc hz'
                clear hz
                go_wp2_with fail
                go_ret
                exact says_no rfl HN.out (behind_alloc (below_then HV.out HB2.out) _)
        · have HAll : Hid (∀ n ∈ ns, 0 ≤ n.l ∧ n.l < ps.length ∧ lvN ps n.l = 0 ∧ vokB n.a n.b n.c = true) := fun n hn => HI.out n (by rw [List.take_of_length_le (by omega)]; exact hn)
          have HY : Hid (TopOk ps ns) := HT.out.topOk (by omega) HAll.out
          go_wp2_with fail
          go_ret
          exact says_yes rfl HY.out (below_then HV.out HB2.out)


/-- What 'Level' answers. -/
noncomputable def levelR (ps : List Int) (ns : List Nd) (s : Int) : Int := open Classical in if SwOk ps ns s then lvN ps s else -1


end Go.Proofs.Ytmpkfcgpdbkjdaa
