/- The text of a topology: the program's. -/
import Derived.Test.YtljclchjdckgpaaDoorTxtA
import Derived.Test.YtljclchjdckgpaaDoorBldA
import Derived.Test.YtljclchjdckgpaaDoorLvC
import Derived.Test.YtljclchjdckgpaaDoorTopJ
import Derived.Deep.RegionWith
namespace Go.Proofs.YtljclchjdckgpaaDoor
open Go.ChangeShapes Go.WideShapes Go.ChangeAt Go.RowKit

set_option maxHeartbeats 1000000 in
theorem line_c (bk c : Nat) (xs : List ByteArray) (w : World) (hcells : ∀ (j : Nat) x, xs[j]? = some x → w.cell? ⟨bk, j, none⟩ = some (.string x)) (hbk : bk < w.heap.size) (hN : xs.length ≤ 1000) (hcap : xs.length ≤ c) (hlen : (Lib.join (xs.map fun (x : ByteArray) => x.data.toList) [32]).length ≤ 50000) :
    Calls Tryd.prog 17 #[.slice (some ⟨bk, 0, none⟩) xs.length c] w fun e w' => e = .returned (.string ⟨(Lib.join (xs.map fun (x : ByteArray) => x.data.toList) [32] ++ [10]).toArray⟩) ∧ Below w.heap.size w w' := by
  have HJ : Hid (Calls Tryd.prog 43 #[.slice (some ⟨bk, 0, none⟩) xs.length c, .string ⟨#[32]⟩] w fun e w' => e = .returned (.string ⟨(Lib.join (xs.map fun (x : ByteArray) => x.data.toList) [32]).toArray⟩) ∧ Below w.heap.size w w') :=
    Tryd.strings_Join bk 0 c xs ⟨#[32]⟩ w (fun j x h => by rw [Nat.zero_add]; exact hcells j x h) hbk (by omega) hcap (by simpa using Nat.le_trans hlen (by omega))
  have h1 := add_m (Lib.join (xs.map fun (x : ByteArray) => x.data.toList) [32]) [10] (by omega) (by simp)
  clear hcells hlen
  generalize (⟨(Lib.join (xs.map fun (x : ByteArray) => x.data.toList) [32]).toArray⟩ : ByteArray) = s1 at *
  generalize (⟨(Lib.join (xs.map fun (x : ByteArray) => x.data.toList) [32] ++ [10]).toArray⟩ : ByteArray) = s2 at *
  go_enter Tryd.func17, Tryd.ntmps17
  go_wp2_with fail
  refine HJ.out.mono ?_
  rintro e w1 ⟨rfl, hb⟩
  have HB : Hid (Below w.heap.size w w1) := hb
  clear hb HJ
  go_wp2_with fail
  go_ret
  exact ⟨rfl, HB.out⟩

theorem isBuilder_below {T e : TypeId} {B b : Nat} {bs : List Value} {w w' : World} (h : Lib.IsBuilder T e B b bs w) (hb : Below w.heap.size w w') : Lib.IsBuilder T e B b bs w' := by
  have key : ∀ p, Lib.BuilderAt T e B b p bs w → Lib.BuilderAt T e B b p bs w' := fun p h => by
    have hlt := h.lt
    obtain ⟨h1, v, h2, h3, h4⟩ := h
    exact ⟨h1, v, (hb.block b hlt).trans h2, owns_below h3 hb, h4⟩
  exact h.elim (fun h => .inl (key _ h)) (fun h => .inr (key _ h))

set_option maxHeartbeats 4000000 in
theorem implTopoText_c (a b : Option Addr) (c d : Nat) (ps : List Int) (ns : List Nd) (hn : ns.length ≤ 1048576) (hcp : ps.length ≤ c) (w : World) (h : Sq w a (ints ps)) (h' : Sq w b (flat ns)) (ht : Tab w) :
    Calls Tryd.prog 6 #[.agg #[.slice a ps.length c, .slice b ns.length d]] w fun e w' => e = .returned (.string ⟨(ttL ps ns).toArray⟩) ∧ Below w.heap.size w w' := by
  have H : Hid (Sq w a (ints ps)) := h
  have H' : Hid (Sq w b (flat ns)) := h'
  have HT : Hid (Tab w) := ht
  clear h h' ht
  go_enter Tryd.func6, Tryd.ntmps6
  go_wp2_with fail
  generalize hV : w.alloc (.cells #[.slice a ps.length c, .slice b ns.length d] 26) = V
  have HA : Hid (Row V w.heap.size [.slice a ps.length c, .slice b ns.length d]) := by subst hV; exact row_fresh w [.slice a ps.length c, .slice b ns.length d] 26
  have HV : Hid (Below w.heap.size w V) := by subst hV; exact low_alloc _ _
  clear hV
  refine (implTopoOk_c a b c d ps ns hn _ (H.out.below HV.out) (H'.out.below HV.out)).mono ?_
  rintro e w1 ⟨k, rfl, hk, hb⟩
  have HB1 : Hid (Below V.heap.size V w1) := hb
  have HA1 : Hid (Row w1 w.heap.size [.slice a ps.length c, .slice b ns.length d]) := HA.out.below hb
  have t0 := HA1.out.cell 0 _ rfl
  clear hb
  cases k
  · have HN : Hid (ttL ps ns = []) := by
      show _ = _
      rw [ttL, if_neg (fun t => by have := hk.2 t; cases this)]
    clear hk
    go_wp2_with fail
    go_ret
    exact ⟨by rw [HN.out]; rfl, below_then HV.out HB1.out⟩
  · have HY : Hid (TopOk ps ns) := hk.1 rfl
    have HN : Hid (ttL ps ns = ndTo ps ns ns.length) := by
      show _ = _
      rw [ttL, if_pos HY.out]
    have hpf := HY.out.few
    have hnf := HY.out.nodes
    have hp1 := HY.out.one
    have HS1 : Hid (Sq w1 a (ints ps)) := (H.out.below HV.out).below HB1.out
    have HN1 : Hid (Sq w1 b (flat ns)) := (H'.out.below HV.out).below HB1.out
    have HT1 : Hid (Tab w1) := (HT.out.on HV.out).on HB1.out
    have hlt1 : w.heap.size < w1.heap.size := HA1.out.lt
    have hne1 : w.heap.size ≠ w1.heap.size := by omega
    have hi1 : (1 : Int) ≤ (ps.length : Int) := by omega
    have hi2 : (ps.length : Int) ≤ (c : Int) := by omega
    obtain ⟨p, rfl, _, _⟩ := HS1.out.cell 0 _ (ints_at ps 0 hp1)
    clear hk
    have HPd : Hid (∀ i (hi : i < (ps.drop 1).length), ∃ v, w1.cell? ((⟨p.block, p.off + 1, none⟩ : Addr).add i) = some v ∧ v = .int .i64 (ps.drop 1)[i]) := fun i hi => by
      have hi' : i + 1 < ps.length := by simp at hi; omega
      obtain ⟨p', e, _, hc⟩ := HS1.out.cell (i + 1) _ (ints_at ps (i + 1) hi')
      cases e
      refine ⟨_, ?_, rfl⟩
      rw [show (⟨p.block, p.off + 1, none⟩ : Addr).add i = p.add (i + 1) by unfold Addr.add; by_cases h0 : i = 0 <;> simp [h0]; omega, hc]
      simp
    have hdl : (ps.drop 1).length = ps.length - 1 := by simp
    go_wp2_with fail
    · have HP : Hid (Sq w1 (some p) (ints (ps.drop 1))) := ⟨fun i u hu => by
        have := (List.getElem?_eq_some_iff.1 hu).1
        rw [ints_len, hdl] at this
        omega⟩
      have HI0 : Hid (Lib.IsBuilder 45 5 w1.heap.size w1.heap.size (Lib.byteCells (swTo ps 1)) (w1.alloc (.cells #[.pointer none, .slice none 0 0] 45))) := by rw [sw_one]; exact Lib.fresh_isBuilder _ _ _
      have HB0 : Hid (Below w1.heap.size w1 (w1.alloc (.cells #[.pointer none, .slice none 0 0] 45))) := low_alloc _ _
      clear t0
      go_loopw [15] (fun i wr => ∃ k : Nat, k ≤ ps.length - 1 ∧ i = .int .i64 k ∧ Lib.IsBuilder 45 5 w1.heap.size w1.heap.size (Lib.byteCells (swTo ps (k + 1))) wr ∧ Below w1.heap.size w1 wr) (fun i _ => ps.length - 1 - (intOf i).toNat)
      case atStart => exact ⟨0, Nat.zero_le _, rfl, HI0.out, HB0.out⟩
      case round =>
        obtain ⟨k, hk, rfl, hbl, hb⟩ := hrel
        have HI : Hid (Lib.IsBuilder 45 5 w1.heap.size w1.heap.size (Lib.byteCells (swTo ps (k + 1))) wr) := hbl
        have HB : Hid (Below w1.heap.size w1 wr) := hb
        have e1 := (HA1.out.below hb).cell 1 _ rfl
        clear hbl hb HI0 HB0
        by_cases hlt : k < ps.length - 1
        · exfalso
          omega
        · obtain rfl : k = ps.length - 1 := by omega
          rw [show ps.length - 1 + 1 = ps.length by omega, ← nd_zero ps ns] at HI
          go_wp2_with fail
          clear e1
          go_loopw [28] (fun i wr => ∃ j : Nat, j ≤ ns.length ∧ i = .int .i64 j ∧ Lib.IsBuilder 45 5 w1.heap.size w1.heap.size (Lib.byteCells (ndTo ps ns j)) wr ∧ Below w1.heap.size w1 wr) (fun i _ => ns.length - (intOf i).toNat)
          case atStart => exact ⟨0, Nat.zero_le _, rfl, HI.out, HB.out⟩
          case round =>
            obtain ⟨j, hj, rfl, hbl, hb⟩ := hrel
            have HI2 : Hid (Lib.IsBuilder 45 5 w1.heap.size w1.heap.size (Lib.byteCells (ndTo ps ns j)) wr) := hbl
            have HB2 : Hid (Below w1.heap.size w1 wr) := hb
            clear hbl hb HI HB
            by_cases hlt2 : j < ns.length
            · have hj0 : (0 : Int) ≤ (j : Int) := by omega
              have hj1 : (j : Int) < (ns.length : Int) := by omega
              obtain ⟨p2, ep, c0, c1, c2, c3⟩ := (HN1.out.below HB2.out).node j hlt2
              cases ep
              have HX : Hid (ns[j]? = some ns[j]) := List.getElem?_eq_getElem hlt2
              generalize ns[j] = n at c0 c1 c2 c3 HX
              have l1 := numL_len n.l
              have l2 := vt_len n.a n.b n.c
              have l3 := ndL_len n
              have l4 := nd_len ps ns j hpf hnf
              go_wp2_with fail
              have HQ3 : Hid (Row (wr.alloc (.cells #[.int .i64 n.l, .int .i64 n.a, .int .i64 n.b, .int .i64 n.c] 55)) wr.heap.size [.int .i64 n.l, .int .i64 n.a, .int .i64 n.b, .int .i64 n.c]) := row_fresh wr [.int .i64 n.l, .int .i64 n.a, .int .i64 n.b, .int .i64 n.c] 55
              have HB3 : Hid (Below w1.heap.size w1 (wr.alloc (.cells #[.int .i64 n.l, .int .i64 n.a, .int .i64 n.b, .int .i64 n.c] 55))) := behind_alloc HB2.out _
              have HI3 : Hid (Lib.IsBuilder 45 5 w1.heap.size w1.heap.size (Lib.byteCells (ndTo ps ns j)) (wr.alloc (.cells #[.int .i64 n.l, .int .i64 n.a, .int .i64 n.b, .int .i64 n.c] 55))) := isBuilder_below HI2.out (low_alloc _ _)
              generalize wr.alloc (.cells #[.int .i64 n.l, .int .i64 n.a, .int .i64 n.b, .int .i64 n.c] 55) = w3 at HQ3 HB3 HI3
              generalize wr.heap.size = q at *
              clear c0 c1 c2 c3 HB2 HI2
              have HD : Hid (Below w3.heap.size w3 w3.drew) := ⟨rfl, rfl, rfl, Nat.le_refl _, fun _ _ => rfl⟩
              have HNum : Hid (Calls Tryd.prog 18 #[.int .i64 n.l] w3.drew fun e w' => e = .returned (.string ⟨(numL n.l).toArray⟩) ∧ Below w3.drew.heap.size w3.drew w') := implNumText_c n.l w3.drew (HT1.out.on (below_then HB3.out HD.out))
              have HVec : Hid (∀ W, Below w3.heap.size w3 W → Calls Tryd.prog 19 #[.agg #[.int .i64 n.a, .int .i64 n.b, .int .i64 n.c]] W fun e w' => e = .returned (.string ⟨(vtL n.a n.b n.c).toArray⟩) ∧ Below W.heap.size W w') := fun W hW => implVecText_all n.a n.b n.c W (HT1.out.on (below_then HB3.out hW))
              have HL : Hid ((Lib.join (List.map (fun (x : ByteArray) => x.data.toList) [⟨#[110, 111, 100, 101]⟩, ⟨(numL n.l).toArray⟩, ⟨(vtL n.a n.b n.c).toArray⟩]) [32] ++ [10]) = ndL n) := by show _ = _; simp [Lib.join, ndL]
              have q0 := HQ3.out.cell 0 _ rfl
              have q1 := HQ3.out.cell 1 _ rfl
              have q2 := HQ3.out.cell 2 _ rfl
              have q3 := HQ3.out.cell 3 _ rfl
              go_region_with (first
                | (go_at_call 18; refine HNum.out.mono ?_; rintro e w4 ⟨rfl, hb4⟩; have HB4 : Hid (Below w3.heap.size w3 w4) := below_then HD.out hb4; have r1 := (HQ3.out.below HB4.out).cell 1 _ rfl; have r2 := (HQ3.out.below HB4.out).cell 2 _ rfl; have r3 := (HQ3.out.below HB4.out).cell 3 _ rfl; clear hb4)
                | (go_at_call 19; refine (HVec.out w4 HB4.out).mono ?_; rintro e w5 ⟨rfl, hb5⟩; have HB5 : Hid (Below w3.heap.size w3 w5) := below_then HB4.out hb5; have HR6 : Hid (Row (w5.alloc (.cells #[.string ⟨#[110, 111, 100, 101]⟩, .string ⟨(numL n.l).toArray⟩, .string ⟨(vtL n.a n.b n.c).toArray⟩] 9)) w5.heap.size [.string ⟨#[110, 111, 100, 101]⟩, .string ⟨(numL n.l).toArray⟩, .string ⟨(vtL n.a n.b n.c).toArray⟩]) := row_fresh w5 [.string ⟨#[110, 111, 100, 101]⟩, .string ⟨(numL n.l).toArray⟩, .string ⟨(vtL n.a n.b n.c).toArray⟩] 9; clear hb5)
                | (go_at_call 17; refine (line_c w5.heap.size 3 [⟨#[110, 111, 100, 101]⟩, ⟨(numL n.l).toArray⟩, ⟨(vtL n.a n.b n.c).toArray⟩] (w5.alloc (.cells #[.string ⟨#[110, 111, 100, 101]⟩, .string ⟨(numL n.l).toArray⟩, .string ⟨(vtL n.a n.b n.c).toArray⟩] 9)) (fun i y hy => HR6.out.cell i _ (by match i, hy with | 0, hy => simp at hy; subst hy; rfl | 1, hy => simp at hy; subst hy; rfl | 2, hy => simp at hy; subst hy; rfl)) HR6.out.lt (by simp) (by simp) (by simp [Lib.join]; omega)).mono ?_; rintro e w6 ⟨rfl, hb6⟩; rw [HL.out]; have HB6 : Hid (Below w3.heap.size w3 w6) := below_then (behind_alloc HB5.out _) hb6; clear hb6)
                | (go_at_call 16; refine (builderWrite w1.heap.size w1.heap.size _ ⟨(ndL n).toArray⟩ w6 (isBuilder_below HI3.out HB6.out) (by rw [Lib.byteCells_length]; show _ + (ndL n).toArray.size ≤ _; simp; omega) (Nat.le_trans HB3.out.size HB6.out.size)).mono ?_; rintro e w7 ⟨rfl, hbt, hb7⟩; have HI7 : Hid (Lib.IsBuilder 45 5 w1.heap.size w1.heap.size (Lib.byteCells (ndTo ps ns (j + 1))) w7) := .inr (by rw [nd_step ps ns j n HX.out]; simpa [Lib.byteCells, Lib.strCells] using hbt); have HB7 : Hid (Below w1.heap.size w1 w7) := (below_then HB3.out HB6.out).trans hb7; clear hbt hb7))
              all_goals
                clear q0 q1 q2 q3 r1 r2 r3 HNum HVec HL
                go_wp2_with fail
                go_roundw
                case rel => exact ⟨j + 1, by omega, by go_num, HI7.out, HB7.out⟩
                case measure => simp [intOf]; omega
            · obtain rfl : j = ns.length := by omega
              have HS : Hid (Calls Tryd.prog 20 #[.pointer (some ⟨w1.heap.size, 0, none⟩)] wr fun e w' => e = .returned (.string ⟨(ndTo ps ns ns.length).toArray⟩) ∧ Below w1.heap.size wr w') := Tryd.Builder_String_any w1.heap.size w1.heap.size (ndTo ps ns ns.length) wr HI2.out HB2.out.size
              go_wp2_with fail
              refine HS.out.mono ?_
              rintro e w3 ⟨rfl, hb3⟩
              have HB3 : Hid (Below w.heap.size w w3) := below_then (below_then HV.out HB1.out) (HB2.out.trans hb3)
              clear hb3 HS
              go_wp2_with fail
              go_ret
              exact ⟨by rw [HN.out]; rfl, HB3.out⟩
    · have HP : Hid (Sq w1 (some ⟨p.block, p.off + 1, none⟩) (ints (ps.drop 1))) := ⟨fun i u hu => by
        have hi := (List.getElem?_eq_some_iff.1 hu).1
        rw [ints_len] at hi
        obtain ⟨v, hv, e⟩ := HPd.out i hi
        rw [ints_at _ i hi] at hu
        refine ⟨_, rfl, ?_, by rw [hv, e, ← Option.some.inj hu]⟩
        have := World.block_lt_of_cell? _ _ hv
        rwa [block_add] at this⟩
      generalize (⟨p.block, p.off + 1, none⟩ : Addr) = p13 at HP
      clear HPd
      have HI0 : Hid (Lib.IsBuilder 45 5 w1.heap.size w1.heap.size (Lib.byteCells (swTo ps 1)) (w1.alloc (.cells #[.pointer none, .slice none 0 0] 45))) := by rw [sw_one]; exact Lib.fresh_isBuilder _ _ _
      have HB0 : Hid (Below w1.heap.size w1 (w1.alloc (.cells #[.pointer none, .slice none 0 0] 45))) := low_alloc _ _
      clear t0
      go_loopw [15] (fun i wr => ∃ k : Nat, k ≤ ps.length - 1 ∧ i = .int .i64 k ∧ Lib.IsBuilder 45 5 w1.heap.size w1.heap.size (Lib.byteCells (swTo ps (k + 1))) wr ∧ Below w1.heap.size w1 wr) (fun i _ => ps.length - 1 - (intOf i).toNat)
      case atStart => exact ⟨0, Nat.zero_le _, rfl, HI0.out, HB0.out⟩
      case round =>
        obtain ⟨k, hk, rfl, hbl, hb⟩ := hrel
        have HI : Hid (Lib.IsBuilder 45 5 w1.heap.size w1.heap.size (Lib.byteCells (swTo ps (k + 1))) wr) := hbl
        have HB : Hid (Below w1.heap.size w1 wr) := hb
        have e1 := (HA1.out.below hb).cell 1 _ rfl
        clear hbl hb HI0 HB0
        by_cases hlt : k < ps.length - 1
        · have hj0 : (0 : Int) ≤ (k : Int) := by omega
          have hj1 : (k : Int) < ((ps.length - 1 : Nat) : Int) := by omega
          obtain ⟨p14, ep, _, hc⟩ := (HP.out.below HB.out).cell k _ (ints_at (ps.drop 1) k (by omega))
          cases ep
          have HX : Hid (ps[k + 1]? = some (ps.drop 1)[k]) := by
            show _ = _
            rw [List.getElem_drop, List.getElem?_eq_getElem (by omega)]
            congr 2
            omega
          generalize (ps.drop 1)[k] = x at hc HX
          have HNum : Hid (Calls Tryd.prog 18 #[.int .i64 x] wr fun e w' => e = .returned (.string ⟨(numL x).toArray⟩) ∧ Below wr.heap.size wr w') := implNumText_c x wr (HT1.out.on HB.out)
          have hxl := numL_len x
          go_wp2_with fail
          refine HNum.out.mono ?_
          rintro e w2 ⟨rfl, hb2⟩
          have HB2 : Hid (Below wr.heap.size wr w2) := hb2
          clear hb2 HNum e1
          go_wp2_with fail
          have HR3 : Hid (Row (w2.alloc (.cells #[.string ⟨#[115, 119, 105, 116, 99, 104]⟩, .string ⟨(numL x).toArray⟩] 9)) w2.heap.size [.string ⟨#[115, 119, 105, 116, 99, 104]⟩, .string ⟨(numL x).toArray⟩]) := row_fresh w2 [.string ⟨#[115, 119, 105, 116, 99, 104]⟩, .string ⟨(numL x).toArray⟩] 9
          refine (line_c w2.heap.size 2 [⟨#[115, 119, 105, 116, 99, 104]⟩, ⟨(numL x).toArray⟩] _ (fun j y hy => HR3.out.cell j _ (by match j, hy with | 0, hy => simp at hy; subst hy; rfl | 1, hy => simp at hy; subst hy; rfl)) HR3.out.lt (by simp) (by simp) (by simp [Lib.join]; omega)).mono ?_
          rintro e w4 ⟨rfl, hb4⟩
          have HB4 : Hid (Below wr.heap.size wr w4) := below_then (behind_alloc HB2.out _) hb4
          have HI4 : Hid (Lib.IsBuilder 45 5 w1.heap.size w1.heap.size (Lib.byteCells (swTo ps (k + 1))) w4) := isBuilder_below HI.out HB4.out
          have HL : Hid ((Lib.join (List.map (fun (x : ByteArray) => x.data.toList) [⟨#[115, 119, 105, 116, 99, 104]⟩, ⟨(numL x).toArray⟩]) [32] ++ [10]) = swL x) := by show _ = _; simp [Lib.join, swL]
          rw [HL.out]
          have hsl := swL_len x
          have hstl := sw_len ps (k + 1) hpf
          have HW : Hid (Calls Tryd.prog 16 #[.pointer (some ⟨w1.heap.size, 0, none⟩), .string ⟨(swL x).toArray⟩] w4 fun e w' => e = .returned (.tuple #[.int .i64 (⟨(swL x).toArray⟩ : ByteArray).size, .nilIface]) ∧ Lib.IsBuilder 45 5 w1.heap.size w1.heap.size (Lib.byteCells (swTo ps (k + 1 + 1))) w' ∧ Below w1.heap.size w4 w') :=
            (builderWrite w1.heap.size w1.heap.size _ ⟨(swL x).toArray⟩ w4 HI4.out (by rw [Lib.byteCells_length]; show _ + (swL x).toArray.size ≤ _; simp; omega) (Nat.le_trans HB.out.size HB4.out.size)).mono fun e w' ⟨he, hbt, hbb⟩ => ⟨he, .inr (by rw [sw_step ps (k + 1) (by omega) x HX.out]; simpa [Lib.byteCells, Lib.strCells] using hbt), hbb⟩
          clear hb4 HR3 HL HI4 HB2
          generalize (⟨(swL x).toArray⟩ : ByteArray) = s4 at *
          go_wp2_with fail
          refine HW.out.mono ?_
          rintro e w5 ⟨rfl, hi5, hb5⟩
          have HI5 : Hid (Lib.IsBuilder 45 5 w1.heap.size w1.heap.size (Lib.byteCells (swTo ps (k + 1 + 1))) w5) := hi5
          have HB5 : Hid (Below w1.heap.size w1 w5) := (below_then HB.out HB4.out).trans hb5
          clear hi5 hb5 HW
          go_wp2_with fail
          go_roundw
          case rel => exact ⟨k + 1, by omega, by go_num, HI5.out, HB5.out⟩
          case measure => simp [intOf]; omega
        · obtain rfl : k = ps.length - 1 := by omega
          rw [show ps.length - 1 + 1 = ps.length by omega, ← nd_zero ps ns] at HI
          go_wp2_with fail
          clear e1
          go_loopw [28] (fun i wr => ∃ j : Nat, j ≤ ns.length ∧ i = .int .i64 j ∧ Lib.IsBuilder 45 5 w1.heap.size w1.heap.size (Lib.byteCells (ndTo ps ns j)) wr ∧ Below w1.heap.size w1 wr) (fun i _ => ns.length - (intOf i).toNat)
          case atStart => exact ⟨0, Nat.zero_le _, rfl, HI.out, HB.out⟩
          case round =>
            obtain ⟨j, hj, rfl, hbl, hb⟩ := hrel
            have HI2 : Hid (Lib.IsBuilder 45 5 w1.heap.size w1.heap.size (Lib.byteCells (ndTo ps ns j)) wr) := hbl
            have HB2 : Hid (Below w1.heap.size w1 wr) := hb
            clear hbl hb HI HB
            by_cases hlt2 : j < ns.length
            · have hj0 : (0 : Int) ≤ (j : Int) := by omega
              have hj1 : (j : Int) < (ns.length : Int) := by omega
              obtain ⟨p2, ep, c0, c1, c2, c3⟩ := (HN1.out.below HB2.out).node j hlt2
              cases ep
              have HX : Hid (ns[j]? = some ns[j]) := List.getElem?_eq_getElem hlt2
              generalize ns[j] = n at c0 c1 c2 c3 HX
              have l1 := numL_len n.l
              have l2 := vt_len n.a n.b n.c
              have l3 := ndL_len n
              have l4 := nd_len ps ns j hpf hnf
              go_wp2_with fail
              have HQ3 : Hid (Row (wr.alloc (.cells #[.int .i64 n.l, .int .i64 n.a, .int .i64 n.b, .int .i64 n.c] 55)) wr.heap.size [.int .i64 n.l, .int .i64 n.a, .int .i64 n.b, .int .i64 n.c]) := row_fresh wr [.int .i64 n.l, .int .i64 n.a, .int .i64 n.b, .int .i64 n.c] 55
              have HB3 : Hid (Below w1.heap.size w1 (wr.alloc (.cells #[.int .i64 n.l, .int .i64 n.a, .int .i64 n.b, .int .i64 n.c] 55))) := behind_alloc HB2.out _
              have HI3 : Hid (Lib.IsBuilder 45 5 w1.heap.size w1.heap.size (Lib.byteCells (ndTo ps ns j)) (wr.alloc (.cells #[.int .i64 n.l, .int .i64 n.a, .int .i64 n.b, .int .i64 n.c] 55))) := isBuilder_below HI2.out (low_alloc _ _)
              generalize wr.alloc (.cells #[.int .i64 n.l, .int .i64 n.a, .int .i64 n.b, .int .i64 n.c] 55) = w3 at HQ3 HB3 HI3
              generalize wr.heap.size = q at *
              clear c0 c1 c2 c3 HB2 HI2
              have HD : Hid (Below w3.heap.size w3 w3.drew) := ⟨rfl, rfl, rfl, Nat.le_refl _, fun _ _ => rfl⟩
              have HNum : Hid (Calls Tryd.prog 18 #[.int .i64 n.l] w3.drew fun e w' => e = .returned (.string ⟨(numL n.l).toArray⟩) ∧ Below w3.drew.heap.size w3.drew w') := implNumText_c n.l w3.drew (HT1.out.on (below_then HB3.out HD.out))
              have HVec : Hid (∀ W, Below w3.heap.size w3 W → Calls Tryd.prog 19 #[.agg #[.int .i64 n.a, .int .i64 n.b, .int .i64 n.c]] W fun e w' => e = .returned (.string ⟨(vtL n.a n.b n.c).toArray⟩) ∧ Below W.heap.size W w') := fun W hW => implVecText_all n.a n.b n.c W (HT1.out.on (below_then HB3.out hW))
              have HL : Hid ((Lib.join (List.map (fun (x : ByteArray) => x.data.toList) [⟨#[110, 111, 100, 101]⟩, ⟨(numL n.l).toArray⟩, ⟨(vtL n.a n.b n.c).toArray⟩]) [32] ++ [10]) = ndL n) := by show _ = _; simp [Lib.join, ndL]
              have q0 := HQ3.out.cell 0 _ rfl
              have q1 := HQ3.out.cell 1 _ rfl
              have q2 := HQ3.out.cell 2 _ rfl
              have q3 := HQ3.out.cell 3 _ rfl
              go_region_with (first
                | (go_at_call 18; refine HNum.out.mono ?_; rintro e w4 ⟨rfl, hb4⟩; have HB4 : Hid (Below w3.heap.size w3 w4) := below_then HD.out hb4; have r1 := (HQ3.out.below HB4.out).cell 1 _ rfl; have r2 := (HQ3.out.below HB4.out).cell 2 _ rfl; have r3 := (HQ3.out.below HB4.out).cell 3 _ rfl; clear hb4)
                | (go_at_call 19; refine (HVec.out w4 HB4.out).mono ?_; rintro e w5 ⟨rfl, hb5⟩; have HB5 : Hid (Below w3.heap.size w3 w5) := below_then HB4.out hb5; have HR6 : Hid (Row (w5.alloc (.cells #[.string ⟨#[110, 111, 100, 101]⟩, .string ⟨(numL n.l).toArray⟩, .string ⟨(vtL n.a n.b n.c).toArray⟩] 9)) w5.heap.size [.string ⟨#[110, 111, 100, 101]⟩, .string ⟨(numL n.l).toArray⟩, .string ⟨(vtL n.a n.b n.c).toArray⟩]) := row_fresh w5 [.string ⟨#[110, 111, 100, 101]⟩, .string ⟨(numL n.l).toArray⟩, .string ⟨(vtL n.a n.b n.c).toArray⟩] 9; clear hb5)
                | (go_at_call 17; refine (line_c w5.heap.size 3 [⟨#[110, 111, 100, 101]⟩, ⟨(numL n.l).toArray⟩, ⟨(vtL n.a n.b n.c).toArray⟩] (w5.alloc (.cells #[.string ⟨#[110, 111, 100, 101]⟩, .string ⟨(numL n.l).toArray⟩, .string ⟨(vtL n.a n.b n.c).toArray⟩] 9)) (fun i y hy => HR6.out.cell i _ (by match i, hy with | 0, hy => simp at hy; subst hy; rfl | 1, hy => simp at hy; subst hy; rfl | 2, hy => simp at hy; subst hy; rfl)) HR6.out.lt (by simp) (by simp) (by simp [Lib.join]; omega)).mono ?_; rintro e w6 ⟨rfl, hb6⟩; rw [HL.out]; have HB6 : Hid (Below w3.heap.size w3 w6) := below_then (behind_alloc HB5.out _) hb6; clear hb6)
                | (go_at_call 16; refine (builderWrite w1.heap.size w1.heap.size _ ⟨(ndL n).toArray⟩ w6 (isBuilder_below HI3.out HB6.out) (by rw [Lib.byteCells_length]; show _ + (ndL n).toArray.size ≤ _; simp; omega) (Nat.le_trans HB3.out.size HB6.out.size)).mono ?_; rintro e w7 ⟨rfl, hbt, hb7⟩; have HI7 : Hid (Lib.IsBuilder 45 5 w1.heap.size w1.heap.size (Lib.byteCells (ndTo ps ns (j + 1))) w7) := .inr (by rw [nd_step ps ns j n HX.out]; simpa [Lib.byteCells, Lib.strCells] using hbt); have HB7 : Hid (Below w1.heap.size w1 w7) := (below_then HB3.out HB6.out).trans hb7; clear hbt hb7))
              all_goals
                clear q0 q1 q2 q3 r1 r2 r3 HNum HVec HL
                go_wp2_with fail
                go_roundw
                case rel => exact ⟨j + 1, by omega, by go_num, HI7.out, HB7.out⟩
                case measure => simp [intOf]; omega
            · obtain rfl : j = ns.length := by omega
              have HS : Hid (Calls Tryd.prog 20 #[.pointer (some ⟨w1.heap.size, 0, none⟩)] wr fun e w' => e = .returned (.string ⟨(ndTo ps ns ns.length).toArray⟩) ∧ Below w1.heap.size wr w') := Tryd.Builder_String_any w1.heap.size w1.heap.size (ndTo ps ns ns.length) wr HI2.out HB2.out.size
              go_wp2_with fail
              refine HS.out.mono ?_
              rintro e w3 ⟨rfl, hb3⟩
              have HB3 : Hid (Below w.heap.size w w3) := below_then (below_then HV.out HB1.out) (HB2.out.trans hb3)
              clear hb3 HS
              go_wp2_with fail
              go_ret
              exact ⟨by rw [HN.out]; rfl, HB3.out⟩
end Go.Proofs.YtljclchjdckgpaaDoor
