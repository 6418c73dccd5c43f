/- The nodes below a switch, by the specification. -/
import Derived.Test.YtmpjebkjopfejaaGreatMgRb
import Derived.Test.YtmpjebkjopfejaaGreatMgRa
namespace Go.Proofs.YtmpjebkjopfejaaGreat
open Go.ChangeShapes Go.WideShapes Go.ChangeAt Go.RowKit

theorem infoProf : (Tryz.prog.info? 44).map (fun i => (i.zero, i.size, i.bytes)) = some (some (.agg #[.slice none 0 0]), 1, 24) := by kernel_rfl
/-- 'make([]impl.Prof, n)'. -/
theorem make_profs (n : Nat) (hn : n ≤ 1048576) : ∃ Z : List Value, Z.length = n ∧ ∀ w : World, (Instr.makeSlice 41 (.int .i64 (n : Int)) (.int .i64 (n : Int))).run Tryz.prog w = .ok (.slice (some ⟨w.heap.size, 0, none⟩) n n) (w.alloc (.cells Z.toArray 44)) := by
  obtain ⟨i0, hi, hz0, hz1, hz2⟩ := info_parts infoProf
  refine ⟨(madeCells (Value.agg #[.slice none 0 0]).cells (n * i0.size)).toList, ?_, fun w => ?_⟩
  · rw [hz1]
    simp [madeCells, Value.cells]
  · have h := run_make (P := Tryz.prog) (w := w) 41 44 i0 (.agg #[.slice none 0 0]) Tryz.underlying41 hi hz0 .i64 .i64 (n : Int) (n : Int) (by omega) (Int.le_refl _) (by rw [hz2]; omega) (by omega)
    simpa using h

/-- How far the copying has come. -/
structure CopP (w : World) (g : Nat) (pss : List (List Nd)) (hs : List Nat) (ys : List Value) : Prop where
  len : ys.length = pss.length
  le : hs.length ≤ pss.length
  row : Row w g ys
  top : ∀ (i h : Nat) ns, hs[i]? = some h → pss[i]? = some ns → ys[i]? = some (.slice (some ⟨h, 0, none⟩) ns.length ns.length)
  each : ∀ (i h : Nat) ns, hs[i]? = some h → pss[i]? = some ns → Row w h (flat ns)
  rise : List.Pairwise (· < ·) (g :: hs)
  low : ∀ h ∈ hs, h < w.heap.size

theorem CopP.below {w w' : World} {g : Nat} {pss : List (List Nd)} {hs : List Nat} {ys : List Value} (h : CopP w g pss hs ys) (hb : Below w.heap.size w w') : CopP w' g pss hs ys :=
  ⟨h.len, h.le, h.row.below hb, h.top, fun i x ns h1 h2 => (h.each i x ns h1 h2).below hb, h.rise, fun x hx => Nat.lt_of_lt_of_le (h.low x hx) hb.size⟩

theorem CopP.next {w : World} {g x : Nat} {pss : List (List Nd)} {hs : List Nat} {ys : List Value} {ns : List Nd} (h : CopP w g pss hs ys) (hn : pss[hs.length]? = some ns) (hr : Row w x (flat ns)) (hx : ∀ y ∈ hs, y < x) (hg : g < x) :
    CopP (w.setCell ⟨g, hs.length, none⟩ (.slice (some ⟨x, 0, none⟩) ns.length ns.length)) g pss (hs ++ [x]) (ys.set hs.length (.slice (some ⟨x, 0, none⟩) ns.length ns.length)) := by
  have hl := (List.getElem?_eq_some_iff.1 hn).1
  have hgs : ∀ y ∈ hs, g < y := (List.pairwise_cons.1 h.rise).1
  have hcase : ∀ (i y : Nat), (hs ++ [x])[i]? = some y → (hs[i]? = some y ∧ i < hs.length) ∨ (i = hs.length ∧ y = x) := fun i y hy => by
    by_cases hi : i < hs.length
    · rw [List.getElem?_append_left hi] at hy
      exact .inl ⟨hy, hi⟩
    · have hil := (List.getElem?_eq_some_iff.1 hy).1
      simp at hil
      have e : i = hs.length := by omega
      subst e
      rw [List.getElem?_append_right (Nat.le_refl _)] at hy
      simp at hy
      exact .inr ⟨rfl, hy.symm⟩
  refine ⟨by rw [List.length_set]; exact h.len, by simp; omega, h.row.set _ (by rw [h.len]; exact hl) _, fun i y ms hy hm => ?_, fun i y ms hy hm => ?_, ?_, fun y hy => ?_⟩
  · rcases hcase i y hy with ⟨h1, hi⟩ | ⟨rfl, rfl⟩
    · rw [List.getElem?_set_ne (by omega)]
      exact h.top i y ms h1 hm
    · rw [hn] at hm
      cases hm
      rw [List.getElem?_set_self (by rw [h.len]; exact hl)]
  · rcases hcase i y hy with ⟨h1, hi⟩ | ⟨rfl, rfl⟩
    · exact (h.each i y ms h1 hm).apart g _ _ (by have := hgs y (List.mem_of_getElem? h1); omega)
    · rw [hn] at hm
      cases hm
      exact hr.apart g _ _ (by omega)
  · rw [← List.cons_append, List.pairwise_append]
    refine ⟨h.rise, by simp, fun u hu y hy => ?_⟩
    obtain rfl := List.mem_singleton.1 hy
    rcases List.mem_cons.1 hu with rfl | hu
    · exact hg
    · exact hx u hu
  · rw [World.size_setCell]
    rcases List.mem_append.1 hy with hy | hy
    · exact h.low y hy
    · obtain rfl := List.mem_singleton.1 hy
      exact hr.lt

theorem CopP.done {w : World} {g : Nat} {pss : List (List Nd)} {hs : List Nat} {ys : List Value} (h : CopP w g pss hs ys) (hl : hs.length = pss.length) : OPs w g pss hs := by
  refine ⟨hl, ?_, h.each, h.rise⟩
  have e : ys = List.zipWith (fun h (ns : List Nd) => Value.slice (some ⟨h, 0, none⟩) ns.length ns.length) hs pss := by
    apply List.ext_getElem?
    intro i
    by_cases hi : i < pss.length
    · have h1 : hs[i]? = some hs[i] := List.getElem?_eq_getElem (by omega)
      have h2 : pss[i]? = some pss[i] := List.getElem?_eq_getElem hi
      rw [h.top i _ _ h1 h2, List.getElem?_zipWith, h1, h2]
    · rw [List.getElem?_eq_none (by rw [h.len]; omega), List.getElem?_eq_none (by simp; omega)]
  rw [← e]
  exact h.row

set_option maxHeartbeats 2000000 in
theorem toProfS_c (a : Option Addr) (cap : Nat) (pss : List (List Nd)) (hl : pss.length ≤ 1048576) (hl2 : ∀ ns ∈ pss, ns.length ≤ 1048576) (w : World) (h : PVs w a pss) :
    Calls Tryz.prog 28 #[.slice a pss.length cap] w fun e w' =>
      ∃ g hs, e = .returned (.slice (some ⟨g, 0, none⟩) pss.length pss.length) ∧ w.heap.size ≤ g ∧ OPs w' g pss hs ∧ Below w.heap.size w w' := by
  have H : Hid (PVs w a pss) := h
  have HL : Hid (∀ ns ∈ pss, ns.length ≤ 1048576) := hl2
  clear h hl2
  obtain ⟨Z, hZ, hmk⟩ := make_profs pss.length hl
  go_enter Tryz.func28, Tryz.ntmps28
  go_wp2_with fail
  go_loopw [4] (fun i wr => ∃ (hs : List Nat) (ys : List Value), i = .int .i64 (hs.length : Int) ∧ CopP wr w.heap.size pss hs ys ∧ Below w.heap.size w wr) (fun i _ => pss.length - (intOf i).toNat)
  case atStart => exact ⟨[], Z, rfl, ⟨hZ, Nat.zero_le _, row_fresh w Z 44, fun i h ns h1 => by simp at h1, fun i h ns h1 => by simp at h1, by simp, fun h hh => by simp at hh⟩, by go_grown⟩
  case round =>
    obtain ⟨hs, ys, rfl, hcp, hb⟩ := hrel
    have HP : Hid (CopP wr w.heap.size pss hs ys) := hcp
    have HB : Hid (Below w.heap.size w wr) := hb
    have hle := hcp.le
    clear hcp hb hmk hZ
    generalize hjj : hs.length = j at *
    have HJ : Hid (hs.length = j) := hjj
    clear hjj
    by_cases hlt : j < pss.length
    · have hi0 : (0 : Int) ≤ (j : Int) := by omega
      have hi1 : (j : Int) < (pss.length : Int) := by omega
      have HE : Hid (pss[j]? = some pss[j]) := List.getElem?_eq_getElem hlt
      have hnl := HL.out pss[j] (List.getElem_mem hlt)
      generalize pss[j] = ns at HE hnl
      obtain ⟨p, q, c, rfl, hpl, hc, hsq⟩ := (H.out.below HB.out).here j ns HE.out
      have HQ : Hid (Sq wr q (flat ns)) := hsq
      clear hsq
      go_wp2_with fail
      refine (toProf_c q c ns hnl _ HQ.out).mono ?_
      rintro e w1 ⟨x, rfl, hx, hr, hb⟩
      have HP1 : Hid (CopP w1 w.heap.size pss hs ys) := HP.out.below hb
      have HB1 : Hid (Below w.heap.size w w1) := below_then HB.out hb
      have HX1 : Hid (Row w1 x (flat ns)) := hr
      have hbs : w.heap.size < x := by have := HP.out.row.lt; omega
      have Hlow : Hid (∀ y ∈ hs, y < x) := fun y hy => by have := HP.out.low y hy; omega
      have hy : j < ys.length := by rw [HP1.out.len]; exact hlt
      have d0 := HP1.out.row.cell j _ (List.getElem?_eq_getElem hy)
      have f0 := HP1.out.row.free j
      have HN : Hid (CopP (w1.setCell ⟨w.heap.size, j, none⟩ (.slice (some ⟨x, 0, none⟩) ns.length ns.length)) w.heap.size pss (hs ++ [x]) (ys.set j (.slice (some ⟨x, 0, none⟩) ns.length ns.length))) := by
        have hn := HP1.out.next (ns := ns) (x := x) (by rw [HJ.out]; exact HE.out) HX1.out Hlow.out hbs
        rw [HJ.out] at hn
        exact hn
      have HD : Hid (Below w.heap.size w (w1.setCell ⟨w.heap.size, j, none⟩ (.slice (some ⟨x, 0, none⟩) ns.length ns.length))) := HB1.out.setCell (Nat.le_refl _) _
      generalize ys[j] = u at d0
      clear hb hr hc
      go_wp2_with fail
      exact ⟨⟨hs ++ [x], _, by simp [HJ.out], HN.out, HD.out⟩, by simp [intOf]; omega⟩
    · have HO : Hid (OPs wr w.heap.size pss hs) := HP.out.done (by have := HJ.out; omega)
      go_wp2_with fail
      go_ret
      exact ⟨_, hs, rfl, Nat.le_refl _, HO.out, HB.out⟩

set_option maxHeartbeats 2000000 in
theorem eqProfS_c (a b : Option Addr) (c d : Nat) (pss : List (List Nd)) (hl : pss.length ≤ 1048576) (hl2 : ∀ ns ∈ pss, ns.length ≤ 1048576) (w : World) (h : PVs w a pss) (h' : PVs w b pss) :
    Calls Tryz.prog 35 #[.slice a pss.length c, .slice b pss.length d] w fun e w' => e = .returned (.bool true) ∧ Below w.heap.size w w' := by
  have H : Hid (PVs w a pss) := h
  have H' : Hid (PVs w b pss) := h'
  have HL : Hid (∀ ns ∈ pss, ns.length ≤ 1048576) := hl2
  clear h h' hl2
  go_enter Tryz.func35, Tryz.ntmps35
  go_wp2_with fail
  go_loopw [5] (fun i wr => ∃ j : Nat, j ≤ pss.length ∧ i = .int .i64 j ∧ Below w.heap.size w wr) (fun i _ => pss.length - (intOf i).toNat)
  case atStart => exact ⟨0, Nat.zero_le _, rfl, Below.refl _ _⟩
  case round =>
    obtain ⟨j, hj, rfl, hb⟩ := hrel
    have HB : Hid (Below w.heap.size w wr) := hb
    clear hb
    by_cases hlt : j < pss.length
    · have hi0 : (0 : Int) ≤ (j : Int) := by omega
      have hi1 : (j : Int) < (pss.length : Int) := by omega
      have HE : Hid (pss[j]? = some pss[j]) := List.getElem?_eq_getElem hlt
      have hnl := HL.out pss[j] (List.getElem_mem hlt)
      generalize pss[j] = ns at HE hnl
      obtain ⟨p, q, c1, rfl, hpl, hc, hsq⟩ := (H.out.below HB.out).here j ns HE.out
      obtain ⟨p', q', c1', rfl, hpl', hc', hsq'⟩ := (H'.out.below HB.out).here j ns HE.out
      have HQ : Hid (Sq wr q (flat ns)) := hsq
      have HQ' : Hid (Sq wr q' (flat ns)) := hsq'
      clear hsq hsq'
      go_wp2_with fail
      have HC : Hid (∀ N : Beh wr, Calls Tryz.prog 36 #[.agg #[.slice q ns.length c1], .agg #[.slice q' ns.length c1']] N.w fun e w' => e = .returned (.bool true) ∧ Below N.w.heap.size N.w w') := fun N => by
        have h := eqProf_c q q' c1 c1' ns ns hnl N.w (HQ.out.below N.low) (HQ'.out.below N.low)
        rw [decide_eq_true rfl] at h
        exact h
      have hsome := beh_some wr
      have k1 := Beh.cell hc
      have k2 := Beh.cell hc'
      refine wp_region_beh (by kernel_rfl) (by kernel_rfl) ?_
      repeat (go_big_quiet_step (with_reducible exact calls_beh (HC.out _)))
      refine wpQuiet_nil ?_
      rintro ⟨w1, hb⟩
      have HB1 : Hid (Below w.heap.size w w1) := below_then HB.out hb
      clear hc hc' k1 k2 hsome
      go_wp2_with fail
      exact ⟨⟨j + 1, by omega, by go_num, HB1.out⟩, by simp [intOf]; omega⟩
    · go_wp2_with fail
      go_ret
      exact ⟨rfl, HB.out⟩
end Go.Proofs.YtmpjebkjopfejaaGreat

namespace Go.Proofs.YtmpjebkjopfejaaGreat
open Go.ChangeShapes Go.WideShapes Go.ChangeAt Go.RowKit

/-- What is left of a count behind rows of profiles. -/
def szQ : List Nat → Int → Int
  | [], left => left
  | n :: r, left => if szP n left < 0 then -1 else szQ r (szP n left)
theorem szQ_le : ∀ (l : List Nat) (left : Int), 0 ≤ left → left ≤ 1048576 → szQ l left ≤ 1048576 ∧ -1 ≤ szQ l left
  | [], left, h0, h1 => by simp [szQ]; omega
  | n :: r, left, h0, h1 => by
    rw [szQ]
    split
    · omega
    · rename_i h
      obtain ⟨_, h2, h3⟩ := szp_yes h1 h
      exact szQ_le r _ h2 h3
theorem szQ_yes : ∀ (l : List Nat) (left : Int), 0 ≤ left → left ≤ 1048576 → ¬ szQ l left < 0 → (∀ n ∈ l, n ≤ 1048576) ∧ (l.sum : Int) + szQ l left = left
  | [], left, _, _, _ => by simp [szQ]
  | n :: r, left, h0, h1, h => by
    rw [szQ] at h ⊢
    split at h
    · omega
    · rename_i hz
      obtain ⟨hn, h2, h3⟩ := szp_yes h1 hz
      obtain ⟨ha, hs⟩ := szQ_yes r _ h2 h3 h
      rw [if_neg hz]
      refine ⟨fun m hm => ?_, ?_⟩
      · rcases List.mem_cons.1 hm with rfl | hm
        · exact hn
        · exact ha m hm
      · have : szP n left = left - n := by
          unfold szP at hz ⊢
          split at hz
          · omega
          · rename_i hh; rw [if_neg hh]
        rw [List.sum_cons]
        omega

set_option maxHeartbeats 2000000 in
theorem szProfS_c (a : Option Addr) (cap : Nat) (pss : List (List Nd)) (hl : pss.length ≤ maxLen) (hl2 : ∀ ns ∈ pss, ns.length ≤ maxLen) (left : Int) (h0 : 0 ≤ left) (h1 : left ≤ 1048576) (w : World) (h : PVs w a pss) :
    Calls Tryz.prog 20 #[.slice a pss.length cap, .int .i64 left] w fun e w' => e = .returned (.int .i64 (if szP pss.length left < 0 then -1 else szQ (pss.map List.length) (szP pss.length left))) ∧ Below w.heap.size w w' := by
  have H : Hid (PVs w a pss) := h
  have HL : Hid (∀ ns ∈ pss, ns.length ≤ maxLen) := hl2
  have hm : (maxLen : Nat) ≤ 9223372036854775807 := by decide
  clear h hl2
  by_cases hz : szP pss.length left < 0
  · have h' : left < (pss.length : Int) := by
      unfold szP at hz
      split at hz
      · omega
      · omega
    rw [if_pos hz]
    clear hz
    go_enter Tryz.func20, Tryz.ntmps20
    go_wp2_with fail
    go_ret
    exact ⟨rfl, Below.refl _ _⟩
  · obtain ⟨hn, hp0, hp1⟩ := szp_yes h1 hz
    rw [if_neg hz]
    have hsz : szP pss.length left = left - pss.length := by
      unfold szP at hz ⊢
      split at hz
      · omega
      · rename_i hh; rw [if_neg hh]
    rw [hsz] at hp0 hp1 ⊢
    clear hsz hz
    have HQ0 : Hid (szQ ((pss.drop 0).map List.length) (left - pss.length) = szQ (pss.map List.length) (left - pss.length)) := rfl
    generalize hR : szQ (pss.map List.length) (left - pss.length) = R at *
    clear hR
    go_enter Tryz.func20, Tryz.ntmps20
    go_wp2_with fail
    go_loopw [1, 5] (fun l i wr => ∃ (j : Nat) (x : Int), j ≤ pss.length ∧ i = .int .i64 j ∧ l = .int .i64 x ∧ 0 ≤ x ∧ x ≤ 1048576 ∧ szQ ((pss.drop j).map List.length) x = R ∧ Below w.heap.size w wr) (fun _ i _ => pss.length - (intOf i).toNat)
    case atStart => exact ⟨0, _, Nat.zero_le _, rfl, rfl, hp0, hp1, HQ0.out, Below.refl _ _⟩
    case round =>
      obtain ⟨j, x, hj, rfl, rfl, hx0, hx1, hq, hb⟩ := hrel
      have HQ : Hid (szQ ((pss.drop j).map List.length) x = R) := hq
      have HB : Hid (Below w.heap.size w wr) := hb
      clear hq hb HQ0
      by_cases hlt : j < pss.length
      · have hi0 : (0 : Int) ≤ (j : Int) := by omega
        have hi1 : (j : Int) < (pss.length : Int) := by omega
        have HE : Hid (pss[j]? = some pss[j]) := List.getElem?_eq_getElem hlt
        have hnl := HL.out pss[j] (List.getElem_mem hlt)
        have HD : Hid (szQ ((pss.drop j).map List.length) x = if szP pss[j].length x < 0 then -1 else szQ ((pss.drop (j + 1)).map List.length) (szP pss[j].length x)) := by
          show _ = _
          rw [List.drop_eq_getElem_cons hlt, List.map_cons, szQ]
        generalize pss[j] = ns at HE hnl HD
        obtain ⟨p, q, c, rfl, hpl, hc, hsq⟩ := (H.out.below HB.out).here j ns HE.out
        clear hsq
        go_wp2_with fail
        refine (szProf_c q ns.length c hnl x hx0 hx1 _).mono ?_
        rintro e w1 ⟨rfl, hb⟩
        have HB1 : Hid (Below w.heap.size w w1) := below_then HB.out hb
        clear hb hc
        by_cases hz : szP ns.length x < 0
        · have HR : Hid (R = -1) := by show _ = _; rw [← HQ.out, HD.out, if_pos hz]
          generalize szP ns.length x = y at hz
          clear HD HQ
          go_wp2_with fail
          go_ret
          exact ⟨by rw [HR.out]; rfl, HB1.out⟩
        · obtain ⟨_, hy0, hy1⟩ := szp_yes hx1 hz
          have HQ1 : Hid (szQ ((pss.drop (j + 1)).map List.length) (szP ns.length x) = R) := by show _ = _; rw [← HQ.out, HD.out, if_neg hz]
          generalize szP ns.length x = y at *
          clear HD HQ
          go_wp2_with fail
          exact ⟨⟨j + 1, y, by omega, by go_num, rfl, hy0, hy1, HQ1.out, HB1.out⟩, by simp [intOf]; omega⟩
      · have HR : Hid (R = x) := by
          show _ = _
          rw [← HQ.out, List.drop_eq_nil_of_le (by omega)]
          rfl
        go_wp2_with fail
        go_ret
        exact ⟨by rw [HR.out]; rfl, HB.out⟩
end Go.Proofs.YtmpjebkjopfejaaGreat

namespace Go.Proofs.YtmpjebkjopfejaaGreat
open Go.ChangeShapes Go.WideShapes Go.ChangeAt Go.RowKit

/-- A room: switches, nodes, which are up, what is free on them and of the licences. -/
structure Rm where
  (ps : List Int) (ns : List Nd) (up : List Bool) (pss : List (List Nd)) (lic : List Nd)
/-- Where its five rows begin, and their room. -/
structure Ra where
  (aP aN aU aQ aL : Option Addr) (cP cN cU cQ cL : Nat)
structure RAt (w : World) (A : Ra) (R : Rm) : Prop where
  sP : Sq w A.aP (ints R.ps)
  sN : Sq w A.aN (flat R.ns)
  sU : Sq w A.aU (bools R.up)
  sQ : PVs w A.aQ R.pss
  sL : Sq w A.aL (flat R.lic)
theorem RAt.below {w w' : World} {A : Ra} {R : Rm} (h : RAt w A R) (hb : Below w.heap.size w w') : RAt w' A R := ⟨h.sP.below hb, h.sN.below hb, h.sU.below hb, h.sQ.below hb, h.sL.below hb⟩

theorem OPs.apart {w : World} {g : Nat} {pss : List (List Nd)} {hs : List Nat} (h : OPs w g pss hs) {b i : Nat} {v : Value} (hb : b < g) : OPs (w.setCell ⟨b, i, none⟩ v) g pss hs :=
  ⟨h.len, h.top.apart b i v (by omega), fun j x ns h1 h2 => (h.each j x ns h1 h2).apart b i v (by have := (List.pairwise_cons.1 h.rise).1 x (List.mem_of_getElem? h1); omega), h.rise⟩
theorem OPs.lt {w : World} {g : Nat} {pss : List (List Nd)} {hs : List Nat} (h : OPs w g pss hs) : g < w.heap.size ∧ ∀ x ∈ hs, x < w.heap.size := ⟨h.top.lt, fun x hx => by
  obtain ⟨i, hi⟩ := List.getElem?_of_mem hx
  have hil := (List.getElem?_eq_some_iff.1 hi).1
  exact (h.each i x _ hi (List.getElem?_eq_getElem (by rw [← h.len]; exact hil))).lt⟩

/-- A room of the call's own. -/
structure RO (w : World) (B : Nat) (R : Rm) (gP gN gU gQ gL : Nat) (hs : List Nat) : Prop where
  rP : Row w gP (ints R.ps)
  rN : Row w gN (flat R.ns)
  rU : Row w gU (bools R.up)
  oQ : OPs w gQ R.pss hs
  rL : Row w gL (flat R.lic)
  ord : B ≤ gP ∧ gP < gN ∧ gN < gU ∧ gU < gQ ∧ gQ < gL
  last : ∀ h ∈ hs, h < gL
theorem RO.below {w w' : World} {B : Nat} {R : Rm} {gP gN gU gQ gL : Nat} {hs : List Nat} (h : RO w B R gP gN gU gQ gL hs) (hb : Below w.heap.size w w') : RO w' B R gP gN gU gQ gL hs := ⟨h.rP.below hb, h.rN.below hb, h.rU.below hb, h.oQ.below hb, h.rL.below hb, h.ord, h.last⟩
/-- The addresses of such a room. -/
def ownRa (R : Rm) (gP gN gU gQ gL : Nat) : Ra := ⟨some ⟨gP, 0, none⟩, some ⟨gN, 0, none⟩, some ⟨gU, 0, none⟩, some ⟨gQ, 0, none⟩, some ⟨gL, 0, none⟩, R.ps.length, R.ns.length, R.up.length, R.pss.length, R.lic.length⟩
theorem RO.rat {w : World} {B : Nat} {R : Rm} {gP gN gU gQ gL : Nat} {hs : List Nat} (h : RO w B R gP gN gU gQ gL hs) : RAt w (ownRa R gP gN gU gQ gL) R := ⟨Sq.of_row h.rP, Sq.of_row h.rN, Sq.of_row h.rU, h.oQ.pvs, Sq.of_row h.rL⟩
/-- Rows that can be copied. -/
structure RSmall (R : Rm) : Prop where
  p : R.ps.length ≤ 1048576
  n : R.ns.length ≤ 1048576
  u : R.up.length ≤ 1048576
  q : R.pss.length ≤ 1048576
  e : ∀ ns ∈ R.pss, ns.length ≤ 1048576
  l : R.lic.length ≤ 1048576

set_option maxHeartbeats 4000000 in
theorem toRoom_c (A : Ra) (R : Rm) (hsm : RSmall R) (w : World) (h : RAt w A R) :
    Calls Tryz.prog 7 #[.agg #[.slice A.aP R.ps.length A.cP, .slice A.aN R.ns.length A.cN, .slice A.aU R.up.length A.cU, .slice A.aQ R.pss.length A.cQ, .slice A.aL R.lic.length A.cL]] w fun e w' => ∃ gP gN gU gQ gL hs, e = .returned (.agg #[.slice (some ⟨gP, 0, none⟩) R.ps.length R.ps.length, .slice (some ⟨gN, 0, none⟩) R.ns.length R.ns.length, .slice (some ⟨gU, 0, none⟩) R.up.length R.up.length, .slice (some ⟨gQ, 0, none⟩) R.pss.length R.pss.length, .slice (some ⟨gL, 0, none⟩) R.lic.length R.lic.length]) ∧ RO w' w.heap.size R gP gN gU gQ gL hs ∧ Below w.heap.size w w' := by
  have H : Hid (RAt w A R) := h
  have HM : Hid (RSmall R) := hsm
  clear h hsm
  go_enter Tryz.func7, Tryz.ntmps7
  go_wp2_with fail
  generalize hV : ((w.alloc (.cells #[.slice A.aP R.ps.length A.cP, .slice A.aN R.ns.length A.cN, .slice A.aU R.up.length A.cU, .slice A.aQ R.pss.length A.cQ, .slice A.aL R.lic.length A.cL] 32)).alloc (.cells #[.slice none 0 0, .slice none 0 0, .slice none 0 0, .slice none 0 0, .slice none 0 0] 46)).alloc (.cells #[.slice none 0 0, .slice none 0 0, .slice none 0 0, .slice none 0 0, .slice none 0 0] 46) = V
  have HA0 : Hid (Row V w.heap.size [.slice A.aP R.ps.length A.cP, .slice A.aN R.ns.length A.cN, .slice A.aU R.up.length A.cU, .slice A.aQ R.pss.length A.cQ, .slice A.aL R.lic.length A.cL]) := by subst hV; exact ((row_fresh w [.slice A.aP R.ps.length A.cP, .slice A.aN R.ns.length A.cN, .slice A.aU R.up.length A.cU, .slice A.aQ R.pss.length A.cQ, .slice A.aL R.lic.length A.cL] 32).below (low_alloc _ _)).below (low_alloc _ _)
  have HR0 : Hid (Row V (w.heap.size + 1) [.slice none 0 0, .slice none 0 0, .slice none 0 0, .slice none 0 0, .slice none 0 0]) := by
    subst hV
    have h := row_fresh (w.alloc (.cells #[.slice A.aP R.ps.length A.cP, .slice A.aN R.ns.length A.cN, .slice A.aU R.up.length A.cU, .slice A.aQ R.pss.length A.cQ, .slice A.aL R.lic.length A.cL] 32)) [.slice none 0 0, .slice none 0 0, .slice none 0 0, .slice none 0 0, .slice none 0 0] 46
    rw [show (w.alloc (.cells #[.slice A.aP R.ps.length A.cP, .slice A.aN R.ns.length A.cN, .slice A.aU R.up.length A.cU, .slice A.aQ R.pss.length A.cQ, .slice A.aL R.lic.length A.cL] 32)).heap.size = w.heap.size + 1 by simp [go_sem]] at h
    exact h.below (low_alloc _ _)
  have HO0 : Hid (Row V (w.heap.size + 1 + 1) [.slice none 0 0, .slice none 0 0, .slice none 0 0, .slice none 0 0, .slice none 0 0]) := by
    subst hV
    have h := row_fresh ((w.alloc (.cells #[.slice A.aP R.ps.length A.cP, .slice A.aN R.ns.length A.cN, .slice A.aU R.up.length A.cU, .slice A.aQ R.pss.length A.cQ, .slice A.aL R.lic.length A.cL] 32)).alloc (.cells #[.slice none 0 0, .slice none 0 0, .slice none 0 0, .slice none 0 0, .slice none 0 0] 46)) [.slice none 0 0, .slice none 0 0, .slice none 0 0, .slice none 0 0, .slice none 0 0] 46
    rw [show ((w.alloc (.cells #[.slice A.aP R.ps.length A.cP, .slice A.aN R.ns.length A.cN, .slice A.aU R.up.length A.cU, .slice A.aQ R.pss.length A.cQ, .slice A.aL R.lic.length A.cL] 32)).alloc (.cells #[.slice none 0 0, .slice none 0 0, .slice none 0 0, .slice none 0 0, .slice none 0 0] 46)).heap.size = w.heap.size + 1 + 1 by simp [go_sem]] at h
    exact h
  have HB0 : Hid (Below w.heap.size w V) := by subst hV; exact behind_alloc (behind_alloc (low_alloc _ _) _) _
  clear hV
  generalize V = w0 at *
  have hs0 := HO0.out.lt
  refine (toTopo_c A.aP A.aN A.cP A.cN R.ps R.ns HM.out.p HM.out.n _ (H.out.sP.below HB0.out) (H.out.sN.below HB0.out)).mono ?_
  rintro e w1 ⟨gP, gN, rfl, hg, hgh, hr, hr2, hb⟩
  have HA1 : Hid (Row w1 w.heap.size [.slice A.aP R.ps.length A.cP, .slice A.aN R.ns.length A.cN, .slice A.aU R.up.length A.cU, .slice A.aQ R.pss.length A.cQ, .slice A.aL R.lic.length A.cL]) := HA0.out.below hb
  have HR1 : Hid (Row w1 (w.heap.size + 1) [.slice none 0 0, .slice none 0 0, .slice none 0 0, .slice none 0 0, .slice none 0 0]) := HR0.out.below hb
  have HO1 : Hid (Row w1 (w.heap.size + 1 + 1) [.slice none 0 0, .slice none 0 0, .slice none 0 0, .slice none 0 0, .slice none 0 0]) := HO0.out.below hb
  have HB1 : Hid (Below w.heap.size w w1) := below_then HB0.out hb
  have HP1 : Hid (Row w1 gP (ints R.ps)) := hr
  have HN1 : Hid (Row w1 gN (flat R.ns)) := hr2
  clear hb hr HA0 HR0 HO0 HB0
  clear hr2
  have hO : w.heap.size + 1 + 1 < gP := by have := hs0; omega
  have o0 := HO1.out.cell 0 _ rfl
  have f0 := HO1.out.free 0
  have o1 := HO1.out.cell 1 _ rfl
  have f1 := HO1.out.free 1
  have a2 := HA1.out.cell 2 _ rfl
  have HA2 : Hid (Row ((w1.setCell ⟨w.heap.size + 1 + 1, 0, none⟩ (.slice (some ⟨gP, 0, none⟩) R.ps.length R.ps.length)).setCell ⟨w.heap.size + 1 + 1, 1, none⟩ (.slice (some ⟨gN, 0, none⟩) R.ns.length R.ns.length)) w.heap.size [.slice A.aP R.ps.length A.cP, .slice A.aN R.ns.length A.cN, .slice A.aU R.up.length A.cU, .slice A.aQ R.pss.length A.cQ, .slice A.aL R.lic.length A.cL]) := ((HA1.out.apart (w.heap.size + 1 + 1) 0 (.slice (some ⟨gP, 0, none⟩) R.ps.length R.ps.length) (by omega)).apart (w.heap.size + 1 + 1) 1 (.slice (some ⟨gN, 0, none⟩) R.ns.length R.ns.length) (by omega))
  have HR2 : Hid (Row ((w1.setCell ⟨w.heap.size + 1 + 1, 0, none⟩ (.slice (some ⟨gP, 0, none⟩) R.ps.length R.ps.length)).setCell ⟨w.heap.size + 1 + 1, 1, none⟩ (.slice (some ⟨gN, 0, none⟩) R.ns.length R.ns.length)) (w.heap.size + 1) [.slice none 0 0, .slice none 0 0, .slice none 0 0, .slice none 0 0, .slice none 0 0]) := ((HR1.out.apart (w.heap.size + 1 + 1) 0 (.slice (some ⟨gP, 0, none⟩) R.ps.length R.ps.length) (by omega)).apart (w.heap.size + 1 + 1) 1 (.slice (some ⟨gN, 0, none⟩) R.ns.length R.ns.length) (by omega))
  have HO2 : Hid (Row ((w1.setCell ⟨w.heap.size + 1 + 1, 0, none⟩ (.slice (some ⟨gP, 0, none⟩) R.ps.length R.ps.length)).setCell ⟨w.heap.size + 1 + 1, 1, none⟩ (.slice (some ⟨gN, 0, none⟩) R.ns.length R.ns.length)) (w.heap.size + 1 + 1) [.slice (some ⟨gP, 0, none⟩) R.ps.length R.ps.length, .slice (some ⟨gN, 0, none⟩) R.ns.length R.ns.length, .slice none 0 0, .slice none 0 0, .slice none 0 0]) := ((HO1.out.set 0 (by simp) (.slice (some ⟨gP, 0, none⟩) R.ps.length R.ps.length)).set 1 (by simp) (.slice (some ⟨gN, 0, none⟩) R.ns.length R.ns.length))
  have HB2 : Hid (Below w.heap.size w ((w1.setCell ⟨w.heap.size + 1 + 1, 0, none⟩ (.slice (some ⟨gP, 0, none⟩) R.ps.length R.ps.length)).setCell ⟨w.heap.size + 1 + 1, 1, none⟩ (.slice (some ⟨gN, 0, none⟩) R.ns.length R.ns.length))) := ((HB1.out.setCell (p := ⟨w.heap.size + 1 + 1, 0, none⟩) (by show w.heap.size ≤ w.heap.size + 1 + 1; omega) _).setCell (p := ⟨w.heap.size + 1 + 1, 1, none⟩) (by show w.heap.size ≤ w.heap.size + 1 + 1; omega) _)
  have HP2 : Hid (Row ((w1.setCell ⟨w.heap.size + 1 + 1, 0, none⟩ (.slice (some ⟨gP, 0, none⟩) R.ps.length R.ps.length)).setCell ⟨w.heap.size + 1 + 1, 1, none⟩ (.slice (some ⟨gN, 0, none⟩) R.ns.length R.ns.length)) gP (ints R.ps)) := ((HP1.out.apart (w.heap.size + 1 + 1) 0 (.slice (some ⟨gP, 0, none⟩) R.ps.length R.ps.length) (by omega)).apart (w.heap.size + 1 + 1) 1 (.slice (some ⟨gN, 0, none⟩) R.ns.length R.ns.length) (by omega))
  have HN2 : Hid (Row ((w1.setCell ⟨w.heap.size + 1 + 1, 0, none⟩ (.slice (some ⟨gP, 0, none⟩) R.ps.length R.ps.length)).setCell ⟨w.heap.size + 1 + 1, 1, none⟩ (.slice (some ⟨gN, 0, none⟩) R.ns.length R.ns.length)) gN (flat R.ns)) := ((HN1.out.apart (w.heap.size + 1 + 1) 0 (.slice (some ⟨gP, 0, none⟩) R.ps.length R.ps.length) (by omega)).apart (w.heap.size + 1 + 1) 1 (.slice (some ⟨gN, 0, none⟩) R.ns.length R.ns.length) (by omega))
  go_wp2_with fail
  generalize ((w1.setCell ⟨w.heap.size + 1 + 1, 0, none⟩ (.slice (some ⟨gP, 0, none⟩) R.ps.length R.ps.length)).setCell ⟨w.heap.size + 1 + 1, 1, none⟩ (.slice (some ⟨gN, 0, none⟩) R.ns.length R.ns.length)) = w2 at *
  clear HA1 HR1 HO1 HB1 HP1 HN1 o0 f0 o1 f1 a2
  have hN2 := HN2.out.lt
  refine (toBoolS_c A.aU A.cU R.up HM.out.u _ (H.out.sU.below HB2.out)).mono ?_
  rintro e w3 ⟨gU, rfl, hgU, hr, hb⟩
  have HA3 : Hid (Row w3 w.heap.size [.slice A.aP R.ps.length A.cP, .slice A.aN R.ns.length A.cN, .slice A.aU R.up.length A.cU, .slice A.aQ R.pss.length A.cQ, .slice A.aL R.lic.length A.cL]) := HA2.out.below hb
  have HR3 : Hid (Row w3 (w.heap.size + 1) [.slice none 0 0, .slice none 0 0, .slice none 0 0, .slice none 0 0, .slice none 0 0]) := HR2.out.below hb
  have HO3 : Hid (Row w3 (w.heap.size + 1 + 1) [.slice (some ⟨gP, 0, none⟩) R.ps.length R.ps.length, .slice (some ⟨gN, 0, none⟩) R.ns.length R.ns.length, .slice none 0 0, .slice none 0 0, .slice none 0 0]) := HO2.out.below hb
  have HB3 : Hid (Below w.heap.size w w3) := below_then HB2.out hb
  have HP3 : Hid (Row w3 gP (ints R.ps)) := HP2.out.below hb
  have HN3 : Hid (Row w3 gN (flat R.ns)) := HN2.out.below hb
  have HU3 : Hid (Row w3 gU (bools R.up)) := hr
  clear hb hr HA2 HR2 HO2 HB2 HP2 HN2
  have o2 := HO3.out.cell 2 _ rfl
  have f2 := HO3.out.free 2
  have a3 := HA3.out.cell 3 _ rfl
  have HA4 : Hid (Row (w3.setCell ⟨w.heap.size + 1 + 1, 2, none⟩ (.slice (some ⟨gU, 0, none⟩) R.up.length R.up.length)) w.heap.size [.slice A.aP R.ps.length A.cP, .slice A.aN R.ns.length A.cN, .slice A.aU R.up.length A.cU, .slice A.aQ R.pss.length A.cQ, .slice A.aL R.lic.length A.cL]) := (HA3.out.apart (w.heap.size + 1 + 1) 2 (.slice (some ⟨gU, 0, none⟩) R.up.length R.up.length) (by omega))
  have HR4 : Hid (Row (w3.setCell ⟨w.heap.size + 1 + 1, 2, none⟩ (.slice (some ⟨gU, 0, none⟩) R.up.length R.up.length)) (w.heap.size + 1) [.slice none 0 0, .slice none 0 0, .slice none 0 0, .slice none 0 0, .slice none 0 0]) := (HR3.out.apart (w.heap.size + 1 + 1) 2 (.slice (some ⟨gU, 0, none⟩) R.up.length R.up.length) (by omega))
  have HO4 : Hid (Row (w3.setCell ⟨w.heap.size + 1 + 1, 2, none⟩ (.slice (some ⟨gU, 0, none⟩) R.up.length R.up.length)) (w.heap.size + 1 + 1) [.slice (some ⟨gP, 0, none⟩) R.ps.length R.ps.length, .slice (some ⟨gN, 0, none⟩) R.ns.length R.ns.length, .slice (some ⟨gU, 0, none⟩) R.up.length R.up.length, .slice none 0 0, .slice none 0 0]) := (HO3.out.set 2 (by simp) (.slice (some ⟨gU, 0, none⟩) R.up.length R.up.length))
  have HB4 : Hid (Below w.heap.size w (w3.setCell ⟨w.heap.size + 1 + 1, 2, none⟩ (.slice (some ⟨gU, 0, none⟩) R.up.length R.up.length))) := (HB3.out.setCell (p := ⟨w.heap.size + 1 + 1, 2, none⟩) (by show w.heap.size ≤ w.heap.size + 1 + 1; omega) _)
  have HP4 : Hid (Row (w3.setCell ⟨w.heap.size + 1 + 1, 2, none⟩ (.slice (some ⟨gU, 0, none⟩) R.up.length R.up.length)) gP (ints R.ps)) := (HP3.out.apart (w.heap.size + 1 + 1) 2 (.slice (some ⟨gU, 0, none⟩) R.up.length R.up.length) (by omega))
  have HN4 : Hid (Row (w3.setCell ⟨w.heap.size + 1 + 1, 2, none⟩ (.slice (some ⟨gU, 0, none⟩) R.up.length R.up.length)) gN (flat R.ns)) := (HN3.out.apart (w.heap.size + 1 + 1) 2 (.slice (some ⟨gU, 0, none⟩) R.up.length R.up.length) (by omega))
  have HU4 : Hid (Row (w3.setCell ⟨w.heap.size + 1 + 1, 2, none⟩ (.slice (some ⟨gU, 0, none⟩) R.up.length R.up.length)) gU (bools R.up)) := (HU3.out.apart (w.heap.size + 1 + 1) 2 (.slice (some ⟨gU, 0, none⟩) R.up.length R.up.length) (by omega))
  go_wp2_with fail
  generalize (w3.setCell ⟨w.heap.size + 1 + 1, 2, none⟩ (.slice (some ⟨gU, 0, none⟩) R.up.length R.up.length)) = w4 at *
  clear HA3 HR3 HO3 HB3 HP3 HN3 HU3 o2 f2 a3
  have hU4 := HU4.out.lt
  refine (toProfS_c A.aQ A.cQ R.pss HM.out.q HM.out.e _ (H.out.sQ.below HB4.out)).mono ?_
  rintro e w5 ⟨gQ, hs, rfl, hgQ, hr, hb⟩
  have HA5 : Hid (Row w5 w.heap.size [.slice A.aP R.ps.length A.cP, .slice A.aN R.ns.length A.cN, .slice A.aU R.up.length A.cU, .slice A.aQ R.pss.length A.cQ, .slice A.aL R.lic.length A.cL]) := HA4.out.below hb
  have HR5 : Hid (Row w5 (w.heap.size + 1) [.slice none 0 0, .slice none 0 0, .slice none 0 0, .slice none 0 0, .slice none 0 0]) := HR4.out.below hb
  have HO5 : Hid (Row w5 (w.heap.size + 1 + 1) [.slice (some ⟨gP, 0, none⟩) R.ps.length R.ps.length, .slice (some ⟨gN, 0, none⟩) R.ns.length R.ns.length, .slice (some ⟨gU, 0, none⟩) R.up.length R.up.length, .slice none 0 0, .slice none 0 0]) := HO4.out.below hb
  have HB5 : Hid (Below w.heap.size w w5) := below_then HB4.out hb
  have HP5 : Hid (Row w5 gP (ints R.ps)) := HP4.out.below hb
  have HN5 : Hid (Row w5 gN (flat R.ns)) := HN4.out.below hb
  have HU5 : Hid (Row w5 gU (bools R.up)) := HU4.out.below hb
  have HQ5 : Hid (OPs w5 gQ R.pss hs) := hr
  clear hb hr HA4 HR4 HO4 HB4 HP4 HN4 HU4
  have o3 := HO5.out.cell 3 _ rfl
  have f3 := HO5.out.free 3
  have a4 := HA5.out.cell 4 _ rfl
  have HA6 : Hid (Row (w5.setCell ⟨w.heap.size + 1 + 1, 3, none⟩ (.slice (some ⟨gQ, 0, none⟩) R.pss.length R.pss.length)) w.heap.size [.slice A.aP R.ps.length A.cP, .slice A.aN R.ns.length A.cN, .slice A.aU R.up.length A.cU, .slice A.aQ R.pss.length A.cQ, .slice A.aL R.lic.length A.cL]) := (HA5.out.apart (w.heap.size + 1 + 1) 3 (.slice (some ⟨gQ, 0, none⟩) R.pss.length R.pss.length) (by omega))
  have HR6 : Hid (Row (w5.setCell ⟨w.heap.size + 1 + 1, 3, none⟩ (.slice (some ⟨gQ, 0, none⟩) R.pss.length R.pss.length)) (w.heap.size + 1) [.slice none 0 0, .slice none 0 0, .slice none 0 0, .slice none 0 0, .slice none 0 0]) := (HR5.out.apart (w.heap.size + 1 + 1) 3 (.slice (some ⟨gQ, 0, none⟩) R.pss.length R.pss.length) (by omega))
  have HO6 : Hid (Row (w5.setCell ⟨w.heap.size + 1 + 1, 3, none⟩ (.slice (some ⟨gQ, 0, none⟩) R.pss.length R.pss.length)) (w.heap.size + 1 + 1) [.slice (some ⟨gP, 0, none⟩) R.ps.length R.ps.length, .slice (some ⟨gN, 0, none⟩) R.ns.length R.ns.length, .slice (some ⟨gU, 0, none⟩) R.up.length R.up.length, .slice (some ⟨gQ, 0, none⟩) R.pss.length R.pss.length, .slice none 0 0]) := (HO5.out.set 3 (by simp) (.slice (some ⟨gQ, 0, none⟩) R.pss.length R.pss.length))
  have HB6 : Hid (Below w.heap.size w (w5.setCell ⟨w.heap.size + 1 + 1, 3, none⟩ (.slice (some ⟨gQ, 0, none⟩) R.pss.length R.pss.length))) := (HB5.out.setCell (p := ⟨w.heap.size + 1 + 1, 3, none⟩) (by show w.heap.size ≤ w.heap.size + 1 + 1; omega) _)
  have HP6 : Hid (Row (w5.setCell ⟨w.heap.size + 1 + 1, 3, none⟩ (.slice (some ⟨gQ, 0, none⟩) R.pss.length R.pss.length)) gP (ints R.ps)) := (HP5.out.apart (w.heap.size + 1 + 1) 3 (.slice (some ⟨gQ, 0, none⟩) R.pss.length R.pss.length) (by omega))
  have HN6 : Hid (Row (w5.setCell ⟨w.heap.size + 1 + 1, 3, none⟩ (.slice (some ⟨gQ, 0, none⟩) R.pss.length R.pss.length)) gN (flat R.ns)) := (HN5.out.apart (w.heap.size + 1 + 1) 3 (.slice (some ⟨gQ, 0, none⟩) R.pss.length R.pss.length) (by omega))
  have HU6 : Hid (Row (w5.setCell ⟨w.heap.size + 1 + 1, 3, none⟩ (.slice (some ⟨gQ, 0, none⟩) R.pss.length R.pss.length)) gU (bools R.up)) := (HU5.out.apart (w.heap.size + 1 + 1) 3 (.slice (some ⟨gQ, 0, none⟩) R.pss.length R.pss.length) (by omega))
  have HQ6 : Hid (OPs (w5.setCell ⟨w.heap.size + 1 + 1, 3, none⟩ (.slice (some ⟨gQ, 0, none⟩) R.pss.length R.pss.length)) gQ R.pss hs) := (HQ5.out.apart (b := w.heap.size + 1 + 1) (by omega))
  go_wp2_with fail
  generalize (w5.setCell ⟨w.heap.size + 1 + 1, 3, none⟩ (.slice (some ⟨gQ, 0, none⟩) R.pss.length R.pss.length)) = w6 at *
  clear HA5 HR5 HO5 HB5 HP5 HN5 HU5 HQ5 o3 f3 a4
  obtain ⟨hQ6, hQs⟩ := HQ6.out.lt
  refine (toProf_c A.aL A.cL R.lic HM.out.l _ (H.out.sL.below HB6.out)).mono ?_
  rintro e w7 ⟨gL, rfl, hgL, hr, hb⟩
  have HA7 : Hid (Row w7 w.heap.size [.slice A.aP R.ps.length A.cP, .slice A.aN R.ns.length A.cN, .slice A.aU R.up.length A.cU, .slice A.aQ R.pss.length A.cQ, .slice A.aL R.lic.length A.cL]) := HA6.out.below hb
  have HR7 : Hid (Row w7 (w.heap.size + 1) [.slice none 0 0, .slice none 0 0, .slice none 0 0, .slice none 0 0, .slice none 0 0]) := HR6.out.below hb
  have HO7 : Hid (Row w7 (w.heap.size + 1 + 1) [.slice (some ⟨gP, 0, none⟩) R.ps.length R.ps.length, .slice (some ⟨gN, 0, none⟩) R.ns.length R.ns.length, .slice (some ⟨gU, 0, none⟩) R.up.length R.up.length, .slice (some ⟨gQ, 0, none⟩) R.pss.length R.pss.length, .slice none 0 0]) := HO6.out.below hb
  have HB7 : Hid (Below w.heap.size w w7) := below_then HB6.out hb
  have HP7 : Hid (Row w7 gP (ints R.ps)) := HP6.out.below hb
  have HN7 : Hid (Row w7 gN (flat R.ns)) := HN6.out.below hb
  have HU7 : Hid (Row w7 gU (bools R.up)) := HU6.out.below hb
  have HQ7 : Hid (OPs w7 gQ R.pss hs) := HQ6.out.below hb
  have HL7 : Hid (Row w7 gL (flat R.lic)) := hr
  clear hb hr HA6 HR6 HO6 HB6 HP6 HN6 HU6 HQ6
  have hQL : gQ < gL := by omega
  have hlast : ∀ h ∈ hs, h < gL := fun h hh => by have := hQs h hh; omega
  have FP : Hid (Row ((((((w7.setCell ⟨w.heap.size + 1 + 1, 4, none⟩ (.slice (some ⟨gL, 0, none⟩) R.lic.length R.lic.length)).setCell ⟨w.heap.size + 1, 0, none⟩ (.slice (some ⟨gP, 0, none⟩) R.ps.length R.ps.length)).setCell ⟨w.heap.size + 1, 1, none⟩ (.slice (some ⟨gN, 0, none⟩) R.ns.length R.ns.length)).setCell ⟨w.heap.size + 1, 2, none⟩ (.slice (some ⟨gU, 0, none⟩) R.up.length R.up.length)).setCell ⟨w.heap.size + 1, 3, none⟩ (.slice (some ⟨gQ, 0, none⟩) R.pss.length R.pss.length)).setCell ⟨w.heap.size + 1, 4, none⟩ (.slice (some ⟨gL, 0, none⟩) R.lic.length R.lic.length)) gP (ints R.ps)) := ((((((HP7.out.apart (w.heap.size + 1 + 1) 4 (.slice (some ⟨gL, 0, none⟩) R.lic.length R.lic.length) (by omega)).apart (w.heap.size + 1) 0 (.slice (some ⟨gP, 0, none⟩) R.ps.length R.ps.length) (by omega)).apart (w.heap.size + 1) 1 (.slice (some ⟨gN, 0, none⟩) R.ns.length R.ns.length) (by omega)).apart (w.heap.size + 1) 2 (.slice (some ⟨gU, 0, none⟩) R.up.length R.up.length) (by omega)).apart (w.heap.size + 1) 3 (.slice (some ⟨gQ, 0, none⟩) R.pss.length R.pss.length) (by omega)).apart (w.heap.size + 1) 4 (.slice (some ⟨gL, 0, none⟩) R.lic.length R.lic.length) (by omega))
  have FN : Hid (Row ((((((w7.setCell ⟨w.heap.size + 1 + 1, 4, none⟩ (.slice (some ⟨gL, 0, none⟩) R.lic.length R.lic.length)).setCell ⟨w.heap.size + 1, 0, none⟩ (.slice (some ⟨gP, 0, none⟩) R.ps.length R.ps.length)).setCell ⟨w.heap.size + 1, 1, none⟩ (.slice (some ⟨gN, 0, none⟩) R.ns.length R.ns.length)).setCell ⟨w.heap.size + 1, 2, none⟩ (.slice (some ⟨gU, 0, none⟩) R.up.length R.up.length)).setCell ⟨w.heap.size + 1, 3, none⟩ (.slice (some ⟨gQ, 0, none⟩) R.pss.length R.pss.length)).setCell ⟨w.heap.size + 1, 4, none⟩ (.slice (some ⟨gL, 0, none⟩) R.lic.length R.lic.length)) gN (flat R.ns)) := ((((((HN7.out.apart (w.heap.size + 1 + 1) 4 (.slice (some ⟨gL, 0, none⟩) R.lic.length R.lic.length) (by omega)).apart (w.heap.size + 1) 0 (.slice (some ⟨gP, 0, none⟩) R.ps.length R.ps.length) (by omega)).apart (w.heap.size + 1) 1 (.slice (some ⟨gN, 0, none⟩) R.ns.length R.ns.length) (by omega)).apart (w.heap.size + 1) 2 (.slice (some ⟨gU, 0, none⟩) R.up.length R.up.length) (by omega)).apart (w.heap.size + 1) 3 (.slice (some ⟨gQ, 0, none⟩) R.pss.length R.pss.length) (by omega)).apart (w.heap.size + 1) 4 (.slice (some ⟨gL, 0, none⟩) R.lic.length R.lic.length) (by omega))
  have FU : Hid (Row ((((((w7.setCell ⟨w.heap.size + 1 + 1, 4, none⟩ (.slice (some ⟨gL, 0, none⟩) R.lic.length R.lic.length)).setCell ⟨w.heap.size + 1, 0, none⟩ (.slice (some ⟨gP, 0, none⟩) R.ps.length R.ps.length)).setCell ⟨w.heap.size + 1, 1, none⟩ (.slice (some ⟨gN, 0, none⟩) R.ns.length R.ns.length)).setCell ⟨w.heap.size + 1, 2, none⟩ (.slice (some ⟨gU, 0, none⟩) R.up.length R.up.length)).setCell ⟨w.heap.size + 1, 3, none⟩ (.slice (some ⟨gQ, 0, none⟩) R.pss.length R.pss.length)).setCell ⟨w.heap.size + 1, 4, none⟩ (.slice (some ⟨gL, 0, none⟩) R.lic.length R.lic.length)) gU (bools R.up)) := ((((((HU7.out.apart (w.heap.size + 1 + 1) 4 (.slice (some ⟨gL, 0, none⟩) R.lic.length R.lic.length) (by omega)).apart (w.heap.size + 1) 0 (.slice (some ⟨gP, 0, none⟩) R.ps.length R.ps.length) (by omega)).apart (w.heap.size + 1) 1 (.slice (some ⟨gN, 0, none⟩) R.ns.length R.ns.length) (by omega)).apart (w.heap.size + 1) 2 (.slice (some ⟨gU, 0, none⟩) R.up.length R.up.length) (by omega)).apart (w.heap.size + 1) 3 (.slice (some ⟨gQ, 0, none⟩) R.pss.length R.pss.length) (by omega)).apart (w.heap.size + 1) 4 (.slice (some ⟨gL, 0, none⟩) R.lic.length R.lic.length) (by omega))
  have FQ : Hid (OPs ((((((w7.setCell ⟨w.heap.size + 1 + 1, 4, none⟩ (.slice (some ⟨gL, 0, none⟩) R.lic.length R.lic.length)).setCell ⟨w.heap.size + 1, 0, none⟩ (.slice (some ⟨gP, 0, none⟩) R.ps.length R.ps.length)).setCell ⟨w.heap.size + 1, 1, none⟩ (.slice (some ⟨gN, 0, none⟩) R.ns.length R.ns.length)).setCell ⟨w.heap.size + 1, 2, none⟩ (.slice (some ⟨gU, 0, none⟩) R.up.length R.up.length)).setCell ⟨w.heap.size + 1, 3, none⟩ (.slice (some ⟨gQ, 0, none⟩) R.pss.length R.pss.length)).setCell ⟨w.heap.size + 1, 4, none⟩ (.slice (some ⟨gL, 0, none⟩) R.lic.length R.lic.length)) gQ R.pss hs) := ((((((HQ7.out.apart (b := w.heap.size + 1 + 1) (by omega)).apart (b := w.heap.size + 1) (by omega)).apart (b := w.heap.size + 1) (by omega)).apart (b := w.heap.size + 1) (by omega)).apart (b := w.heap.size + 1) (by omega)).apart (b := w.heap.size + 1) (by omega))
  have FL : Hid (Row ((((((w7.setCell ⟨w.heap.size + 1 + 1, 4, none⟩ (.slice (some ⟨gL, 0, none⟩) R.lic.length R.lic.length)).setCell ⟨w.heap.size + 1, 0, none⟩ (.slice (some ⟨gP, 0, none⟩) R.ps.length R.ps.length)).setCell ⟨w.heap.size + 1, 1, none⟩ (.slice (some ⟨gN, 0, none⟩) R.ns.length R.ns.length)).setCell ⟨w.heap.size + 1, 2, none⟩ (.slice (some ⟨gU, 0, none⟩) R.up.length R.up.length)).setCell ⟨w.heap.size + 1, 3, none⟩ (.slice (some ⟨gQ, 0, none⟩) R.pss.length R.pss.length)).setCell ⟨w.heap.size + 1, 4, none⟩ (.slice (some ⟨gL, 0, none⟩) R.lic.length R.lic.length)) gL (flat R.lic)) := ((((((HL7.out.apart (w.heap.size + 1 + 1) 4 (.slice (some ⟨gL, 0, none⟩) R.lic.length R.lic.length) (by omega)).apart (w.heap.size + 1) 0 (.slice (some ⟨gP, 0, none⟩) R.ps.length R.ps.length) (by omega)).apart (w.heap.size + 1) 1 (.slice (some ⟨gN, 0, none⟩) R.ns.length R.ns.length) (by omega)).apart (w.heap.size + 1) 2 (.slice (some ⟨gU, 0, none⟩) R.up.length R.up.length) (by omega)).apart (w.heap.size + 1) 3 (.slice (some ⟨gQ, 0, none⟩) R.pss.length R.pss.length) (by omega)).apart (w.heap.size + 1) 4 (.slice (some ⟨gL, 0, none⟩) R.lic.length R.lic.length) (by omega))
  have FB : Hid (Below w.heap.size w ((((((w7.setCell ⟨w.heap.size + 1 + 1, 4, none⟩ (.slice (some ⟨gL, 0, none⟩) R.lic.length R.lic.length)).setCell ⟨w.heap.size + 1, 0, none⟩ (.slice (some ⟨gP, 0, none⟩) R.ps.length R.ps.length)).setCell ⟨w.heap.size + 1, 1, none⟩ (.slice (some ⟨gN, 0, none⟩) R.ns.length R.ns.length)).setCell ⟨w.heap.size + 1, 2, none⟩ (.slice (some ⟨gU, 0, none⟩) R.up.length R.up.length)).setCell ⟨w.heap.size + 1, 3, none⟩ (.slice (some ⟨gQ, 0, none⟩) R.pss.length R.pss.length)).setCell ⟨w.heap.size + 1, 4, none⟩ (.slice (some ⟨gL, 0, none⟩) R.lic.length R.lic.length))) := ((((((HB7.out.setCell (p := ⟨w.heap.size + 1 + 1, 4, none⟩) (by show w.heap.size ≤ w.heap.size + 1 + 1; omega) _).setCell (p := ⟨w.heap.size + 1, 0, none⟩) (by show w.heap.size ≤ w.heap.size + 1; omega) _).setCell (p := ⟨w.heap.size + 1, 1, none⟩) (by show w.heap.size ≤ w.heap.size + 1; omega) _).setCell (p := ⟨w.heap.size + 1, 2, none⟩) (by show w.heap.size ≤ w.heap.size + 1; omega) _).setCell (p := ⟨w.heap.size + 1, 3, none⟩) (by show w.heap.size ≤ w.heap.size + 1; omega) _).setCell (p := ⟨w.heap.size + 1, 4, none⟩) (by show w.heap.size ≤ w.heap.size + 1; omega) _)
  have o0 := HO7.out.cell 0 _ rfl
  have o1 := HO7.out.cell 1 _ rfl
  have o2 := HO7.out.cell 2 _ rfl
  have o3 := HO7.out.cell 3 _ rfl
  have o4 := HO7.out.cell 4 _ rfl
  have fo4 := HO7.out.free 4
  have r0 := HR7.out.cell 0 _ rfl
  have fr0 := HR7.out.free 0
  have r1 := HR7.out.cell 1 _ rfl
  have fr1 := HR7.out.free 1
  have r2 := HR7.out.cell 2 _ rfl
  have fr2 := HR7.out.free 2
  have r3 := HR7.out.cell 3 _ rfl
  have fr3 := HR7.out.free 3
  have r4 := HR7.out.cell 4 _ rfl
  have fr4 := HR7.out.free 4
  have n1 : w.heap.size + 1 ≠ w.heap.size + 1 + 1 := by omega
  have n2 : w.heap.size + 1 + 1 ≠ w.heap.size + 1 := by omega
  go_wp2_with fail
  exact bodyPost_ret (v := .agg #[.slice (some ⟨gP, 0, none⟩) R.ps.length R.ps.length, .slice (some ⟨gN, 0, none⟩) R.ns.length R.ns.length, .slice (some ⟨gU, 0, none⟩) R.up.length R.up.length, .slice (some ⟨gQ, 0, none⟩) R.pss.length R.pss.length, .slice (some ⟨gL, 0, none⟩) R.lic.length R.lic.length]) (by simp [results, Tryz.results7, go_sem, *]) rfl ⟨gP, gN, gU, gQ, gL, hs, rfl, ⟨FP.out, FN.out, FU.out, FQ.out, FL.out, ⟨by omega, by omega, by omega, by omega, hQL⟩, hlast⟩, FB.out⟩
end Go.Proofs.YtmpjebkjopfejaaGreat

namespace Go.Proofs.YtmpjebkjopfejaaGreat
open Go.ChangeShapes Go.WideShapes Go.ChangeAt Go.RowKit

theorem szt_yes {n m : Nat} {left : Int} (h1 : left ≤ 1048576) (h : ¬ szT n m left < 0) : n ≤ 1048576 ∧ m ≤ 1048576 ∧ 0 ≤ szT n m left ∧ szT n m left ≤ 1048576 ∧ (n : Int) + m + szT n m left = left := by
  unfold szT at h ⊢
  split at h
  · omega
  · rename_i h2
    rw [if_neg h2]
    split at h
    · omega
    · rename_i h3
      rw [if_neg h3]
      omega
theorem szp_sum {n : Nat} {left : Int} (h1 : left ≤ 1048576) (h : ¬ szP n left < 0) : n ≤ 1048576 ∧ 0 ≤ szP n left ∧ szP n left ≤ 1048576 ∧ (n : Int) + szP n left = left := by
  unfold szP at h ⊢
  split at h
  · omega
  · rename_i h2
    rw [if_neg h2]
    omega

/-- All rows together are few. -/
def RTot (R : Rm) : Prop := R.ps.length + R.ns.length + R.up.length + R.pss.length + (R.pss.map List.length).sum + R.lic.length ≤ 1048576
/-- Rows as they came in. -/
structure RWide (R : Rm) : Prop where
  p : R.ps.length ≤ maxLen
  n : R.ns.length ≤ maxLen
  u : R.up.length ≤ maxLen
  q : R.pss.length ≤ maxLen
  e : ∀ ns ∈ R.pss, ns.length ≤ maxLen
  l : R.lic.length ≤ maxLen

set_option maxHeartbeats 4000000 in
theorem szRoom_c (A : Ra) (R : Rm) (hw : RWide R) (w : World) (h : RAt w A R) :
    Calls Tryz.prog 5 #[.agg #[.slice A.aP R.ps.length A.cP, .slice A.aN R.ns.length A.cN, .slice A.aU R.up.length A.cU, .slice A.aQ R.pss.length A.cQ, .slice A.aL R.lic.length A.cL], .int .i64 1048576] w fun e w' => ∃ z : Int, e = .returned (.int .i64 z) ∧ (0 ≤ z → RSmall R ∧ RTot R) ∧ Below w.heap.size w w' := by
  have H : Hid (RAt w A R) := h
  have HW : Hid (RWide R) := hw
  clear h hw
  go_enter Tryz.func5, Tryz.ntmps5
  go_wp2_with fail
  have HA0 : Hid (Row (w.alloc (.cells #[.slice A.aP R.ps.length A.cP, .slice A.aN R.ns.length A.cN, .slice A.aU R.up.length A.cU, .slice A.aQ R.pss.length A.cQ, .slice A.aL R.lic.length A.cL] 32)) w.heap.size [.slice A.aP R.ps.length A.cP, .slice A.aN R.ns.length A.cN, .slice A.aU R.up.length A.cU, .slice A.aQ R.pss.length A.cQ, .slice A.aL R.lic.length A.cL]) := row_fresh w [.slice A.aP R.ps.length A.cP, .slice A.aN R.ns.length A.cN, .slice A.aU R.up.length A.cU, .slice A.aQ R.pss.length A.cQ, .slice A.aL R.lic.length A.cL] 32
  have HB0 : Hid (Below w.heap.size w (w.alloc (.cells #[.slice A.aP R.ps.length A.cP, .slice A.aN R.ns.length A.cN, .slice A.aU R.up.length A.cU, .slice A.aQ R.pss.length A.cQ, .slice A.aL R.lic.length A.cL] 32))) := low_alloc _ _
  generalize w.alloc (.cells #[.slice A.aP R.ps.length A.cP, .slice A.aN R.ns.length A.cN, .slice A.aU R.up.length A.cU, .slice A.aQ R.pss.length A.cQ, .slice A.aL R.lic.length A.cL] 32) = w0 at *
  refine (szTopo_c A.aP A.aN R.ps.length R.ns.length A.cP A.cN HW.out.p HW.out.n 1048576 (by omega) (by omega) _).mono ?_
  rintro e w1 ⟨rfl, hb⟩
  have HA1 : Hid (Row w1 w.heap.size [.slice A.aP R.ps.length A.cP, .slice A.aN R.ns.length A.cN, .slice A.aU R.up.length A.cU, .slice A.aQ R.pss.length A.cQ, .slice A.aL R.lic.length A.cL]) := HA0.out.below hb
  have HB1 : Hid (Below w.heap.size w w1) := below_then HB0.out hb
  clear hb HA0 HB0
  by_cases z1 : szT R.ps.length R.ns.length 1048576 < 0
  · generalize szT R.ps.length R.ns.length 1048576 = z at *
    go_wp2_with fail
    go_ret
    exact ⟨-1, rfl, fun h => absurd h (by decide), HB1.out⟩
  · have Y1 := szt_yes (Int.le_refl _) z1
    generalize szT R.ps.length R.ns.length 1048576 = x1 at *
    have a2 := HA1.out.cell 2 _ rfl
    go_wp2_with fail
    refine (szBoolS_c A.aU R.up.length A.cU HW.out.u x1 Y1.2.2.1 Y1.2.2.2.1 _).mono ?_
    rintro e w2 ⟨rfl, rfl⟩
    clear a2
    by_cases z2 : szP R.up.length x1 < 0
    · generalize szP R.up.length x1 = z at *
      go_wp2_with fail
      go_ret
      exact ⟨-1, rfl, fun h => absurd h (by decide), HB1.out⟩
    · have Y2 := szp_sum Y1.2.2.2.1 z2
      generalize szP R.up.length x1 = x2 at *
      have a3 := HA1.out.cell 3 _ rfl
      go_wp2_with fail
      refine (szProfS_c A.aQ A.cQ R.pss HW.out.q HW.out.e x2 Y2.2.1 Y2.2.2.1 _ (H.out.sQ.below HB1.out)).mono ?_
      rintro e w3 ⟨rfl, hb⟩
      have HA3 : Hid (Row w3 w.heap.size [.slice A.aP R.ps.length A.cP, .slice A.aN R.ns.length A.cN, .slice A.aU R.up.length A.cU, .slice A.aQ R.pss.length A.cQ, .slice A.aL R.lic.length A.cL]) := HA1.out.below hb
      have HB3 : Hid (Below w.heap.size w w3) := below_then HB1.out hb
      clear hb a3 HA1 HB1
      by_cases z3 : (if szP R.pss.length x2 < 0 then -1 else szQ (R.pss.map List.length) (szP R.pss.length x2)) < 0
      · generalize (if szP R.pss.length x2 < 0 then -1 else szQ (R.pss.map List.length) (szP R.pss.length x2)) = z at *
        go_wp2_with fail
        go_ret
        exact ⟨-1, rfl, fun h => absurd h (by decide), HB3.out⟩
      · have z4 : ¬ szP R.pss.length x2 < 0 := fun h => by rw [if_pos h] at z3; exact z3 (by decide)
        have Y4 := szp_sum Y2.2.2.1 z4
        rw [if_neg z4] at z3 ⊢
        have Y5 := szQ_yes (R.pss.map List.length) _ Y4.2.1 Y4.2.2.1 z3
        have Y6 := szQ_le (R.pss.map List.length) _ Y4.2.1 Y4.2.2.1
        generalize szP R.pss.length x2 = x3 at *
        generalize szQ (R.pss.map List.length) x3 = x4 at *
        have a4 := HA3.out.cell 4 _ rfl
        go_wp2_with fail
        refine (szProf_c A.aL R.lic.length A.cL HW.out.l x4 (by omega) Y6.1 _).mono ?_
        rintro e w5 ⟨rfl, hb⟩
        have HB5 : Hid (Below w.heap.size w w5) := below_then HB3.out hb
        clear hb a4
        by_cases z5 : szP R.lic.length x4 < 0
        · generalize szP R.lic.length x4 = z at *
          go_wp2_with fail
          go_ret
          exact ⟨-1, rfl, fun h => absurd h (by decide), HB5.out⟩
        · have Y7 := szp_sum Y6.1 z5
          generalize szP R.lic.length x4 = x5 at *
          have HF : Hid (RSmall R ∧ RTot R) := by
            refine ⟨⟨Y1.1, Y1.2.1, Y2.1, Y4.1, fun ns hns => Y5.1 _ (List.mem_map.2 ⟨ns, hns, rfl⟩), Y7.1⟩, ?_⟩
            have e1 := Y1.2.2.2.2
            have e2 := Y2.2.2.2
            have e4 := Y4.2.2.2
            have e5 := Y5.2
            have e7 := Y7.2.2.2
            have e8 := Y7.2.1
            show _ ≤ _
            omega
          clear Y1 Y2 Y4 Y5 Y6 Y7 z1 z2 z3 z4
          go_wp2_with fail
          go_ret
          exact ⟨x5, rfl, fun _ => HF.out, HB5.out⟩

set_option maxHeartbeats 4000000 in
theorem eqRoom_c (A A' : Ra) (R : Rm) (hs : RSmall R) (w : World) (h : RAt w A R) (h' : RAt w A' R) :
    Calls Tryz.prog 11 #[.agg #[.slice A.aP R.ps.length A.cP, .slice A.aN R.ns.length A.cN, .slice A.aU R.up.length A.cU, .slice A.aQ R.pss.length A.cQ, .slice A.aL R.lic.length A.cL], .agg #[.slice A'.aP R.ps.length A'.cP, .slice A'.aN R.ns.length A'.cN, .slice A'.aU R.up.length A'.cU, .slice A'.aQ R.pss.length A'.cQ, .slice A'.aL R.lic.length A'.cL]] w fun e w' => e = .returned (.bool true) ∧ Below w.heap.size w w' := by
  have H : Hid (RAt w A R) := h
  have H' : Hid (RAt w A' R) := h'
  have HM : Hid (RSmall R) := hs
  clear h h' hs
  go_enter Tryz.func11, Tryz.ntmps11
  go_wp2_with fail
  generalize hV : (w.alloc (.cells #[.slice A.aP R.ps.length A.cP, .slice A.aN R.ns.length A.cN, .slice A.aU R.up.length A.cU, .slice A.aQ R.pss.length A.cQ, .slice A.aL R.lic.length A.cL] 46)).alloc (.cells #[.slice A'.aP R.ps.length A'.cP, .slice A'.aN R.ns.length A'.cN, .slice A'.aU R.up.length A'.cU, .slice A'.aQ R.pss.length A'.cQ, .slice A'.aL R.lic.length A'.cL] 46) = V
  have HA0 : Hid (Row V w.heap.size [.slice A.aP R.ps.length A.cP, .slice A.aN R.ns.length A.cN, .slice A.aU R.up.length A.cU, .slice A.aQ R.pss.length A.cQ, .slice A.aL R.lic.length A.cL]) := by subst hV; exact (row_fresh w [.slice A.aP R.ps.length A.cP, .slice A.aN R.ns.length A.cN, .slice A.aU R.up.length A.cU, .slice A.aQ R.pss.length A.cQ, .slice A.aL R.lic.length A.cL] 46).below (low_alloc _ _)
  have HD0 : Hid (Row V (w.heap.size + 1) [.slice A'.aP R.ps.length A'.cP, .slice A'.aN R.ns.length A'.cN, .slice A'.aU R.up.length A'.cU, .slice A'.aQ R.pss.length A'.cQ, .slice A'.aL R.lic.length A'.cL]) := by
    subst hV
    have h := row_fresh (w.alloc (.cells #[.slice A.aP R.ps.length A.cP, .slice A.aN R.ns.length A.cN, .slice A.aU R.up.length A.cU, .slice A.aQ R.pss.length A.cQ, .slice A.aL R.lic.length A.cL] 46)) [.slice A'.aP R.ps.length A'.cP, .slice A'.aN R.ns.length A'.cN, .slice A'.aU R.up.length A'.cU, .slice A'.aQ R.pss.length A'.cQ, .slice A'.aL R.lic.length A'.cL] 46
    rw [show (w.alloc (.cells #[.slice A.aP R.ps.length A.cP, .slice A.aN R.ns.length A.cN, .slice A.aU R.up.length A.cU, .slice A.aQ R.pss.length A.cQ, .slice A.aL R.lic.length A.cL] 46)).heap.size = w.heap.size + 1 by simp [go_sem]] at h
    exact h
  have HB0 : Hid (Below w.heap.size w V) := by subst hV; exact behind_alloc (low_alloc _ _) _
  clear hV
  go_wp2_with fail
  refine (eqTopo_c _ _ _ _ _ _ _ _ R.ps R.ps R.ns R.ns HM.out.p HM.out.n _ (H.out.sP.below HB0.out) (H.out.sN.below HB0.out) (H'.out.sP.below HB0.out) (H'.out.sN.below HB0.out)).mono ?_
  rintro e w1 ⟨rfl, hb⟩
  rw [decide_eq_true rfl, decide_eq_true rfl]
  have HA1 : Hid (Row w1 w.heap.size [.slice A.aP R.ps.length A.cP, .slice A.aN R.ns.length A.cN, .slice A.aU R.up.length A.cU, .slice A.aQ R.pss.length A.cQ, .slice A.aL R.lic.length A.cL]) := HA0.out.below hb
  have HD1 : Hid (Row w1 (w.heap.size + 1) [.slice A'.aP R.ps.length A'.cP, .slice A'.aN R.ns.length A'.cN, .slice A'.aU R.up.length A'.cU, .slice A'.aQ R.pss.length A'.cQ, .slice A'.aL R.lic.length A'.cL]) := HD0.out.below hb
  have HB1 : Hid (Below w.heap.size w w1) := below_then HB0.out hb
  clear hb HA0 HD0 HB0
  have a2 := HA1.out.cell 2 _ rfl
  have d2 := HD1.out.cell 2 _ rfl
  go_wp2_with fail
  refine (eqBoolS_c _ _ _ _ R.up HM.out.u _ (H.out.sU.below HB1.out) (H'.out.sU.below HB1.out)).mono ?_
  rintro e w2 ⟨rfl, hb⟩
  clear a2 d2
  have HA2 : Hid (Row w2 w.heap.size [.slice A.aP R.ps.length A.cP, .slice A.aN R.ns.length A.cN, .slice A.aU R.up.length A.cU, .slice A.aQ R.pss.length A.cQ, .slice A.aL R.lic.length A.cL]) := HA1.out.below hb
  have HD2 : Hid (Row w2 (w.heap.size + 1) [.slice A'.aP R.ps.length A'.cP, .slice A'.aN R.ns.length A'.cN, .slice A'.aU R.up.length A'.cU, .slice A'.aQ R.pss.length A'.cQ, .slice A'.aL R.lic.length A'.cL]) := HD1.out.below hb
  have HB2 : Hid (Below w.heap.size w w2) := below_then HB1.out hb
  clear hb HA1 HD1 HB1
  have a3 := HA2.out.cell 3 _ rfl
  have d3 := HD2.out.cell 3 _ rfl
  go_wp2_with fail
  refine (eqProfS_c _ _ _ _ R.pss HM.out.q HM.out.e _ (H.out.sQ.below HB2.out) (H'.out.sQ.below HB2.out)).mono ?_
  rintro e w3 ⟨rfl, hb⟩
  clear a3 d3
  have HA3 : Hid (Row w3 w.heap.size [.slice A.aP R.ps.length A.cP, .slice A.aN R.ns.length A.cN, .slice A.aU R.up.length A.cU, .slice A.aQ R.pss.length A.cQ, .slice A.aL R.lic.length A.cL]) := HA2.out.below hb
  have HD3 : Hid (Row w3 (w.heap.size + 1) [.slice A'.aP R.ps.length A'.cP, .slice A'.aN R.ns.length A'.cN, .slice A'.aU R.up.length A'.cU, .slice A'.aQ R.pss.length A'.cQ, .slice A'.aL R.lic.length A'.cL]) := HD2.out.below hb
  have HB3 : Hid (Below w.heap.size w w3) := below_then HB2.out hb
  clear hb HA2 HD2 HB2
  have a4 := HA3.out.cell 4 _ rfl
  have d4 := HD3.out.cell 4 _ rfl
  go_wp2_with fail
  refine (eqProf_c _ _ _ _ R.lic R.lic HM.out.l _ (H.out.sL.below HB3.out) (H'.out.sL.below HB3.out)).mono ?_
  rintro e w4 ⟨rfl, hb⟩
  rw [decide_eq_true rfl]
  clear a4 d4
  have HA4 : Hid (Row w4 w.heap.size [.slice A.aP R.ps.length A.cP, .slice A.aN R.ns.length A.cN, .slice A.aU R.up.length A.cU, .slice A.aQ R.pss.length A.cQ, .slice A.aL R.lic.length A.cL]) := HA3.out.below hb
  have HD4 : Hid (Row w4 (w.heap.size + 1) [.slice A'.aP R.ps.length A'.cP, .slice A'.aN R.ns.length A'.cN, .slice A'.aU R.up.length A'.cU, .slice A'.aQ R.pss.length A'.cQ, .slice A'.aL R.lic.length A'.cL]) := HD3.out.below hb
  have HB4 : Hid (Below w.heap.size w w4) := below_then HB3.out hb
  clear hb HA3 HD3 HB3
  go_wp2_with fail
  go_ret
  exact ⟨rfl, HB4.out⟩
end Go.Proofs.YtmpjebkjopfejaaGreat

namespace Go.Proofs.YtmpjebkjopfejaaGreat
open Go.ChangeShapes Go.WideShapes Go.ChangeAt Go.RowKit

set_option maxHeartbeats 4000000 in
theorem specTopoOk_main (a b : Option Addr) (c d : Nat) (ps : List Int) (ns : List Nd) (w : World) (h : Sq w a (ints ps)) (h' : Sq w b (flat ns)) (h0 : 1 ≤ ps.length) (h1 : ps.length ≤ 24) (h2 : ns.length ≤ 24) (h3 : ps[0]? = some 0) :
    Calls Tryz.prog 73 #[.agg #[.slice a ps.length c, .slice b ns.length d]] w (Says w (TopOk ps ns)) := by
  have hi : ¬ (ps.length : Int) < 1 := by omega
  have hi' : ¬ 24 < (ps.length : Int) := by omega
  have hi2 : ¬ 24 < (ns.length : Int) := by omega
  have hi3 : (0 : Int) < (ps.length : Int) := by omega
  have HT : Hid (ps[0]? = some 0) := h3
  have H : Hid (Sq w a (ints ps)) := h
  have H' : Hid (Sq w b (flat ns)) := h'
  obtain ⟨p, rfl, hpb, hc⟩ := (h.below (low_alloc w (.cells #[.slice a ps.length c, .slice b ns.length d] 40))).cell 0 _ (ints_at ps 0 h0)
  have hx : ps[0] = 0 := by
    have := List.getElem?_eq_getElem h0
    rw [h3] at this
    exact (Option.some.inj this).symm
  rw [hx, show p.add 0 = p from rfl] at hc
  clear h3 h h' hx
  go_enter Tryz.func73, Tryz.ntmps73
  go_wp2_with fail
  generalize hV : w.alloc (.cells #[.slice (some p) ps.length c, .slice b ns.length d] 40) = V at hc
  have HA : Hid (Row V w.heap.size [.slice (some p) ps.length c, .slice b ns.length d]) := by subst hV; exact row_fresh w [.slice (some p) ps.length c, .slice b ns.length d] 40
  have HV : Hid (Below w.heap.size w V) := by subst hV; exact low_alloc _ _
  clear hV hpb hc
  go_loopw [3] (fun i wr => ∃ k : Nat, 1 ≤ k ∧ k ≤ ps.length ∧ i = .int .i64 k ∧ (∀ (i : Nat) (x : Int), 1 ≤ i → i < k → ps[i]? = some x → 0 ≤ x ∧ x < i) ∧ Below V.heap.size V wr) (fun i _ => ps.length - (intOf i).toNat)
  case atStart => exact ⟨1, Nat.le_refl _, h0, rfl, fun i x h1 h2 => by omega, Below.refl _ _⟩
  case round =>
    obtain ⟨k, hk1, hk2, rfl, hi5, hb⟩ := hrel
    have HI : Hid (∀ (i : Nat) (x : Int), 1 ≤ i → i < k → ps[i]? = some x → 0 ≤ x ∧ x < i) := hi5
    have HB : Hid (Below V.heap.size V wr) := hb
    have t0 := (HA.out.below hb).cell 0 _ rfl
    have t1 := (HA.out.below hb).cell 1 _ rfl
    clear hi5 hb
    by_cases hlt : k < ps.length
    · have hj0 : (0 : Int) ≤ (k : Int) := by omega
      have hj1 : (k : Int) < (ps.length : Int) := by omega
      obtain ⟨p', hpp, _, hc⟩ := ((H.out.below HV.out).below HB.out).cell k _ (ints_at ps k hlt)
      cases hpp
      have HX : Hid (ps[k]? = some ps[k]) := List.getElem?_eq_getElem hlt
      generalize ps[k] = x at hc HX
      by_cases hx0 : x < 0
      · have HN : Hid (¬ TopOk ps ns) := fun t => by have := t.tree k x hk1 HX.out; omega
        go_wp2_with fail
        go_ret
        exact says_no rfl HN.out (below_then HV.out HB.out)
      · by_cases hx1 : (k : Int) ≤ x
        · have HN : Hid (¬ TopOk ps ns) := fun t => by have := t.tree k x hk1 HX.out; omega
          go_wp2_with fail
          go_ret
          exact says_no rfl HN.out (below_then HV.out HB.out)
        · have HI1 : Hid (∀ (i : Nat) (x : Int), 1 ≤ i → i < k + 1 → ps[i]? = some x → 0 ≤ x ∧ x < i) := fun i y h1 h2 h3 => by
            by_cases e : i = k
            · subst e
              rw [HX.out] at h3
              cases h3
              omega
            · exact HI.out i y h1 (by omega) h3
          go_wp2_with fail
          go_roundw
          case rel => exact ⟨k + 1, by omega, by omega, by go_num, HI1.out, HB.out⟩
          case measure => simp [intOf]; omega
    · have HTr : Hid (treeB ps) := fun i x h1 h2 => HI.out i x h1 (by have := (List.getElem?_eq_some_iff.1 h2).1; omega) h2
      clear HI
      go_wp2_with fail
      go_loopw [54] (fun i wq => ∃ j : Nat, j ≤ ns.length ∧ i = .int .i64 j ∧ (∀ n ∈ ns.take j, 0 ≤ n.l ∧ n.l < ps.length ∧ kidsTo ps n.l ps.length = [] ∧ vokB n.a n.b n.c = true) ∧ Below V.heap.size V wq) (fun i _ => ns.length - (intOf i).toNat)
      case atStart => exact ⟨0, Nat.zero_le _, rfl, fun n h => by simp at h, HB.out⟩
      case round =>
        obtain ⟨j, hj, rfl, hi5, hb⟩ := hrel
        have HI : Hid (∀ n ∈ ns.take j, 0 ≤ n.l ∧ n.l < ps.length ∧ kidsTo ps n.l ps.length = [] ∧ vokB n.a n.b n.c = true) := hi5
        have HB2 : Hid (Below V.heap.size V wr) := hb
        have r0 := (HA.out.below hb).cell 0 _ rfl
        have r1 := (HA.out.below hb).cell 1 _ rfl
        have hsz : w.heap.size < wr.heap.size := (HA.out.below hb).lt
        have hne : w.heap.size ≠ wr.heap.size := by omega
        clear hi5 hb t0 t1
        by_cases hlt2 : j < ns.length
        · have hj0 : (0 : Int) ≤ (j : Int) := by omega
          have hj1 : (j : Int) < (ns.length : Int) := by omega
          obtain ⟨p2, rfl, c0, c1, c2, c3⟩ := ((H'.out.below HV.out).below HB2.out).node j hlt2
          have HX : Hid (ns[j]? = some ns[j]) := List.getElem?_eq_getElem hlt2
          generalize ns[j] = n at c0 c1 c2 c3 HX
          have HMem : Hid (n ∈ ns) := List.mem_of_getElem? HX.out
          by_cases hn0 : n.l < 0
          · have HN : Hid (¬ TopOk ps ns) := fun t => by have := (t.node n HMem.out).1; omega
            go_wp2_with fail
            go_ret
            exact says_no rfl HN.out (behind_alloc (below_then HV.out HB2.out) _)
          · by_cases hn1 : (ps.length : Int) ≤ n.l
            · have HN : Hid (¬ TopOk ps ns) := fun t => by have := (t.node n HMem.out).2.1; omega
              go_wp2_with fail
              go_ret
              exact says_no rfl HN.out (behind_alloc (below_then HV.out HB2.out) _)
            · go_wp2_with fail
              have HQ3 : Hid (Row (wr.alloc (.cells #[.int .i64 n.l, .int .i64 n.a, .int .i64 n.b, .int .i64 n.c] 113)) wr.heap.size [.int .i64 n.l, .int .i64 n.a, .int .i64 n.b, .int .i64 n.c]) := row_fresh wr [.int .i64 n.l, .int .i64 n.a, .int .i64 n.b, .int .i64 n.c] 113
              have HB3 : Hid (Below V.heap.size V (wr.alloc (.cells #[.int .i64 n.l, .int .i64 n.a, .int .i64 n.b, .int .i64 n.c] 113))) := behind_alloc HB2.out _
              generalize wr.alloc (.cells #[.int .i64 n.l, .int .i64 n.a, .int .i64 n.b, .int .i64 n.c] 113) = w3 at HQ3 HB3
              generalize wr.heap.size = q at *
              clear r0 r1 c0 c1 c2 c3 HB2
              refine (l02Kids_c (some p) (some p2) c ns.length d ps n.l (by omega) _ ((H.out.below HV.out).below HB3.out)).mono ?_
              rintro e w4 ⟨a', cap, rfl, _, hb⟩
              have HB4 : Hid (Below V.heap.size V w4) := below_then HB3.out hb
              have q1 := (HQ3.out.below hb).cell 1 _ rfl
              have q2 := (HQ3.out.below hb).cell 2 _ rfl
              have q3 := (HQ3.out.below hb).cell 3 _ rfl
              have hkl := kids_len ps n.l ps.length
              clear hb HQ3 HB3
              by_cases hk0 : 0 < (kidsTo ps n.l ps.length).length
              · have HN : Hid (¬ TopOk ps ns) := fun t => by
                  have h := (t.node n HMem.out).2.2.1
                  rw [h] at hk0
                  simp at hk0
                generalize (kidsTo ps n.l ps.length).length = m at *
                have hk1 : (0 : Int) < (m : Int) := by omega
                go_wp2_with fail
                go_ret
                exact says_no rfl HN.out (below_then HV.out HB4.out)
              · have HK : Hid (kidsTo ps n.l ps.length = []) := by show _ = _; exact List.length_eq_zero_iff.1 (by omega)
                rw [HK.out] at hkl hk0 ⊢
                go_wp2_with fail
                refine (specVecOk_c n.a n.b n.c _).mono ?_
                rintro e w5 ⟨rfl, hb⟩
                have HB5 : Hid (Below V.heap.size V w5) := below_then HB4.out hb
                clear hb q1 q2 q3 HB4
                cases hv : vokB n.a n.b n.c
                · have HN : Hid (¬ TopOk ps ns) := fun t => by
                    have h := (t.node n HMem.out).2.2.2
                    rw [hv] at h
                    cases h
                  clear hv
                  go_wp2_with fail
                  go_ret
                  exact says_no rfl HN.out (below_then HV.out HB5.out)
                · have HI1 : Hid (∀ n ∈ ns.take (j + 1), 0 ≤ n.l ∧ n.l < ps.length ∧ kidsTo ps n.l ps.length = [] ∧ vokB n.a n.b n.c = true) := fun y hy => by
                    rw [List.take_add_one, HX.out, Option.toList_some] at hy
                    rcases List.mem_append.1 hy with hy | hy
                    · exact HI.out y hy
                    · have e := List.mem_singleton.1 hy
                      subst e
                      exact ⟨by omega, by omega, HK.out, hv⟩
                  clear hv
                  go_wp2_with fail
                  go_roundw
                  case rel => exact ⟨j + 1, by omega, by go_num, HI1.out, HB5.out⟩
                  case measure => simp [intOf]; omega
        · have HAll : Hid (∀ n ∈ ns, 0 ≤ n.l ∧ n.l < ps.length ∧ kidsTo ps n.l ps.length = [] ∧ vokB n.a n.b n.c = true) := fun n hn => HI.out n (by rw [List.take_of_length_le (by omega)]; exact hn)
          go_wp2_with fail
          refine (l02Level_c (some p) b c ns.length d ps (by omega) HTr.out ps.length 0 _ (by omega) (by omega) (by omega) ((H.out.below HV.out).below HB2.out)).mono ?_
          rintro e w3 ⟨rfl, hb⟩
          have HB3 : Hid (Below V.heap.size V w3) := below_then HB2.out hb
          clear hb
          have HLv : Hid (TopOk ps ns ↔ 0 ≤ lvF ps ps.length ((0 : Nat) : Int)) := ⟨fun t => t.level, fun h => ⟨h0, h1, h2, HT.out, HTr.out, HAll.out, h⟩⟩
          generalize lvF ps ps.length ((0 : Nat) : Int) = L at HLv ⊢
          go_wp2_with fail
          go_ret
          exact ⟨decide (0 ≤ L), rfl, by rw [decide_eq_true_eq]; exact HLv.out.symm, below_then HV.out HB3.out⟩

theorem specTopoOk_c (a b : Option Addr) (c d : Nat) (ps : List Int) (ns : List Nd) (hp : ps.length ≤ 1048576) (hn : ns.length ≤ 1048576) (w : World) (h : Sq w a (ints ps)) (h' : Sq w b (flat ns)) :
    Calls Tryz.prog 73 #[.agg #[.slice a ps.length c, .slice b ns.length d]] w (Says w (TopOk ps ns)) := by
  by_cases h0 : ps.length < 1
  · exact specTopoOk_none a b c d ps ns hp hn w h0
  · by_cases h1 : 24 < ps.length
    · exact specTopoOk_many a b c d ps ns hp hn w h1
    · by_cases h2 : 24 < ns.length
      · exact specTopoOk_full a b c d ps ns hp hn w (by omega) (by omega) h2
      · by_cases h3 : ps[0]? = some 0
        · exact specTopoOk_main a b c d ps ns w h h' (by omega) (by omega) (by omega) h3
        · exact specTopoOk_top a b c d ps ns hp hn w h (by omega) (by omega) (by omega) h3
end Go.Proofs.YtmpjebkjopfejaaGreat

namespace Go.Proofs.YtmpjebkjopfejaaGreat
open Go.ChangeShapes Go.WideShapes Go.ChangeAt Go.RowKit

/-- A right topology has the switch. -/
def SwOk (ps : List Int) (ns : List Nd) (s : Int) : Prop := TopOk ps ns ∧ 0 ≤ s ∧ s < ps.length


/-- From a switch up to the top. -/
def upF (ps : List Int) : Nat → Nat → List Int
  | 0, s => [(s : Int)]
  | f + 1, s => if 0 < s then (s : Int) :: upF ps f ((ps[s]?).getD 0).toNat else [(s : Int)]

theorem up_enough {ps : List Int} (ht : treeB ps) : ∀ (f f' s : Nat), s < ps.length → s ≤ f → s ≤ f' → upF ps f s = upF ps f' s
  | 0, 0, _, _, _, _ => rfl
  | 0, f' + 1, s, _, h1, _ => by
    obtain rfl : s = 0 := by omega
    simp [upF]
  | f + 1, 0, s, _, _, h2 => by
    obtain rfl : s = 0 := by omega
    simp [upF]
  | f + 1, f' + 1, s, h0, h1, h2 => by
    unfold upF
    split
    · rename_i hs
      have hx := ht s ps[s] hs (List.getElem?_eq_getElem h0)
      rw [List.getElem?_eq_getElem h0, Option.getD_some]
      rw [up_enough ht f f' _ (by omega) (by omega) (by omega)]
    · rfl

theorem up_len (ps : List Int) : ∀ (f s : Nat), (upF ps f s).length ≤ f + 1
  | 0, _ => by simp [upF]
  | f + 1, s => by
    unfold upF
    split
    · have := up_len ps f ((ps[s]?).getD 0).toNat
      simp
      omega
    · simp

theorem owns_lit (V : World) (xs : List Value) (e : TypeId) (h : xs.length ≤ 4294967296) : (V.alloc (.cells xs.toArray e)).ownsRow V.heap.size e 1 (.slice (some ⟨V.heap.size, 0, none⟩) xs.length xs.length) xs.length xs := by
  refine ⟨by simp, Or.inr ⟨V.heap.size, xs.length, xs.toArray, rfl, Nat.le_refl _, by show (V.heap.push _)[V.heap.size]? = _; simp, Nat.le_refl _, by unfold maxLen; omega, by simp, by simp⟩⟩

theorem owns_mono {w : World} {B B' : Nat} {e : TypeId} {size : Nat} {v : Value} {n : Nat} {xs : List Value} (h : w.ownsRow B e size v n xs) (hb : B' ≤ B) : w.ownsRow B' e size v n xs := by
  obtain ⟨hl, h⟩ := h
  refine ⟨hl, ?_⟩
  rcases h with h | ⟨g, cap, cur, h1, h2, h3⟩
  · exact .inl h
  · exact .inr ⟨g, cap, cur, h1, by omega, h3⟩

end Go.Proofs.YtmpjebkjopfejaaGreat

namespace Go.Proofs.YtmpjebkjopfejaaGreat
open Go.ChangeShapes Go.WideShapes Go.ChangeAt Go.RowKit

/-- Of the first k nodes those below s. -/
def belowTo (ps : List Int) (ns : List Nd) (s : Int) : Nat → List Int
  | 0 => []
  | k + 1 => if ∃ n, ns[k]? = some n ∧ s ∈ upF ps n.l.toNat n.l.toNat then belowTo ps ns s k ++ [(k : Int)] else belowTo ps ns s k

theorem below_len (ps : List Int) (ns : List Nd) (s : Int) : ∀ k, (belowTo ps ns s k).length ≤ k
  | 0 => Nat.le_refl _
  | k + 1 => by
    have := below_len ps ns s k
    unfold belowTo
    split
    · simp; omega
    · omega

theorem owns_below {w w' : World} {B n size : Nat} {e : TypeId} {v : Value} {xs : List Value} (h : w.ownsRow B e size v n xs) (hb : Below w.heap.size w w') : w'.ownsRow B e size v n xs :=
  h.kept (row := none) ⟨hb.os, hb.tape, hb.output, hb.size, fun i hi _ => hb.block i hi⟩ (by cases v.ownBlock <;> simp)

end Go.Proofs.YtmpjebkjopfejaaGreat
