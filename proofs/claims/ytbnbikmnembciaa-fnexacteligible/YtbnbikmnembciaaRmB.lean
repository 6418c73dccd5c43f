/- Rooms: profiles in a row copied, held against each other, counted. -/
import Derived.Test.YtbnbikmnembciaaRmA
import Derived.Test.YtbnbikmnembciaaBehA
namespace Go.Proofs.Ytbnbikmnembciaa
open Go.ChangeShapes Go.WideShapes Go.ChangeAt Go.RowKit

theorem infoProf : (Try.prog.info? 43).map (fun i => (i.zero, i.size, i.bytes)) = some (some (.agg #[.slice none 0 0]), 1, 24) := by kernel_rfl
/-- 'make([]impl.Prof, n)'. -/
theorem make_profs (n : Nat) (hn : n ≤ 1048576) : ∃ Z : List Value, Z.length = n ∧ ∀ w : World, (Instr.makeSlice 40 (.int .i64 (n : Int)) (.int .i64 (n : Int))).run Try.prog w = .ok (.slice (some ⟨w.heap.size, 0, none⟩) n n) (w.alloc (.cells Z.toArray 43)) := by
  obtain ⟨i0, hi, hz0, hz1, hz2⟩ := info_parts infoProf
  refine ⟨(madeCells (Value.agg #[.slice none 0 0]).cells (n * i0.size)).toList, ?_, fun w => ?_⟩
  · rw [hz1]
    simp [madeCells, Value.cells]
  · have h := run_make (P := Try.prog) (w := w) 40 43 i0 (.agg #[.slice none 0 0]) Try.underlying40 hi hz0 .i64 .i64 (n : Int) (n : Int) (by omega) (Int.le_refl _) (by rw [hz2]; omega) (by omega)
    simpa using h

/-- How far the copying has come. -/
structure CopP (w : World) (g : Nat) (pss : List (List Nd)) (hs : List Nat) (ys : List Value) : Prop where
  len : ys.length = pss.length
  le : hs.length ≤ pss.length
  row : Row w g ys
  top : ∀ (i h : Nat) ns, hs[i]? = some h → pss[i]? = some ns → ys[i]? = some (.slice (some ⟨h, 0, none⟩) ns.length ns.length)
  each : ∀ (i h : Nat) ns, hs[i]? = some h → pss[i]? = some ns → Row w h (flat ns)
  rise : List.Pairwise (· < ·) (g :: hs)
  low : ∀ h ∈ hs, h < w.heap.size

theorem CopP.below {w w' : World} {g : Nat} {pss : List (List Nd)} {hs : List Nat} {ys : List Value} (h : CopP w g pss hs ys) (hb : Below w.heap.size w w') : CopP w' g pss hs ys :=
  ⟨h.len, h.le, h.row.below hb, h.top, fun i x ns h1 h2 => (h.each i x ns h1 h2).below hb, h.rise, fun x hx => Nat.lt_of_lt_of_le (h.low x hx) hb.size⟩

theorem CopP.next {w : World} {g x : Nat} {pss : List (List Nd)} {hs : List Nat} {ys : List Value} {ns : List Nd} (h : CopP w g pss hs ys) (hn : pss[hs.length]? = some ns) (hr : Row w x (flat ns)) (hx : ∀ y ∈ hs, y < x) (hg : g < x) :
    CopP (w.setCell ⟨g, hs.length, none⟩ (.slice (some ⟨x, 0, none⟩) ns.length ns.length)) g pss (hs ++ [x]) (ys.set hs.length (.slice (some ⟨x, 0, none⟩) ns.length ns.length)) := by
  have hl := (List.getElem?_eq_some_iff.1 hn).1
  have hgs : ∀ y ∈ hs, g < y := (List.pairwise_cons.1 h.rise).1
  have hcase : ∀ (i y : Nat), (hs ++ [x])[i]? = some y → (hs[i]? = some y ∧ i < hs.length) ∨ (i = hs.length ∧ y = x) := fun i y hy => by
    by_cases hi : i < hs.length
    · rw [List.getElem?_append_left hi] at hy
      exact .inl ⟨hy, hi⟩
    · have hil := (List.getElem?_eq_some_iff.1 hy).1
      simp at hil
      have e : i = hs.length := by omega
      subst e
      rw [List.getElem?_append_right (Nat.le_refl _)] at hy
      simp at hy
      exact .inr ⟨rfl, hy.symm⟩
  refine ⟨by rw [List.length_set]; exact h.len, by simp; omega, h.row.set _ (by rw [h.len]; exact hl) _, fun i y ms hy hm => ?_, fun i y ms hy hm => ?_, ?_, fun y hy => ?_⟩
  · rcases hcase i y hy with ⟨h1, hi⟩ | ⟨rfl, rfl⟩
    · rw [List.getElem?_set_ne (by omega)]
      exact h.top i y ms h1 hm
    · rw [hn] at hm
      cases hm
      rw [List.getElem?_set_self (by rw [h.len]; exact hl)]
  · rcases hcase i y hy with ⟨h1, hi⟩ | ⟨rfl, rfl⟩
    · exact (h.each i y ms h1 hm).apart g _ _ (by have := hgs y (List.mem_of_getElem? h1); omega)
    · rw [hn] at hm
      cases hm
      exact hr.apart g _ _ (by omega)
  · rw [← List.cons_append, List.pairwise_append]
    refine ⟨h.rise, by simp, fun u hu y hy => ?_⟩
    obtain rfl := List.mem_singleton.1 hy
    rcases List.mem_cons.1 hu with rfl | hu
    · exact hg
    · exact hx u hu
  · rw [World.size_setCell]
    rcases List.mem_append.1 hy with hy | hy
    · exact h.low y hy
    · obtain rfl := List.mem_singleton.1 hy
      exact hr.lt

theorem CopP.done {w : World} {g : Nat} {pss : List (List Nd)} {hs : List Nat} {ys : List Value} (h : CopP w g pss hs ys) (hl : hs.length = pss.length) : OPs w g pss hs := by
  refine ⟨hl, ?_, h.each, h.rise⟩
  have e : ys = List.zipWith (fun h (ns : List Nd) => Value.slice (some ⟨h, 0, none⟩) ns.length ns.length) hs pss := by
    apply List.ext_getElem?
    intro i
    by_cases hi : i < pss.length
    · have h1 : hs[i]? = some hs[i] := List.getElem?_eq_getElem (by omega)
      have h2 : pss[i]? = some pss[i] := List.getElem?_eq_getElem hi
      rw [h.top i _ _ h1 h2, List.getElem?_zipWith, h1, h2]
    · rw [List.getElem?_eq_none (by rw [h.len]; omega), List.getElem?_eq_none (by simp; omega)]
  rw [← e]
  exact h.row

set_option maxHeartbeats 2000000 in
theorem toProfS_c (a : Option Addr) (cap : Nat) (pss : List (List Nd)) (hl : pss.length ≤ 1048576) (hl2 : ∀ ns ∈ pss, ns.length ≤ 1048576) (w : World) (h : PVs w a pss) :
    Calls Try.prog 23 #[.slice a pss.length cap] w fun e w' =>
      ∃ g hs, e = .returned (.slice (some ⟨g, 0, none⟩) pss.length pss.length) ∧ w.heap.size ≤ g ∧ OPs w' g pss hs ∧ Below w.heap.size w w' := by
  have H : Hid (PVs w a pss) := h
  have HL : Hid (∀ ns ∈ pss, ns.length ≤ 1048576) := hl2
  clear h hl2
  obtain ⟨Z, hZ, hmk⟩ := make_profs pss.length hl
  go_enter Try.func23, Try.ntmps23
  go_wp2_with fail
  go_loopw [4] (fun i wr => ∃ (hs : List Nat) (ys : List Value), i = .int .i64 (hs.length : Int) ∧ CopP wr w.heap.size pss hs ys ∧ Below w.heap.size w wr) (fun i _ => pss.length - (intOf i).toNat)
  case atStart => exact ⟨[], Z, rfl, ⟨hZ, Nat.zero_le _, row_fresh w Z 43, fun i h ns h1 => by simp at h1, fun i h ns h1 => by simp at h1, by simp, fun h hh => by simp at hh⟩, by go_grown⟩
  case round =>
    obtain ⟨hs, ys, rfl, hcp, hb⟩ := hrel
    have HP : Hid (CopP wr w.heap.size pss hs ys) := hcp
    have HB : Hid (Below w.heap.size w wr) := hb
    have hle := hcp.le
    clear hcp hb hmk hZ
    generalize hjj : hs.length = j at *
    have HJ : Hid (hs.length = j) := hjj
    clear hjj
    by_cases hlt : j < pss.length
    · have hi0 : (0 : Int) ≤ (j : Int) := by omega
      have hi1 : (j : Int) < (pss.length : Int) := by omega
      have HE : Hid (pss[j]? = some pss[j]) := List.getElem?_eq_getElem hlt
      have hnl := HL.out pss[j] (List.getElem_mem hlt)
      generalize pss[j] = ns at HE hnl
      obtain ⟨p, q, c, rfl, hpl, hc, hsq⟩ := (H.out.below HB.out).here j ns HE.out
      have HQ : Hid (Sq wr q (flat ns)) := hsq
      clear hsq
      go_wp2_with fail
      refine (toProf_c q c ns hnl _ HQ.out).mono ?_
      rintro e w1 ⟨x, rfl, hx, hr, hb⟩
      have HP1 : Hid (CopP w1 w.heap.size pss hs ys) := HP.out.below hb
      have HB1 : Hid (Below w.heap.size w w1) := below_then HB.out hb
      have HX1 : Hid (Row w1 x (flat ns)) := hr
      have hbs : w.heap.size < x := by have := HP.out.row.lt; omega
      have Hlow : Hid (∀ y ∈ hs, y < x) := fun y hy => by have := HP.out.low y hy; omega
      have hy : j < ys.length := by rw [HP1.out.len]; exact hlt
      have d0 := HP1.out.row.cell j _ (List.getElem?_eq_getElem hy)
      have f0 := HP1.out.row.free j
      have HN : Hid (CopP (w1.setCell ⟨w.heap.size, j, none⟩ (.slice (some ⟨x, 0, none⟩) ns.length ns.length)) w.heap.size pss (hs ++ [x]) (ys.set j (.slice (some ⟨x, 0, none⟩) ns.length ns.length))) := by
        have hn := HP1.out.next (ns := ns) (x := x) (by rw [HJ.out]; exact HE.out) HX1.out Hlow.out hbs
        rw [HJ.out] at hn
        exact hn
      have HD : Hid (Below w.heap.size w (w1.setCell ⟨w.heap.size, j, none⟩ (.slice (some ⟨x, 0, none⟩) ns.length ns.length))) := HB1.out.setCell (Nat.le_refl _) _
      generalize ys[j] = u at d0
      clear hb hr hc
      go_wp2_with fail
      exact ⟨⟨hs ++ [x], _, by simp [HJ.out], HN.out, HD.out⟩, by simp [intOf]; omega⟩
    · have HO : Hid (OPs wr w.heap.size pss hs) := HP.out.done (by have := HJ.out; omega)
      go_wp2_with fail
      go_ret
      exact ⟨_, hs, rfl, Nat.le_refl _, HO.out, HB.out⟩

set_option maxHeartbeats 2000000 in
theorem eqProfS_c (a b : Option Addr) (c d : Nat) (pss : List (List Nd)) (hl : pss.length ≤ 1048576) (hl2 : ∀ ns ∈ pss, ns.length ≤ 1048576) (w : World) (h : PVs w a pss) (h' : PVs w b pss) :
    Calls Try.prog 31 #[.slice a pss.length c, .slice b pss.length d] w fun e w' => e = .returned (.bool true) ∧ Below w.heap.size w w' := by
  have H : Hid (PVs w a pss) := h
  have H' : Hid (PVs w b pss) := h'
  have HL : Hid (∀ ns ∈ pss, ns.length ≤ 1048576) := hl2
  clear h h' hl2
  go_enter Try.func31, Try.ntmps31
  go_wp2_with fail
  go_loopw [5] (fun i wr => ∃ j : Nat, j ≤ pss.length ∧ i = .int .i64 j ∧ Below w.heap.size w wr) (fun i _ => pss.length - (intOf i).toNat)
  case atStart => exact ⟨0, Nat.zero_le _, rfl, Below.refl _ _⟩
  case round =>
    obtain ⟨j, hj, rfl, hb⟩ := hrel
    have HB : Hid (Below w.heap.size w wr) := hb
    clear hb
    by_cases hlt : j < pss.length
    · have hi0 : (0 : Int) ≤ (j : Int) := by omega
      have hi1 : (j : Int) < (pss.length : Int) := by omega
      have HE : Hid (pss[j]? = some pss[j]) := List.getElem?_eq_getElem hlt
      have hnl := HL.out pss[j] (List.getElem_mem hlt)
      generalize pss[j] = ns at HE hnl
      obtain ⟨p, q, c1, rfl, hpl, hc, hsq⟩ := (H.out.below HB.out).here j ns HE.out
      obtain ⟨p', q', c1', rfl, hpl', hc', hsq'⟩ := (H'.out.below HB.out).here j ns HE.out
      have HQ : Hid (Sq wr q (flat ns)) := hsq
      have HQ' : Hid (Sq wr q' (flat ns)) := hsq'
      clear hsq hsq'
      go_wp2_with fail
      have HC : Hid (∀ N : Beh wr, Calls Try.prog 32 #[.agg #[.slice q ns.length c1], .agg #[.slice q' ns.length c1']] N.w fun e w' => e = .returned (.bool true) ∧ Below N.w.heap.size N.w w') := fun N => by
        have h := eqProf_c q q' c1 c1' ns ns hnl N.w (HQ.out.below N.low) (HQ'.out.below N.low)
        rw [decide_eq_true rfl] at h
        exact h
      have hsome := beh_some wr
      have k1 := Beh.cell hc
      have k2 := Beh.cell hc'
      refine wp_region_beh (by kernel_rfl) (by kernel_rfl) ?_
      repeat (go_big_quiet_step (with_reducible exact calls_beh (HC.out _)))
      refine wpQuiet_nil ?_
      rintro ⟨w1, hb⟩
      have HB1 : Hid (Below w.heap.size w w1) := below_then HB.out hb
      clear hc hc' k1 k2 hsome
      go_wp2_with fail
      exact ⟨⟨j + 1, by omega, by go_num, HB1.out⟩, by simp [intOf]; omega⟩
    · go_wp2_with fail
      go_ret
      exact ⟨rfl, HB.out⟩
end Go.Proofs.Ytbnbikmnembciaa
