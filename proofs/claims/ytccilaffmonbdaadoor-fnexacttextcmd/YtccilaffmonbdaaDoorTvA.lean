/- TextVec: the specification's. -/
import Derived.Test.YtccilaffmonbdaaDoorTvP
import Derived.Deep.Light
namespace Go.Proofs.YtccilaffmonbdaaDoor
open Go.ChangeShapes Go.WideShapes Go.ChangeAt Go.RowKit

/-- The three numbers behind the first j pieces. -/
def ints3 (P : List (List UInt8)) (j : Nat) : List Value := [.int .i64 (if 0 < j then pn P 0 else 0), .int .i64 (if 1 < j then pn P 1 else 0), .int .i64 (if 2 < j then pn P 2 else 0)]

theorem ints3_step (P : List (List UInt8)) (j : Nat) (h : j < 3) : (ints3 P j).set j (.int .i64 (pn P j)) = ints3 P (j + 1) := by
  rcases j with _ | _ | _ | j
  · simp [ints3]
  · simp [ints3]
  · simp [ints3]
  · omega

theorem ints3_on (P : List (List UInt8)) (j : Nat) (h : 3 ≤ j) : ints3 P j = ints3 P (j + 1) := by
  have e : ∀ i, i < 3 → (i < j) = (i < j + 1) := fun i hi => by rw [eq_iff_iff]; omega
  simp only [ints3, e 0 (by omega), e 1 (by omega), e 2 (by omega)]

theorem ints3_end (P : List (List UInt8)) : ints3 P P.length = [.int .i64 (pn P 0), .int .i64 (pn P 1), .int .i64 (pn P 2)] := by
  have e : ∀ i : Nat, (if i < P.length then pn P i else 0) = pn P i := by
    intro i
    split
    · rfl
    · rename_i h
      rw [pn, List.getElem?_eq_none (by omega)]
      rfl
  simp only [ints3, e]

theorem pn_at (P : List (List UInt8)) (j : Nat) (h : j < P.length) : pn P j = (tnR P[j]).1 := by
  rw [pn, List.getElem?_eq_getElem h]; rfl

theorem tn_bound (p : List UInt8) : 0 ≤ (tnR p).1 ∧ (tnR p).1 ≤ 1000000000 := by
  cases h : (tnR p).2
  · rw [tn_false h]; omega
  · have e := tn_true h
    unfold tnR at h ⊢
    cases hd : Lib.decFrom 0 p with
    | none => simp
    | some n =>
      simp only [hd] at h ⊢
      by_cases hn : numL n = p
      · simp only [if_pos hn]
        have := (num_some hn (num_ne_nil hd hn)).1
        exact tim_yes this
      · simp [if_neg hn]

set_option maxHeartbeats 2000000 in
theorem specTextVec_c (s : ByteArray) (hs : s.size ≤ 1048576) (w : World) :
    Calls Tryd.prog 55 #[.string s] w fun e w' => e = .returned (.tuple #[.agg #[.int .i64 (tvR s.data.toList).1.1, .int .i64 (tvR s.data.toList).1.2.1, .int .i64 (tvR s.data.toList).1.2.2], .bool (tvR s.data.toList).2]) ∧ Below w.heap.size w w' := by
  have HP : Hid (∀ p, p ∈ pcs 47 s.data.toList → p.length ≤ s.size) := fun p hp => pcs_size 47 s.data.toList p hp
  have hcnt : (pcs 47 s.data.toList).length ≤ s.size + 1 := pcs_count 47 s.data.toList
  go_enter Tryd.func55, Tryd.ntmps55
  go_wp2_with fail
  refine (specParts_c s 47 hs _).mono ?_
  rintro e V ⟨gp, cp, rfl, hgp, hrp, hbv⟩
  have HBV : Hid (Below w.heap.size w V) := below_then (by go_grown) hbv
  have HRP : Hid (Row V gp (strs (pcs 47 s.data.toList))) := hrp
  have HR0 : Hid (Row V w.heap.size [.int .i64 0, .int .i64 0, .int .i64 0]) := by
    have h0 : Row (w.alloc (.cells #[.int .i64 0, .int .i64 0, .int .i64 0] 38)) w.heap.size [.int .i64 0, .int .i64 0, .int .i64 0] := row_alloc w _ _
    exact (h0.below (by go_grown)).below hbv
  have HR1 : Hid (Row V (w.heap.size + 1) (ints3 (pcs 47 s.data.toList) 0)) := by
    have h0 := row_alloc (w.alloc (.cells #[.int .i64 0, .int .i64 0, .int .i64 0] 38)) [.int .i64 0, .int .i64 0, .int .i64 0] 3
    have h1 := h0.below hbv
    rw [World.size_alloc] at h1
    exact h1
  have hgp2 : w.heap.size + 2 ≤ gp := by simp at hgp; omega
  clear hbv hrp hgp
  generalize hP : pcs 47 s.data.toList = P at *
  have HQ : Hid (pcs 47 s.data.toList = P) := hP
  clear hP
  go_wp2_with fail
  go_loopw [12] (fun i wr => ∃ j : Nat, j ≤ P.length ∧ i = .int .i64 j ∧ Row wr gp (strs P) ∧ Row wr (w.heap.size + 1) (ints3 P j) ∧ Row wr w.heap.size [.int .i64 0, .int .i64 0, .int .i64 0] ∧ Below w.heap.size w wr) (fun i _ => P.length - (intOf i).toNat)
  case atStart => exact ⟨0, Nat.zero_le _, rfl, HRP.out, HR1.out, HR0.out, HBV.out⟩
  case round =>
    obtain ⟨j, hj, rfl, r1, r2, r3, hb⟩ := hrel
    have H1 : Hid (Row wr gp (strs P)) := r1
    have H2 : Hid (Row wr (w.heap.size + 1) (ints3 P j)) := r2
    have H3 : Hid (Row wr w.heap.size [.int .i64 0, .int .i64 0, .int .i64 0]) := r3
    have HB : Hid (Below w.heap.size w wr) := hb
    clear r1 r2 r3 hb HRP HR1 HR0 HBV
    by_cases hlt : j < P.length
    · have hi0 : (0 : Int) ≤ (j : Int) := by omega
      have hi1 : (j : Int) < (P.length : Int) := by omega
      have Hu : Hid ((strs P)[j]? = some (.string ⟨P[j].toArray⟩)) := by show _ = _; rw [strs_get, List.getElem?_eq_getElem hlt]; rfl
      have hc : wr.cell? ⟨gp, j, none⟩ = some (.string ⟨P[j].toArray⟩) := H1.out.cell j _ Hu.out
      by_cases h3 : j < 3
      · have h3' : (j : Int) < 3 := by omega
        have hsz : (⟨P[j].toArray⟩ : ByteArray).size ≤ maxLen := by
          have h1 := HP.out P[j] (List.getElem_mem hlt)
          have e : (⟨P[j].toArray⟩ : ByteArray).size = P[j].length := by simp [ByteArray.size]
          unfold maxLen
          omega
        go_wp2_with fail
        refine (specTextNum_all _ _ hsz).mono ?_
        rintro e w1 ⟨rfl, hb1⟩
        have K1 : Hid (Row w1 gp (strs P)) := H1.out.below hb1
        have K2 : Hid (Row w1 (w.heap.size + 1) (ints3 P j)) := H2.out.below hb1
        have K3 : Hid (Row w1 w.heap.size [.int .i64 0, .int .i64 0, .int .i64 0]) := H3.out.below hb1
        have KB : Hid (Below w.heap.size w w1) := below_then HB.out hb1
        obtain ⟨u, hu⟩ : ∃ u, w1.cell? ⟨w.heap.size + 1, j, none⟩ = some u := ⟨_, K2.out.cell j _ (List.getElem?_eq_getElem (show j < (ints3 P j).length from h3))⟩
        have hf : w1.frozen? ⟨w.heap.size + 1, j, none⟩ = false := K2.out.free j
        have hg1 := Lib.grownBy_setB (a := w1) (w := w1) (b := w.heap.size + 1) ⟨rfl, rfl, rfl, Nat.le_refl _, fun _ _ _ => rfl⟩ j (.int .i64 (tnR P[j]).1)
        have L1 : Hid (Row (w1.setCell ⟨w.heap.size + 1, j, none⟩ (.int .i64 (tnR P[j]).1)) gp (strs P)) := K1.out.far hg1 (by simp; omega)
        have L3 : Hid (Row (w1.setCell ⟨w.heap.size + 1, j, none⟩ (.int .i64 (tnR P[j]).1)) w.heap.size [.int .i64 0, .int .i64 0, .int .i64 0]) := K3.out.far hg1 (by simp)
        have L2 : Hid (Row (w1.setCell ⟨w.heap.size + 1, j, none⟩ (.int .i64 (tnR P[j]).1)) (w.heap.size + 1) (ints3 P (j + 1))) := by
          have := K2.out.set j (show j < (ints3 P j).length from h3) (.int .i64 (tnR P[j]).1)
          rw [← pn_at P j hlt, ints3_step P j h3, pn_at P j hlt] at this
          exact this
        clear hb1 hc hsz H1 H2 H3 HB K1 K2 K3 hg1
        generalize hv : (tnR P[j]).1 = v at *
        clear hv
        go_wp2_with fail
        exact ⟨⟨j + 1, by omega, by go_num, L1.out, L2.out, L3.out, KB.out.setCell (by simp) _⟩, by simp [intOf]; omega⟩
      · have h3' : ¬ (j : Int) < 3 := by omega
        have L2 : Hid (Row wr (w.heap.size + 1) (ints3 P (j + 1))) := by rw [← ints3_on P j (by omega)]; exact H2.out
        clear H2
        go_wp2_with fail
        exact ⟨⟨j + 1, by omega, by go_num, H1.out, L2.out, H3.out, HB.out⟩, by simp [intOf]; omega⟩
    · have hje : j = P.length := by omega
      subst hje
      have H4 := H2.out
      rw [ints3_end] at H4
      have HT : Hid (∀ a b c, pn P 0 = a → pn P 1 = b → pn P 2 = c → (vtL a b c = s.data.toList → tvR s.data.toList = ((a, b, c), true)) ∧ (¬ vtL a b c = s.data.toList → tvR s.data.toList = ((0, 0, 0), false))) := by
        intro a b c ha hb hc
        subst ha hb hc
        have e := HQ.out
        subst e
        exact ⟨fun h => tv_true h, fun h => tv_false h⟩
      have HT2 := HT.out _ _ _ rfl rfl rfl
      generalize pn P 0 = a at *
      generalize pn P 1 = b at *
      generalize pn P 2 = c at *
      have c0 : wr.cell? ⟨w.heap.size + 1, 0, none⟩ = some (.int .i64 a) := H4.cell 0 _ rfl
      have c1 : wr.cell? ⟨w.heap.size + 1, 1, none⟩ = some (.int .i64 b) := H4.cell 1 _ rfl
      have c2 : wr.cell? ⟨w.heap.size + 1, 2, none⟩ = some (.int .i64 c) := H4.cell 2 _ rfl
      have n0 : wr.heap.size ≠ w.heap.size + 1 := by have := H4.lt; omega
      have HT3 : Hid ((vtL a b c = s.data.toList → tvR s.data.toList = ((a, b, c), true)) ∧ (¬ vtL a b c = s.data.toList → tvR s.data.toList = ((0, 0, 0), false))) := HT2
      clear HT HT2 H4 H2 H1 HP HQ hlt hj
      go_wp2_with fail
      go_region_held3 (fun w' => w'.cell? ⟨w.heap.size + 1, 0, none⟩ = some (.int .i64 a) ∧ w'.cell? ⟨w.heap.size + 1, 1, none⟩ = some (.int .i64 b) ∧ w'.cell? ⟨w.heap.size + 1, 2, none⟩ = some (.int .i64 c)) (go_keep) (fail)
      go_split_ands
      go_wp2_with fail
      refine (specVecText_all a b c _).mono ?_
      rintro e w5 ⟨rfl, hb5⟩
      obtain ⟨d0, d1, d2⟩ := kept3 hb5 wr.heap.size (.int .i64 a) (.int .i64 b) (.int .i64 c) (by go_size) (by simp [go_sem])
      have HR5 : Hid (Row w5 w.heap.size [.int .i64 0, .int .i64 0, .int .i64 0]) := (H3.out.below (by go_grown)).below hb5
      have HB5 : Hid (Below w.heap.size w w5) := below_then (below_then HB.out (by go_grown)) hb5
      have q0 : w5.cell? ⟨w.heap.size, 0, none⟩ = some (.int .i64 0) := HR5.out.cell 0 _ rfl
      have q1 : w5.cell? ⟨w.heap.size, 1, none⟩ = some (.int .i64 0) := HR5.out.cell 1 _ rfl
      have q2 : w5.cell? ⟨w.heap.size, 2, none⟩ = some (.int .i64 0) := HR5.out.cell 2 _ rfl
      have f0 : w5.frozen? ⟨w.heap.size, 0, none⟩ = false := HR5.out.free 0
      have f1 : w5.frozen? ⟨w.heap.size, 1, none⟩ = false := HR5.out.free 1
      have f2 : w5.frozen? ⟨w.heap.size, 2, none⟩ = false := HR5.out.free 2
      clear hb5 HR5 H3 HB c0 c1 c2
      by_cases heq : vtL a b c = s.data.toList
      · have Hr : Hid (tvR s.data.toList = ((a, b, c), true)) := HT3.out.1 heq
        have Hs : Hid ((⟨(vtL a b c).toArray⟩ : ByteArray) = s) := by show _ = _; rw [heq]
        clear heq HT3
        rw [Hs.out]
        go_wp2_with fail
        have hb6 := HB5.out
        exact bodyPost_ret (v := .tuple #[.agg #[.int .i64 a, .int .i64 b, .int .i64 c], .bool true]) (by simp [results, Tryd.results55, go_sem, *]) rfl ⟨by rw [Hr.out], by go_grown⟩
      · have Hr : Hid (tvR s.data.toList = ((0, 0, 0), false)) := HT3.out.2 heq
        have hne : (vtL a b c == s.toList) = false := by rw [ByteArray.toList_eq]; simpa using heq
        clear heq HT3
        go_wp2_with fail
        have hb6 := HB5.out
        exact bodyPost_ret (v := .tuple #[.agg #[.int .i64 0, .int .i64 0, .int .i64 0], .bool false]) (by simp [results, Tryd.results55, go_sem, *]) rfl ⟨by rw [Hr.out], by go_grown⟩
end Go.Proofs.YtccilaffmonbdaaDoor
