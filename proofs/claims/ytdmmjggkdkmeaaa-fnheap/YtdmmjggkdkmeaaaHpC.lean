/- A heap that grows: the specification's HeapPush. -/
import Derived.Test.YtdmmjggkdkmeaaaHpB
import Derived.Test.YtdmmjggkdkmeaaaAppS
import Derived.Test.YtdmmjggkdkmeaaaCmS
import Derived.Test.YtdmmjggkdkmeaaaDlC
import Derived.Deep.RegionHeldLaw
import Derived.Deep.DeepCutAuto
namespace Go.Proofs.Ytdmmjggkdkmeaaa
open Go.ChangeShapes Go.WideShapes Go.ChangeAt Go.RowKit

theorem szDue : (Try.prog.info? 30).map (·.size) = some 2 := by kernel_rfl
theorem flatD_add (xs ys : List Du) : flatD (xs ++ ys) = flatD xs ++ flatD ys := by simp [flatD]
theorem flatD_one (l : List Du) : ∀ u ∈ flatD l, u.oneCell' = true := fun u hu => by
  simp only [flatD, List.mem_flatMap] at hu
  obtain ⟨x, _, hx⟩ := hu
  simp only [Du.cells, List.mem_cons, List.not_mem_nil, or_false] at hx
  rcases hx with rfl | rfl <;> rfl
theorem flatD_set {l : List Du} {i : Nat} (x : Du) (h : i < l.length) : putL (flatD l) (i * 2) x.cells = flatD (l.set i x) := by
  apply List.ext_getElem?
  intro m
  have hlen := flatD_len l
  have hlen2 := flatD_len (l.set i x)
  rw [List.length_set] at hlen2
  by_cases hm : m < 2 * l.length
  · have h2 := flatD_get (l.set i x) (m / 2) (m % 2) (by rw [List.length_set]; omega) (by omega)
    have h1 := flatD_get l (m / 2) (m % 2) (by omega) (by omega)
    rw [show m / 2 * 2 + m % 2 = m by omega] at h1 h2
    rw [h2]
    by_cases e : m / 2 = i
    · have e2 : (l.set i x)[m / 2]'(by rw [List.length_set]; omega) = x := by subst e; simp
      rw [e2]
      have := putL_in x.cells (flatD l) (i * 2) (m % 2) (by rw [hlen]; simp [Du.cells]; omega) (by simp [Du.cells]; omega)
      rw [← this]
      congr 1
      omega
    · rw [putL_out _ _ _ _ (by simp only [Du.cells, List.length_cons, List.length_nil]; omega), h1]
      have e2 : (l.set i x)[m / 2]'(by rw [List.length_set]; omega) = l[m / 2]'(by omega) := by rw [List.getElem_set_ne (fun e' => e e'.symm)]
      rw [e2]
  · rw [List.getElem?_eq_none (by rw [putL_len]; omega), List.getElem?_eq_none (by omega)]
theorem ownsD_below {w w' : World} {B n : Nat} {e : TypeId} {v : Value} {xs : List Value} {size : Nat} (h : w.ownsRow B e size v n xs) (hb : Below w.heap.size w w') : w'.ownsRow B e size v n xs := by
  obtain ⟨hlen, h⟩ := h
  refine ⟨hlen, ?_⟩
  rcases h with h | ⟨g, cap, cur, hv, hB, hg, r⟩
  · exact .inl h
  · refine .inr ⟨g, cap, cur, hv, hB, ?_, r⟩
    have hlt : g < w.heap.size := by
      rcases Nat.lt_or_ge g w.heap.size with h' | h'
      · exact h'
      · rw [Array.getElem?_eq_none h'] at hg; cases hg
    rw [hb.block g hlt]
    exact hg
/-- What a heap tells that takes one more. -/
def POkh (l : List Du) (x : Du) : Prop := HOk l ∧ dueB x = true ∧ l.length ≠ 200
def RetH (w : World) (p : Prop) (r : List Du) (e : Ending) (w' : World) : Prop :=
  ∃ k v, e = .returned (.tuple #[v, .bool k]) ∧ (k = true ↔ p) ∧ AnsD w.heap.size w'.heap.size w' (bif k then r else []).length (flatD (bif k then r else [])) v ∧ Below w.heap.size w w'
theorem RetH.no {w w' : World} {p : Prop} {r : List Du} {e : Ending} (he : e = .returned (.tuple #[.slice none 0 0, .bool false])) (h : ¬ p) (hb : Below w.heap.size w w') : RetH w p r e w' :=
  ⟨false, _, he, by simp [h], AnsD.none _ _ _ _ _, hb⟩
theorem RetH.yes {w w' : World} {p : Prop} {r : List Du} {e : Ending} {v : Value} (he : e = .returned (.tuple #[v, .bool true])) (h : p) (ha : AnsD w.heap.size w'.heap.size w' r.length (flatD r) v) (hb : Below w.heap.size w w') : RetH w p r e w' :=
  ⟨true, _, he, by simp [h], ha, hb⟩
/-- One more fact of a list with one change of places. -/
theorem dsw_two {l : List Du} {i j : Nat} {x y : Du} (hx : dg l i = x) (hy : dg l j = y) : (l.set i y).set j x = dsw l i j := by subst hx; subst hy; rfl
set_option maxHeartbeats 4000000 in
set_option maxRecDepth 100000 in
theorem specHeapPush_c (b : Option Addr) (d : Nat) (l : List Du) (hl : l.length ≤ 1048576) (x : Du) (w : World) (h : Sq w b (flatD l)) :
    Calls Try.prog 22 #[.slice b l.length d, .agg #[.int .i64 x.t, .int .i64 x.n]] w (RetH w (POkh l x) (dpush l x)) := by
  have H : Hid (Sq w b (flatD l)) := h
  clear h
  go_enter Try.func22, Try.ntmps22
  go_wp2_with fail
  have HX : Hid (Row (w.alloc (.cells #[.int .i64 x.t, .int .i64 x.n] 30)) w.heap.size [.int .i64 x.t, .int .i64 x.n]) := row_fresh w [.int .i64 x.t, .int .i64 x.n] 30
  have HB : Hid (Below w.heap.size w (w.alloc (.cells #[.int .i64 x.t, .int .i64 x.n] 30))) := low_alloc _ _
  generalize w.alloc (.cells #[.int .i64 x.t, .int .i64 x.n] 30) = V at HX HB ⊢
  refine (specHeapOk_c b d l hl _ (H.out.below HB.out)).mono ?_
  rintro e w1 ⟨k1, rfl, hk, hb⟩
  replace HX : Hid (Row w1 w.heap.size [.int .i64 x.t, .int .i64 x.n]) := HX.out.below hb
  replace HB : Hid (Below w.heap.size w w1) := below_then HB.out hb
  have HK : Hid (k1 = true ↔ HOk l) := hk
  clear hb hk
  cases k1
  · have HN : Hid (¬ POkh l x) := fun t => by have := HK.out.2 t.1; cases this
    go_wp2_with fail
    go_ret2
    exact RetH.no rfl HN.out HB.out
  · have HDu : Hid (∀ W : World, Calls Try.prog 42 #[.agg #[.int .i64 x.t, .int .i64 x.n]] W fun e w' => e = .returned (.bool (dueB x)) ∧ Below W.heap.size W w') := fun W => l10Due_c x W
    have HY : Hid (HOk l) := HK.out.1 rfl
    have d0 := HX.out.cell 0 _ rfl
    have d1 := HX.out.cell 1 _ rfl
    go_wp2_with fail
    clear d0 d1 HK
    refine (HDu.out _).mono ?_
    rintro e w2 ⟨rfl, hb⟩
    replace HX : Hid (Row w2 w.heap.size [.int .i64 x.t, .int .i64 x.n]) := HX.out.below hb
    replace HB : Hid (Below w.heap.size w w2) := below_then HB.out hb
    clear hb HDu
    cases hd : dueB x
    · have HN : Hid (¬ POkh l x) := fun t => by have := t.2.1; rw [hd] at this; cases this
      clear hd
      go_wp2_with fail
      go_ret2
      exact RetH.no rfl HN.out HB.out
    · by_cases h200 : l.length = 200
      · have HN : Hid (¬ POkh l x) := fun t => t.2.2 h200
        have e2 : ((l.length : Int) == 200) = true := by simp; omega
        clear hd h200
        go_wp2_with fail
        go_ret2
        exact RetH.no rfl HN.out HB.out
      · have HP : Hid (POkh l x) := ⟨HY.out, hd, h200⟩
        have e2 : ((l.length : Int) == 200) = false := by rw [beq_eq_false_iff_ne]; omega
        have h199 : l.length ≤ 199 := by have := HY.out.1; omega
        clear hd h200
        obtain ⟨i0, hi, hz0, hz1, hz2⟩ := info_parts infoDue
        go_wp2_with fail
        have HU : Hid (Below w2.heap.size w2 ((w2.alloc (.cells #[] 30)).alloc (.cells #[.int .i64 x.t, .int .i64 x.n] 30)).drew) := below_then (behind_alloc (low_alloc _ _) _) (low_drew _)
        have HLl : Hid (Sq ((w2.alloc (.cells #[] 30)).alloc (.cells #[.int .i64 x.t, .int .i64 x.n] 30)).drew b (flatD l)) := (H.out.below HB.out).below HU.out
        have HOw : Hid ((((w2.alloc (.cells #[] 30)).alloc (.cells #[.int .i64 x.t, .int .i64 x.n] 30)).drew).ownsRow w2.heap.size 30 2 (.slice (some ⟨w2.heap.size, 0, none⟩) 0 0) 0 []) := ownsD_below ((World.ownsRow_made w2 #[] 0 (Nat.le_refl _) (by decide) rfl).alloc _) (low_drew _)
        have HX1 : Hid (Row ((w2.alloc (.cells #[] 30)).alloc (.cells #[.int .i64 x.t, .int .i64 x.n] 30)).drew (w2.heap.size + 1) [.int .i64 x.t, .int .i64 x.n]) := by
          have h := row_fresh (w2.alloc (.cells #[] 30)) [.int .i64 x.t, .int .i64 x.n] 30
          rw [show (w2.alloc (.cells #[] 30)).heap.size = w2.heap.size + 1 by simp [go_sem]] at h
          exact h.below (low_drew _)
        have HU1 : Hid (Below w2.heap.size w2 (w2.alloc (.cells #[] 30)).drew) := below_then (low_alloc _ _) (low_drew _)
        have HLl1 : Hid (Sq (w2.alloc (.cells #[] 30)).drew b (flatD l)) := (H.out.below HB.out).below HU1.out
        have HOw1 : Hid (((w2.alloc (.cells #[] 30)).drew).ownsRow w2.heap.size 30 2 (.slice (some ⟨w2.heap.size, 0, none⟩) 0 0) 0 []) := ownsD_below (World.ownsRow_made w2 #[] 0 (Nat.le_refl _) (by decide) rfl) (low_drew _)
        have HU2 : Hid (Below w2.heap.size w2 ((w2.alloc (.cells #[.int .i64 x.t, .int .i64 x.n] 30)).alloc (.cells #[] 30)).drew) := below_then (behind_alloc (low_alloc _ _) _) (low_drew _)
        have HLl2 : Hid (Sq ((w2.alloc (.cells #[.int .i64 x.t, .int .i64 x.n] 30)).alloc (.cells #[] 30)).drew b (flatD l)) := (H.out.below HB.out).below HU2.out
        have hs1 : (w2.alloc (.cells #[.int .i64 x.t, .int .i64 x.n] 30)).heap.size = w2.heap.size + 1 := by simp [go_sem]
        have HOw2 : Hid ((((w2.alloc (.cells #[.int .i64 x.t, .int .i64 x.n] 30)).alloc (.cells #[] 30)).drew).ownsRow w2.heap.size 30 2 (.slice (some ⟨w2.heap.size + 1, 0, none⟩) 0 0) 0 []) := by
          have h := World.ownsRow_made (base := w2.heap.size) (e := 30) (size := 2) (w2.alloc (.cells #[.int .i64 x.t, .int .i64 x.n] 30)) #[] 0 (by rw [hs1]; omega) (by decide) rfl
          rw [hs1] at h
          exact ownsD_below h (low_drew _)
        have HX2 : Hid (Row ((w2.alloc (.cells #[.int .i64 x.t, .int .i64 x.n] 30)).alloc (.cells #[] 30)).drew w2.heap.size [.int .i64 x.t, .int .i64 x.n]) := ((row_fresh w2 [.int .i64 x.t, .int .i64 x.n] 30).below (low_alloc _ _)).below (low_drew _)
        clear hs1
        have HK : Hid (∀ W, Below w2.heap.size w2 W → Below w2.heap.size w2 W ∧ W.cell? ⟨w.heap.size, 0, none⟩ = some (.int .i64 x.t) ∧ W.cell? ⟨w.heap.size, 1, none⟩ = some (.int .i64 x.n)) := fun W hW => ⟨hW, (HX.out.below hW).cell 0 _ rfl, (HX.out.below hW).cell 1 _ rfl⟩
        go_cut [6] (fun o wc => ∃ G C, o = .slice (some ⟨G, 0, none⟩) (l.length + 1) C ∧ wc.ownsRow w2.heap.size 30 2 (.slice (some ⟨G, 0, none⟩) (l.length + 1) C) (l.length + 1) (flatD (l ++ [x])) ∧ Below w2.heap.size w2 wc)
        case first =>
          go_region_held_law (fun W => Below w2.heap.size w2 W ∧ W.cell? ⟨w.heap.size, 0, none⟩ = some (.int .i64 x.t) ∧ W.cell? ⟨w.heap.size, 1, none⟩ = some (.int .i64 x.n))
            (first | exact HK.out _ Kz.out | exact HK.out _ (behind_alloc Kk.out _) | exact HK.out _ Kk.out | exact HK.out _ HU.out | exact HK.out _ HU2.out | exact HK.out _ HU1.out | exact HK.out _ (below_then (low_alloc _ _) (low_drew _)) | exact HK.out _ (low_alloc _ _) | exact HK.out _ (behind_alloc (low_alloc _ _) _) | exact HK.out _ (low_drew _) | exact HK.out _ (Below.refl _ _) | (trace_state; done))
            ((first
              | (refine step_app_sq rfl _ rfl _ _ 23 rfl w2.heap.size 30 i0 (.agg #[.int .i64 0, .int .i64 0]) 2 16 Try.underlying23 hi hz0 hz1 hz2 rfl (by decide) w2.heap.size 0 0 [] (by rfl) HOw1.out b l.length d (flatD l) (by rfl) (by rw [flatD_len]; omega) HLl1.out (flatD_one l) (by unfold maxLen; omega) (by omega) HU1.out.size ?_; intro gk ck wk hown hgrow; rw [Nat.zero_add, List.nil_append] at hown; rw [Nat.zero_add]; have Kk : Hid (Below w2.heap.size w2 wk) := HU1.out.grown hgrow HU1.out.size (fun q hq => by cases hq; omega); have HOk : Hid (wk.ownsRow w2.heap.size 30 2 (.slice (some ⟨gk, 0, none⟩) l.length ck) l.length (flatD l)) := hown; clear hown hgrow)
              | (refine step_app_sq rfl _ rfl _ _ 23 rfl w2.heap.size 30 i0 (.agg #[.int .i64 0, .int .i64 0]) 2 16 Try.underlying23 hi hz0 hz1 hz2 rfl (by decide) w2.heap.size 0 0 [] (by rfl) HOw.out b l.length d (flatD l) (by rfl) (by rw [flatD_len]; omega) HLl.out (flatD_one l) (by unfold maxLen; omega) (by omega) HU.out.size ?_; intro gk ck wk hown hgrow; rw [Nat.zero_add, List.nil_append] at hown; rw [Nat.zero_add]; have Kk : Hid (Below w2.heap.size w2 wk) := HU.out.grown hgrow HU.out.size (fun q hq => by cases hq; omega); have HOk : Hid (wk.ownsRow w2.heap.size 30 2 (.slice (some ⟨gk, 0, none⟩) l.length ck) l.length (flatD l)) := hown; have HXk : Hid (Row wk (w2.heap.size + 1) [.int .i64 x.t, .int .i64 x.n]) := HX1.out.far hgrow (fun e => by have := Option.some.inj e; omega); clear hown hgrow)
              | (refine step_app_sq rfl _ rfl _ _ 23 rfl w2.heap.size 30 i0 (.agg #[.int .i64 0, .int .i64 0]) 2 16 Try.underlying23 hi hz0 hz1 hz2 rfl (by decide) (w2.heap.size + 1) 0 0 [] (by rfl) HOw2.out b l.length d (flatD l) (by rfl) (by rw [flatD_len]; omega) HLl2.out (flatD_one l) (by unfold maxLen; omega) (by omega) HU2.out.size ?_; intro gk ck wk hown hgrow; rw [Nat.zero_add, List.nil_append] at hown; rw [Nat.zero_add]; have Kk : Hid (Below w2.heap.size w2 wk) := HU2.out.grown hgrow HU2.out.size (fun q hq => by cases hq; omega); have HOk : Hid (wk.ownsRow w2.heap.size 30 2 (.slice (some ⟨gk, 0, none⟩) l.length ck) l.length (flatD l)) := hown; have HXk : Hid (Row wk w2.heap.size [.int .i64 x.t, .int .i64 x.n]) := HX2.out.far hgrow (fun e => by have := Option.some.inj e; omega); clear hown hgrow)
              | (refine step_app_sq rfl _ rfl _ _ 23 rfl w2.heap.size 30 i0 (.agg #[.int .i64 0, .int .i64 0]) 2 16 Try.underlying23 hi hz0 hz1 hz2 rfl (by decide) gk l.length ck (flatD l) (by rfl) HOk.out (some ⟨w2.heap.size + 1, 0, none⟩) 1 1 [.int .i64 x.t, .int .i64 x.n] (by rfl) rfl (Sq.of_row HXk.out) (by intro u hu; simp at hu; rcases hu with rfl | rfl <;> rfl) (by unfold maxLen; omega) (by omega) Kk.out.size ?_; intro gz cz wz hown hgrow; have Kz : Hid (Below w2.heap.size w2 wz) := Kk.out.grown hgrow Kk.out.size (fun q hq => by cases hq; exact (HOk.out.lt gk rfl).1); have HOz : Hid (wz.ownsRow w2.heap.size 30 2 (.slice (some ⟨gz, 0, none⟩) (l.length + 1) cz) (l.length + 1) (flatD l ++ [.int .i64 x.t, .int .i64 x.n])) := hown; clear hown hgrow)
              | (refine step_app_sq rfl _ rfl _ _ 23 rfl w2.heap.size 30 i0 (.agg #[.int .i64 0, .int .i64 0]) 2 16 Try.underlying23 hi hz0 hz1 hz2 rfl (by decide) gk l.length ck (flatD l) (by rfl) HOk.out (some ⟨w2.heap.size, 0, none⟩) 1 1 [.int .i64 x.t, .int .i64 x.n] (by rfl) rfl (Sq.of_row HXk.out) (by intro u hu; simp at hu; rcases hu with rfl | rfl <;> rfl) (by unfold maxLen; omega) (by omega) Kk.out.size ?_; intro gz cz wz hown hgrow; have Kz : Hid (Below w2.heap.size w2 wz) := Kk.out.grown hgrow Kk.out.size (fun q hq => by cases hq; exact (HOk.out.lt gk rfl).1); have HOz : Hid (wz.ownsRow w2.heap.size 30 2 (.slice (some ⟨gz, 0, none⟩) (l.length + 1) cz) (l.length + 1) (flatD l ++ [.int .i64 x.t, .int .i64 x.n])) := hown; clear hown hgrow)
              | (refine step_app_sq rfl _ rfl _ _ 23 rfl w2.heap.size 30 i0 (.agg #[.int .i64 0, .int .i64 0]) 2 16 Try.underlying23 hi hz0 hz1 hz2 rfl (by decide) gk l.length ck (flatD l) (by rfl) (HOk.out.alloc _) (some ⟨wk.heap.size, 0, none⟩) 1 1 [.int .i64 x.t, .int .i64 x.n] (by rfl) rfl (Sq.of_row (row_fresh wk [.int .i64 x.t, .int .i64 x.n] 30)) (by intro u hu; simp at hu; rcases hu with rfl | rfl <;> rfl) (by unfold maxLen; omega) (by omega) (behind_alloc Kk.out _).size ?_; intro gz cz wz hown hgrow; have Kz : Hid (Below w2.heap.size w2 wz) := (behind_alloc Kk.out _).grown hgrow (behind_alloc Kk.out _).size (fun q hq => by cases hq; exact (HOk.out.lt gk rfl).1); have HOz : Hid (wz.ownsRow w2.heap.size 30 2 (.slice (some ⟨gz, 0, none⟩) (l.length + 1) cz) (l.length + 1) (flatD l ++ [.int .i64 x.t, .int .i64 x.n])) := hown; clear hown hgrow)))
          all_goals
            go_wp2_with fail
            go_meet
            case rel => exact ⟨gz, cz, rfl, by rw [flatD_add]; exact HOz.out, Kz.out⟩
        case rest =>
        obtain ⟨G, C, rfl, ho, hb⟩ := hcut
        have hrow : Row wc G (flatD (l ++ [x])) ∧ w2.heap.size ≤ G := by
          obtain ⟨_, a, cap, e, h⟩ := AnsD.of_owns ho
          cases e
          rcases h with h | ⟨g, e, hB, _, hr⟩
          · omega
          · cases e; exact ⟨hr, hB⟩
        obtain ⟨hrow, hG⟩ := hrow
        have HO0 : Hid (Row wc G (flatD (l ++ [x]))) := hrow
        have HB0 : Hid (Below w2.heap.size w2 wc) := hb
        have hw2 := HB.out.size
        clear ho hb hrow HX H HY hi hz0 hz1 hz2 e2
        go_wp2_with fail
        go_loopw [7] (fun i wr => ∃ (k : Nat) (ys : List Du), ys.length = l.length + 1 ∧ k < l.length + 1 ∧ i = .int .i64 k ∧ dup ys k = dpush l x ∧ Row wr G (flatD ys) ∧ Below w2.heap.size w2 wr) (fun i _ => (intOf i).toNat)
        case atStart => exact ⟨l.length, l ++ [x], by simp, by omega, by go_num, rfl, HO0.out, HB0.out⟩
        case round =>
          obtain ⟨k, ys, hys, hk, rfl, hup, ho, hb⟩ := hrel
          have HO : Hid (Row wr G (flatD ys)) := ho
          have HB3 : Hid (Below w2.heap.size w2 wr) := hb
          have HUp : Hid (dup ys k = dpush l x) := hup
          have HYs : Hid (ys.length = l.length + 1) := hys
          clear ho hb hup HO0 HB0 hys
          have hsome := beh_some wr
          by_cases hk0 : k = 0
          · have hg0 : decide (0 < k) = false := by simp; omega
            have HE : Hid (ys = dpush l x) := by
              show _ = _
              rw [← HUp.out, dup, dif_neg (fun t => by omega)]
            clear HUp hk0
            go_wp2_with fail
            refine wp_region_beh (by kernel_rfl) (by kernel_rfl) ?_
            repeat (go_big_quiet_step (fail))
            refine wpQuiet_nil ?_
            rintro ⟨w5, hb5⟩
            have HB5 : Hid (Below w2.heap.size w2 w5) := below_then HB3.out hb5
            have HA5 : Hid (AnsD w.heap.size w5.heap.size w5 (dpush l x).length (flatD (dpush l x)) (.slice (some ⟨G, 0, none⟩) (l.length + 1) C)) := by
              show AnsD _ _ _ _ _ _
              rw [← HE.out, HYs.out]
              exact AnsD.of_row (by rw [flatD_len, HYs.out]) (HO.out.below hb5) (by omega) (HO.out.below hb5).lt
            go_wp2_with fail
            go_ret2
            exact RetH.yes rfl HP.out HA5.out (below_then HB.out HB5.out)
          · have hg0 : decide (0 < k) = true := by simp; omega
            obtain ⟨m, hm⟩ : ∃ m : Nat, m = (k - 1) / 2 := ⟨_, rfl⟩
            have hk1 : (0 : Int) ≤ (k : Int) := by omega
            have hkk : 0 < k := by omega
            have hk2 : (k : Int) < (l.length : Int) + 1 := by omega
            have hml : m < l.length + 1 := by omega
            have hm0 : (0 : Int) ≤ (m : Int) := by omega
            have hm1 : (m : Int) < (l.length : Int) + 1 := by omega
            have hmi : ((k : Int) - 1).tdiv 2 = (m : Int) := by rw [Int.tdiv_eq_ediv_of_nonneg (by omega)]; omega
            have HK1 : Hid (k < ys.length) := by show _ < _; rw [HYs.out]; exact hk
            have HM1 : Hid (m < ys.length) := by show _ < _; rw [HYs.out]; exact hml
            have HM : Hid (m = (k - 1) / 2) := hm
            obtain ⟨z, hz⟩ : ∃ z, dg ys k = z := ⟨_, rfl⟩
            obtain ⟨y, hy⟩ : ∃ y, dg ys m = y := ⟨_, rfl⟩
            have HZ : Hid (dg ys k = z) := hz
            have HYm : Hid (dg ys m = y) := hy
            have e1 : Hid (∀ r u, z.cells[r]? = some u → r < 2 → (flatD ys)[k * 2 + r]? = some u) := fun r u hu hr => by
              rw [flatD_get ys k r HK1.out hr, ← dg_eq HK1.out, hz]; exact hu
            have e2 : Hid (∀ r u, y.cells[r]? = some u → r < 2 → (flatD ys)[m * 2 + r]? = some u) := fun r u hu hr => by
              rw [flatD_get ys m r HM1.out hr, ← dg_eq HM1.out, hy]; exact hu
            have z0 := Beh.row HO.out (k * 2) _ (e1.out 0 _ rfl (by decide))
            have z1 := Beh.row HO.out (k * 2 + 1) _ (e1.out 1 _ rfl (by decide))
            have y0 := Beh.row HO.out (m * 2) _ (e2.out 0 _ rfl (by decide))
            have y1 := Beh.row HO.out (m * 2 + 1) _ (e2.out 1 _ rfl (by decide))
            have HDf : Hid (∀ W : World, Calls Try.prog 16 #[.agg #[.int .i64 z.t, .int .i64 z.n], .agg #[.int .i64 y.t, .int .i64 y.n]] W fun e w' => e = .returned (.bool (duL z y)) ∧ Below W.heap.size W w') := fun W => specDueFirst_c z y W
            clear hm hml hz hy
            cases hq : duL z y
            · have HE : Hid (ys = dpush l x) := by
                show _ = _
                rw [← HUp.out, dup, dif_neg (fun t => by have := t.2; rw [← HM.out, HZ.out, HYm.out, hq] at this; cases this)]
              rw [hq] at HDf
              clear hq HUp HZ HYm HM HK1 HM1
              go_wp2_with fail
              refine wp_region_beh (by kernel_rfl) (by kernel_rfl) ?_
              repeat (go_big_quiet_step (first | (go_at_call 16; exact calls_beh (HDf.out _))))
              refine wpQuiet_nil ?_
              rintro ⟨w5, hb5⟩
              have HB5 : Hid (Below w2.heap.size w2 w5) := below_then HB3.out hb5
              have HA5 : Hid (AnsD w.heap.size w5.heap.size w5 (dpush l x).length (flatD (dpush l x)) (.slice (some ⟨G, 0, none⟩) (l.length + 1) C)) := by
                show AnsD _ _ _ _ _ _
                rw [← HE.out, HYs.out]
                exact AnsD.of_row (by rw [flatD_len, HYs.out]) (HO.out.below hb5) (by omega) (HO.out.below hb5).lt
              go_wp2_with fail
              go_ret2
              exact RetH.yes rfl HP.out HA5.out (below_then HB.out HB5.out)
            · have HE : Hid (dup (dsw ys k m) m = dpush l x) := by
                show _ = _
                rw [← HUp.out]
                rw [dup.eq_1 ys, dif_pos ⟨by omega, by rw [← HM.out, HZ.out, HYm.out]; exact hq⟩, ← HM.out]
              rw [hq] at HDf
              clear hq HUp
              go_wp2_with fail
              refine wp_region_beh (by kernel_rfl) (by kernel_rfl) ?_
              repeat (go_big_quiet_step (first | (go_at_call 16; exact calls_beh (HDf.out _))))
              refine wpQuiet_nil ?_
              rintro ⟨w5, hb5⟩
              have HB5 : Hid (Below w2.heap.size w2 w5) := below_then HB3.out hb5
              have HO5 : Hid (Row w5 G (flatD ys)) := HO.out.below hb5
              clear z0 z1 y0 y1 hsome HDf
              have z0 := HO5.out.cell (k * 2) _ (e1.out 0 _ rfl (by decide))
              have z1 := HO5.out.cell (k * 2 + 1) _ (e1.out 1 _ rfl (by decide))
              go_wp2_with (refine stay_store 30 ?_)
              refine ⟨?_⟩
              have HR6 : Hid (Row (w5.alloc (.cells #[.int .i64 0, .int .i64 0] 30)) w5.heap.size [.int .i64 0, .int .i64 0]) := row_fresh w5 [.int .i64 0, .int .i64 0] 30
              have HO6 : Hid (Row (w5.alloc (.cells #[.int .i64 0, .int .i64 0] 30)) G (flatD ys)) := HO5.out.below (low_alloc _ _)
              have hG6 : G ≠ w5.heap.size := Nat.ne_of_lt HO5.out.lt
              have hs6 : w2.heap.size ≤ w5.heap.size := HB5.out.size
              have HB6 : Hid (Below w2.heap.size w2 (w5.alloc (.cells #[.int .i64 0, .int .i64 0] 30))) := behind_alloc HB5.out _
              clear z0 z1
              generalize w5.alloc (.cells #[.int .i64 0, .int .i64 0] 30) = w6 at HR6 HO6 HB6 ⊢
              generalize w5.heap.size = q at HR6 hG6 hs6 ⊢
              refine wpList_store_mid rfl 30 _ _ rfl q 0 _ rfl rfl (HR6.out.room 0 2 (by simp)) szDue (by simp [Value.oneCell']) ?_
              have HR7 : Hid (Row (w6.setCells q 0 [.int .i64 z.t, .int .i64 z.n]) q [.int .i64 z.t, .int .i64 z.n]) := HR6.out.setCs [.int .i64 z.t, .int .i64 z.n] 0 (by simp)
              have HO7 : Hid (Row (w6.setCells q 0 [.int .i64 z.t, .int .i64 z.n]) G (flatD ys)) := HO6.out.apartCs hG6 _ _
              have HB7 : Hid (Below w2.heap.size w2 (w6.setCells q 0 [.int .i64 z.t, .int .i64 z.n])) := below_setCs hs6 _ _ HB6.out
              show wpList _ _ _ _ _ (w6.setCells q 0 [.int .i64 z.t, .int .i64 z.n])
              generalize w6.setCells q 0 [.int .i64 z.t, .int .i64 z.n] = w7 at HR7 HO7 HB7 ⊢
              clear HR6 HO6 HB6 HB5 HO5
              have y0 := HO7.out.cell (m * 2) _ (e2.out 0 _ rfl (by decide))
              have y1 := HO7.out.cell (m * 2 + 1) _ (e2.out 1 _ rfl (by decide))
              go_wp2_with (refine stay_store 30 ?_)
              refine ⟨?_⟩
              refine wpList_store_mid rfl 30 _ _ rfl G (k * 2) _ rfl rfl (HO7.out.room (k * 2) 2 (by rw [flatD_len, HYs.out]; omega)) szDue (by simp [Value.oneCell']) ?_
              have HO8 : Hid (Row (w7.setCells G (k * 2) [.int .i64 y.t, .int .i64 y.n]) G (flatD (ys.set k y))) := by
                show Row _ _ _
                rw [← flatD_set y HK1.out]
                exact HO7.out.setCs [.int .i64 y.t, .int .i64 y.n] (k * 2) (by simp [flatD_len, HYs.out]; omega)
              have HR8 : Hid (Row (w7.setCells G (k * 2) [.int .i64 y.t, .int .i64 y.n]) q [.int .i64 z.t, .int .i64 z.n]) := HR7.out.apartCs (Ne.symm hG6) _ _
              have HB8 : Hid (Below w2.heap.size w2 (w7.setCells G (k * 2) [.int .i64 y.t, .int .i64 y.n])) := below_setCs hG _ _ HB7.out
              show wpList _ _ _ _ _ (w7.setCells G (k * 2) [.int .i64 y.t, .int .i64 y.n])
              generalize w7.setCells G (k * 2) [.int .i64 y.t, .int .i64 y.n] = w8 at HR8 HO8 HB8 ⊢
              clear HR7 HO7 HB7 y0 y1
              have z0 := HR8.out.cell 0 _ rfl
              have z1 := HR8.out.cell 1 _ rfl
              go_wp2_with (refine stay_store 30 ?_)
              refine ⟨?_⟩
              refine wpList_store_mid rfl 30 _ _ rfl G (m * 2) _ rfl rfl (HO8.out.room (m * 2) 2 (by rw [flatD_len, List.length_set, HYs.out]; omega)) szDue (by simp [Value.oneCell']) ?_
              have HO9 : Hid (Row (w8.setCells G (m * 2) [.int .i64 z.t, .int .i64 z.n]) G (flatD (dsw ys k m))) := by
                show Row _ _ _
                rw [← dsw_two HZ.out HYm.out, ← flatD_set z (by rw [List.length_set]; exact HM1.out)]
                exact HO8.out.setCs [.int .i64 z.t, .int .i64 z.n] (m * 2) (by simp [flatD_len, HYs.out]; omega)
              have HB9 : Hid (Below w2.heap.size w2 (w8.setCells G (m * 2) [.int .i64 z.t, .int .i64 z.n])) := below_setCs hG _ _ HB8.out
              show wpList _ _ _ _ _ (w8.setCells G (m * 2) [.int .i64 z.t, .int .i64 z.n])
              generalize w8.setCells G (m * 2) [.int .i64 z.t, .int .i64 z.n] = w9 at HO9 HB9 ⊢
              clear HR8 HO8 HB8 z0 z1
              go_wp2_with fail
              exact ⟨⟨m, dsw ys k m, by rw [dsw_len]; exact HYs.out, by have := HM1.out; have := HYs.out; omega, rfl, HE.out, HO9.out, HB9.out⟩, by simp [intOf]; have := HM.out; omega⟩
end Go.Proofs.Ytdmmjggkdkmeaaa
