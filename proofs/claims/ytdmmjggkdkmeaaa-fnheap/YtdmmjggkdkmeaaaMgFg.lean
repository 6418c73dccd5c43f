/- Heaps told in order: the program's HeapAll. -/
import Derived.Test.YtdmmjggkdkmeaaaHqF
import Derived.Test.YtdmmjggkdkmeaaaHpG
import Derived.Maps.AppendAt
namespace Go.Proofs.Ytdmmjggkdkmeaaa
open Go.ChangeShapes Go.WideShapes Go.ChangeAt Go.RowKit

set_option maxHeartbeats 4000000 in
set_option maxRecDepth 100000 in
theorem implHeapPush_c (b : Option Addr) (d : Nat) (l : List Du) (hl : l.length ≤ 1048576) (x : Du) (w : World) (h : Sq w b (flatD l)) :
    Calls Try.prog 23 #[.slice b l.length d, .agg #[.int .i64 x.t, .int .i64 x.n]] w (RetH w (POkh l x) (dpush l x)) := by
  have H : Hid (Sq w b (flatD l)) := h
  clear h
  by_cases h200 : 200 ≤ l.length
  · have hi : (200 : Int) ≤ (l.length : Int) := by omega
    have HN : Hid (¬ POkh l x) := fun t => by have := t.1.1; have := t.2.2; omega
    clear h200
    go_enter Try.func23, Try.ntmps23
    go_wp2_with fail
    go_ret2
    exact RetH.no rfl HN.out (low_alloc _ _)
  · have hi : ¬ (200 : Int) ≤ (l.length : Int) := by omega
    have HL : Hid (l.length < 200) := by show _ < _; omega
    clear h200
    go_enter Try.func23, Try.ntmps23
    go_wp2_with fail
    have HX : Hid (Row (w.alloc (.cells #[.int .i64 x.t, .int .i64 x.n] 30)) w.heap.size [.int .i64 x.t, .int .i64 x.n]) := row_fresh w [.int .i64 x.t, .int .i64 x.n] 30
    have HB : Hid (Below w.heap.size w (w.alloc (.cells #[.int .i64 x.t, .int .i64 x.n] 30))) := low_alloc _ _
    generalize w.alloc (.cells #[.int .i64 x.t, .int .i64 x.n] 30) = w1 at HX HB ⊢
    refine (right_c x _).mono ?_
    rintro e w2 ⟨rfl, hb⟩
    have HX2 : Hid (Row w2 w.heap.size [.int .i64 x.t, .int .i64 x.n]) := HX.out.below hb
    have HB2 : Hid (Below w.heap.size w w2) := below_then HB.out hb
    clear hb HX HB
    cases hd : dueB x
    · have HN : Hid (¬ POkh l x) := fun t => by have := t.2.1; rw [hd] at this; cases this
      clear hd
      go_wp2_with fail
      go_ret2
      exact RetH.no rfl HN.out HB2.out
    · have HDu : Hid (dueB x = true) := hd
      clear hd
      go_wp2_with fail
      refine (implHeapOk_c b d l hl _ (H.out.below HB2.out)).mono ?_
      rintro e w3 ⟨k, rfl, hk, hb⟩
      have HX3 : Hid (Row w3 w.heap.size [.int .i64 x.t, .int .i64 x.n]) := HX2.out.below hb
      have HB3 : Hid (Below w.heap.size w w3) := below_then HB2.out hb
      have HK : Hid (k = true ↔ HOk l) := hk
      clear hb hk HX2 HB2
      cases k
      · have HN : Hid (¬ POkh l x) := fun t => by have := HK.out.2 t.1; cases this
        go_wp2_with fail
        go_ret2
        exact RetH.no rfl HN.out HB3.out
      · have HP : Hid (POkh l x) := ⟨HK.out.1 rfl, HDu.out, by have := HL.out; omega⟩
        clear HK HDu
        go_wp2_with fail
        refine (cloneD_c b d l hl _ (H.out.below HB3.out)).mono ?_
        rintro e w4 ⟨v, rfl, ho, hb⟩
        obtain ⟨a, c, rfl⟩ := owns_form2 ho
        have hw3 := HB3.out.size
        have HO4 : Hid (w4.ownsRow w.heap.size 30 2 (.slice a l.length c) l.length (flatD l)) := owns_mono2 ho hw3
        have HX4 : Hid (Row w4 w.heap.size [.int .i64 x.t, .int .i64 x.n]) := HX3.out.below hb
        have HB4 : Hid (Below w.heap.size w w4) := below_then HB3.out hb
        have hX4 := HX4.out.lt
        have HN4 : Hid ((Value.slice a l.length c).ownBlock ≠ some w4.heap.size) := fun e => by have := (ho.lt _ e).2; omega
        clear ho hb HX3 HB3 hw3
        have HR5 : Hid (Row (w4.alloc (.cells #[.slice a l.length c] 51)) w4.heap.size [.slice a l.length c]) := row_fresh w4 [.slice a l.length c] 51
        have HO5 : Hid ((w4.alloc (.cells #[.slice a l.length c] 51)).ownsRow w.heap.size 30 2 (.slice a l.length c) l.length (flatD l)) := HO4.out.alloc _
        have HX5 : Hid (Row (w4.alloc (.cells #[.slice a l.length c] 51)) w.heap.size [.int .i64 x.t, .int .i64 x.n]) := HX4.out.below (low_alloc _ _)
        have HB5 : Hid (Below w.heap.size w (w4.alloc (.cells #[.slice a l.length c] 51))) := behind_alloc HB4.out _
        have x0 := HX4.out.cell 0 _ rfl
        have x1 := HX4.out.cell 1 _ rfl
        have hX5 : w.heap.size ≠ w4.heap.size := Nat.ne_of_lt hX4
        go_wp2_with fail
        clear x0 x1 hX5
        generalize w4.alloc (.cells #[.slice a l.length c] 51) = w5 at HR5 HO5 HX5 HB5 ⊢
        have hq : w.heap.size ≤ w4.heap.size := by omega
        generalize w4.heap.size = q at HR5 HN4 hq ⊢
        have HQ : Hid (w.heap.size ≤ q) := hq
        clear HO4 HX4 HB4 hX4 hq
        refine (push_c w.heap.size q (.slice a l.length c) l (by have := HL.out; omega) x _ HR5.out HO5.out HN4.out HQ.out).mono ?_
        rintro e w6 ⟨rfl, v', hr, ho, _, hb⟩
        have HB6 : Hid (Below w.heap.size w w6) := HB5.out.trans hb
        have HO6 : Hid (w6.ownsRow w.heap.size 30 2 v' (l.length + 1) (flatD (dpush l x))) := ho
        obtain ⟨a2, c2, rfl⟩ := owns_form2 ho
        have HR6 : Hid (Row w6 q [.slice a2 (l.length + 1) c2]) := hr
        have HA : Hid (AnsD w.heap.size w6.heap.size w6 (dpush l x).length (flatD (dpush l x)) (.slice a2 (l.length + 1) c2)) := by
          show AnsD _ _ _ _ _ _
          rw [dpush_len]
          exact AnsD.of_owns ho
        clear hb ho hr HR5 HO5 HX5 HB5 HN4
        have r0 := HR6.out.cell 0 _ rfl
        go_wp2_with fail
        go_ret2
        exact RetH.yes rfl HP.out HA.out HB6.out
end Go.Proofs.Ytdmmjggkdkmeaaa

namespace Go.Proofs.Ytdmmjggkdkmeaaa
open Go.ChangeShapes Go.WideShapes Go.ChangeAt Go.RowKit

set_option maxHeartbeats 4000000 in
set_option maxRecDepth 100000 in
theorem implHeapPop_c (b : Option Addr) (d : Nat) (l : List Du) (hl : l.length ≤ 1048576) (w : World) (h : Sq w b (flatD l)) :
    Calls Try.prog 27 #[.slice b l.length d] w (RetG w (POkp l) (dg l 0) (dpop l)) := by
  have H : Hid (Sq w b (flatD l)) := h
  clear h
  by_cases h0 : l.length = 0
  · have HN : Hid (¬ POkp l) := fun t => t.2 (List.eq_nil_of_length_eq_zero h0)
    have hi : ((l.length : Int) == 0) = true := by simp [h0]
    clear h0
    go_enter Try.func27, Try.ntmps27
    go_wp2_with fail
    have HX : Hid (Row (w.alloc (.cells #[.int .i64 0, .int .i64 0] 30)) w.heap.size [.int .i64 0, .int .i64 0]) := row_fresh w [.int .i64 0, .int .i64 0] 30
    have hv := run_loadVar_mid (P := Try.prog) (w.alloc (.cells #[.int .i64 0, .int .i64 0] 30)) w.heap.size 0 30 [.int .i64 0, .int .i64 0] _ HX.out.all Try.underlying30 rfl szDue
    exact bodyPost_ret (results_mix3 Try.results27 rfl hv) rfl (RetG.no rfl HN.out (low_alloc _ _))
  · have hi : ((l.length : Int) == 0) = false := by rw [beq_eq_false_iff_ne]; omega
    have HL : Hid (l.length ≠ 0) := h0
    clear h0
    go_enter Try.func27, Try.ntmps27
    go_wp2_with fail
    have HX : Hid (Row (w.alloc (.cells #[.int .i64 0, .int .i64 0] 30)) w.heap.size [.int .i64 0, .int .i64 0]) := row_fresh w [.int .i64 0, .int .i64 0] 30
    have HB : Hid (Below w.heap.size w (w.alloc (.cells #[.int .i64 0, .int .i64 0] 30))) := low_alloc _ _
    generalize w.alloc (.cells #[.int .i64 0, .int .i64 0] 30) = w1 at HX HB ⊢
    refine (implHeapOk_c b d l hl _ (H.out.below HB.out)).mono ?_
    rintro e w3 ⟨k, rfl, hk, hb⟩
    have HX3 : Hid (Row w3 w.heap.size [.int .i64 0, .int .i64 0]) := HX.out.below hb
    have HB3 : Hid (Below w.heap.size w w3) := below_then HB.out hb
    have HK : Hid (k = true ↔ HOk l) := hk
    clear hb hk HX HB
    cases k
    · have HN : Hid (¬ POkp l) := fun t => by have := HK.out.2 t.1; cases this
      have hX3 := HX3.out.lt
      have z0 := HX3.out.cell 0 _ rfl
      have z1 := HX3.out.cell 1 _ rfl
      have f0 := HX3.out.free 0
      have f1 := HX3.out.free 1
      go_wp2_with (refine stay_store 30 ?_)
      refine ⟨?_⟩
      refine wpList_store_mid rfl 30 _ _ rfl w.heap.size 0 _ rfl rfl (HX3.out.room 0 2 (by simp)) szDue (by simp [Value.oneCell']) ?_
      show wpList _ _ _ _ _ (w3.setCells w.heap.size 0 [.int .i64 0, .int .i64 0])
      have HX4 : Hid (Row (w3.setCells w.heap.size 0 [.int .i64 0, .int .i64 0]) w.heap.size [.int .i64 0, .int .i64 0]) := HX3.out.setCs [.int .i64 0, .int .i64 0] 0 (by simp)
      have HB4 : Hid (Below w.heap.size w (w3.setCells w.heap.size 0 [.int .i64 0, .int .i64 0])) := below_setCs (Nat.le_refl _) _ _ HB3.out
      generalize w3.setCells w.heap.size 0 [.int .i64 0, .int .i64 0] = w4 at HX4 HB4 ⊢
      clear z0 z1 f0 f1
      go_wp2_with fail
      have hv := run_loadVar_mid (P := Try.prog) w4 w.heap.size 0 30 [.int .i64 0, .int .i64 0] _ HX4.out.all Try.underlying30 rfl szDue
      exact bodyPost_ret (results_mix3 Try.results27 rfl hv) rfl (RetG.no rfl HN.out HB4.out)
    · have HP : Hid (POkp l) := ⟨HK.out.1 rfl, fun e => HL.out (by rw [e]; rfl)⟩
      clear HK
      go_wp2_with fail
      refine (cloneD_c b d l hl _ (H.out.below HB3.out)).mono ?_
      rintro e w4 ⟨v, rfl, ho, hb⟩
      obtain ⟨g, C, rfl⟩ : ∃ g C, v = .slice (some ⟨g, 0, none⟩) l.length C := by
        rcases ho.2 with ⟨_, hz⟩ | ⟨g, cap, _, rfl, _⟩
        · exact absurd hz HL.out
        · exact ⟨g, cap, rfl⟩
      have hw3 := HB3.out.size
      have HO4 : Hid (w4.ownsRow w.heap.size 30 2 (.slice (some ⟨g, 0, none⟩) l.length C) l.length (flatD l)) := owns_mono2 ho hw3
      have HX4 : Hid (Row w4 w.heap.size [.int .i64 0, .int .i64 0]) := HX3.out.below hb
      have HB4 : Hid (Below w.heap.size w w4) := below_then HB3.out hb
      have hX4 := HX4.out.lt
      have hX3 := HX3.out.lt
      have hgl := ho.lt g rfl
      have HG : Hid (g ≠ w4.heap.size ∧ g ≠ w.heap.size) := ⟨by omega, by omega⟩
      clear ho hb HX3 HB3 hw3 hX3
      have HR5 : Hid (Row (w4.alloc (.cells #[.slice (some ⟨g, 0, none⟩) l.length C] 51)) w4.heap.size [.slice (some ⟨g, 0, none⟩) l.length C]) := row_fresh w4 [.slice (some ⟨g, 0, none⟩) l.length C] 51
      have HO5 : Hid ((w4.alloc (.cells #[.slice (some ⟨g, 0, none⟩) l.length C] 51)).ownsRow w.heap.size 30 2 (.slice (some ⟨g, 0, none⟩) l.length C) l.length (flatD l)) := HO4.out.alloc _
      have HX5 : Hid (Row (w4.alloc (.cells #[.slice (some ⟨g, 0, none⟩) l.length C] 51)) w.heap.size [.int .i64 0, .int .i64 0]) := HX4.out.below (low_alloc _ _)
      have HB5 : Hid (Below w.heap.size w (w4.alloc (.cells #[.slice (some ⟨g, 0, none⟩) l.length C] 51))) := behind_alloc HB4.out _
      have hX5 : w.heap.size ≠ w4.heap.size := Nat.ne_of_lt hX4
      go_wp2_with fail
      generalize w4.alloc (.cells #[.slice (some ⟨g, 0, none⟩) l.length C] 51) = w5 at HR5 HO5 HX5 HB5 ⊢
      have hq : w.heap.size < w4.heap.size := by omega
      generalize w4.heap.size = q at HR5 HG hq hX5 ⊢
      have HQ : Hid (w.heap.size < q) := hq
      clear HO4 HX4 HB4 hX4 hq hX5 hgl
      refine (pop_c w.heap.size q g C l (by have := HP.out.1.1; omega) HP.out.2 _ HR5.out HO5.out HG.out.1).mono ?_
      rintro e w6 ⟨rfl, hr, ho, hd⟩
      have hq5 := HR5.out.lt
      have HB6 : Hid (Below w.heap.size w w6) := HB5.out.trans (hd.below HB5.out.size (Nat.le_of_lt HQ.out) (HO5.out.lt g rfl).1)
      have HX6 : Hid (Row w6 w.heap.size [.int .i64 0, .int .i64 0]) := hd.row HX5.out (Nat.ne_of_lt HQ.out) (Ne.symm HG.out.2)
      have HO6 : Hid (w6.ownsRow w.heap.size 30 2 (.slice (some ⟨g, 0, none⟩) (l.length - 1) C) (l.length - 1) (flatD (dpop l))) := ho
      have HR6 : Hid (Row w6 q [.slice (some ⟨g, 0, none⟩) (l.length - 1) C]) := hr
      clear hr ho hd hq5 HR5 HO5 HX5 HB5
      obtain ⟨m, hm⟩ : ∃ m, l.length - 1 = m := ⟨_, rfl⟩
      have HM : Hid ((dpop l).length = m) := by show _ = _; rw [dpop_len, hm]
      rw [hm] at HO6 HR6
      clear hm
      obtain ⟨f, hf⟩ : ∃ f, dg l 0 = f := ⟨_, rfl⟩
      rw [hf]
      have r0 := HR6.out.cell 0 _ rfl
      have x0 := HX6.out.cell 0 _ rfl
      have x1 := HX6.out.cell 1 _ rfl
      have xf0 := HX6.out.free 0
      have xf1 := HX6.out.free 1
      have a1 := HR6.out.lt
      have a2 := HX6.out.lt
      have a3 : q ≠ w6.heap.size := Nat.ne_of_lt a1
      have a4 : w.heap.size ≠ w6.heap.size := Nat.ne_of_lt a2
      have a5 : w.heap.size ≠ q := Nat.ne_of_lt HQ.out
      go_wp2_with fail
      go_region
      clear r0 x0 x1 xf0 xf1 a1 a2 a3 a4 a5
      have HXf : Hid (Row (((w6.setCell ⟨w.heap.size, 0, none⟩ (.int .i64 f.t)).setCell ⟨w.heap.size, 1, none⟩ (.int .i64 f.n)).alloc (.cells #[.int .i64 f.t, .int .i64 f.n] 30)).drew w.heap.size [.int .i64 f.t, .int .i64 f.n]) := ((HX6.out.setCs [.int .i64 f.t, .int .i64 f.n] 0 (by simp)).below (low_alloc _ _)).below (low_drew _)
      have HOf : Hid ((((w6.setCell ⟨w.heap.size, 0, none⟩ (.int .i64 f.t)).setCell ⟨w.heap.size, 1, none⟩ (.int .i64 f.n)).alloc (.cells #[.int .i64 f.t, .int .i64 f.n] 30)).drew.ownsRow w.heap.size 30 2 (.slice (some ⟨g, 0, none⟩) m C) m (flatD (dpop l))) := ownsD_below ((HO6.out.kept (grown_setCs [.int .i64 f.t, .int .i64 f.n] 0) (.inr (fun e => HG.out.2 (Option.some.inj e)))).alloc _) (low_drew _)
      have HBf : Hid (Below w.heap.size w (((w6.setCell ⟨w.heap.size, 0, none⟩ (.int .i64 f.t)).setCell ⟨w.heap.size, 1, none⟩ (.int .i64 f.n)).alloc (.cells #[.int .i64 f.t, .int .i64 f.n] 30)).drew) := below_then (behind_alloc (below_setCs (Nat.le_refl _) [.int .i64 f.t, .int .i64 f.n] 0 HB6.out) _) (low_drew _)
      generalize (((w6.setCell ⟨w.heap.size, 0, none⟩ (.int .i64 f.t)).setCell ⟨w.heap.size, 1, none⟩ (.int .i64 f.n)).alloc (.cells #[.int .i64 f.t, .int .i64 f.n] 30)).drew = w7 at HXf HOf HBf ⊢
      have hv := run_loadVar_mid (P := Try.prog) w7 w.heap.size 0 30 [.int .i64 f.t, .int .i64 f.n] _ HXf.out.all Try.underlying30 rfl szDue
      have HA : AnsD w.heap.size w7.heap.size w7 (dpop l).length (flatD (dpop l)) (.slice (some ⟨g, 0, none⟩) m C) := by rw [HM.out]; exact AnsD.of_owns HOf.out
      have HCp : CapD (.slice (some ⟨g, 0, none⟩) m C) (dpop l).length := by rw [HM.out]; exact ⟨_, _, rfl, (owns_row HOf.out).2.2⟩
      go_wp2_with fail
      exact bodyPost_ret (results_mix3 Try.results27 rfl hv) rfl (by rw [hf]; exact RetG.yes rfl HP.out HA HCp HBf.out)
end Go.Proofs.Ytdmmjggkdkmeaaa

namespace Go.Proofs.Ytdmmjggkdkmeaaa
open Go.ChangeShapes Go.WideShapes Go.ChangeAt Go.RowKit

theorem dof_big : ∀ (l acc : List Du), acc.length ≤ 200 → 200 < acc.length + l.length → dof acc l = none
  | [], acc, h, h2 => by simp at h2; omega
  | x :: r, acc, h, h2 => by
    unfold dof
    split
    · rename_i hc
      exact dof_big r (dpush acc x) (by rw [dpush_len]; omega) (by rw [dpush_len]; simp at h2; omega)
    · rfl
theorem RetO.no {w w' : World} {r : Option (List Du)} {e : Ending} (he : e = .returned (.tuple #[.slice none 0 0, .bool false])) (h : r = none) (hb : Below w.heap.size w w') : RetO w r e w' :=
  ⟨false, _, he, by rw [h]; rfl, by rw [h]; exact AnsD.none _ _ _ _ _, hb⟩
theorem RetO.yes {w w' : World} {r : Option (List Du)} {e : Ending} {v : Value} {xs : List Du} (he : e = .returned (.tuple #[v, .bool true])) (h : r = some xs) (ha : AnsD w.heap.size w'.heap.size w' xs.length (flatD xs) v) (hb : Below w.heap.size w w') : RetO w r e w' :=
  ⟨true, _, he, by rw [h]; rfl, by rw [h]; exact ha, hb⟩
set_option maxHeartbeats 4000000 in
set_option maxRecDepth 100000 in
theorem implHeapOf_c (b : Option Addr) (d : Nat) (l : List Du) (hl : l.length ≤ 1048576) (w : World) (h : Sq w b (flatD l)) :
    Calls Try.prog 11 #[.slice b l.length d] w (RetO w (dof [] l)) := by
  have H : Hid (Sq w b (flatD l)) := h
  clear h
  by_cases h200 : 200 < l.length
  · have hi : (200 : Int) < (l.length : Int) := by omega
    have HN : Hid (dof [] l = none) := dof_big l [] (by simp) (by simp; omega)
    clear h200
    go_enter Try.func11, Try.ntmps11
    go_wp2_with fail
    go_ret2
    exact RetO.no rfl HN.out (Below.refl _ _)
  · have hi : ¬ (200 : Int) < (l.length : Int) := by omega
    have HL : Hid (l.length ≤ 200) := by show _ ≤ _; omega
    clear h200
    go_enter Try.func11, Try.ntmps11
    go_wp2_with fail
    have HR0 : Hid (Row (w.alloc (.cells #[.slice none 0 0] 51)) w.heap.size [.slice none 0 0]) := row_fresh w [.slice none 0 0] 51
    have HB0 : Hid (Below w.heap.size w (w.alloc (.cells #[.slice none 0 0] 51))) := low_alloc _ _
    generalize w.alloc (.cells #[.slice none 0 0] 51) = w0 at HR0 HB0 ⊢
    go_loopw [12] (fun i wr => ∃ (k : Nat) (acc : List Du) (a : Option Addr) (c : Nat), k ≤ l.length ∧ i = .int .i64 k ∧ acc.length = k ∧ dof acc (l.drop k) = dof [] l ∧ Row wr w.heap.size [.slice a k c] ∧ wr.ownsRow w.heap.size 30 2 (.slice a k c) k (flatD acc) ∧ (Value.slice a k c).ownBlock ≠ some w.heap.size ∧ Below w.heap.size w wr) (fun i _ => l.length - (intOf i).toNat)
    case atStart => exact ⟨0, [], none, 0, Nat.zero_le _, rfl, rfl, by simp, HR0.out, World.ownsRow_nil _ _ _ _, by simp [Value.ownBlock], HB0.out⟩
    case round =>
      obtain ⟨k, acc, a, c, hk, rfl, hal, hdo, hr, ho, hne, hb⟩ := hrel
      have HAl : Hid (acc.length = k) := hal
      have HDo : Hid (dof acc (l.drop k) = dof [] l) := hdo
      have HR : Hid (Row wr w.heap.size [.slice a k c]) := hr
      have HO : Hid (wr.ownsRow w.heap.size 30 2 (.slice a k c) k (flatD acc)) := ho
      have HNe : Hid ((Value.slice a k c).ownBlock ≠ some w.heap.size) := hne
      have HB : Hid (Below w.heap.size w wr) := hb
      clear hal hdo hr ho hne hb
      by_cases hlt : k < l.length
      · have hj0 : (0 : Int) ≤ (k : Int) := by omega
        have hj1 : (k : Int) < (l.length : Int) := by omega
        have HX : Hid (l[k]? = some l[k]) := List.getElem?_eq_getElem hlt
        have HDr : Hid (l.drop k = l[k] :: l.drop (k + 1)) := List.drop_eq_getElem_cons hlt
        obtain ⟨p, rfl⟩ := H.out.some_ofD k hlt
        generalize l[k] = x at HX HDr
        have c0 := (H.out.below HB.out).due0 HX.out
        have c1 := (H.out.below HB.out).dueK HX.out 1 (by decide) _ rfl
        go_wp2_with fail
        have HX3 : Hid (Row (wr.alloc (.cells #[.int .i64 x.t, .int .i64 x.n] 30)) wr.heap.size [.int .i64 x.t, .int .i64 x.n]) := row_fresh wr [.int .i64 x.t, .int .i64 x.n] 30
        have HB3 : Hid (Below w.heap.size w (wr.alloc (.cells #[.int .i64 x.t, .int .i64 x.n] 30))) := behind_alloc HB.out _
        have HR3 : Hid (Row (wr.alloc (.cells #[.int .i64 x.t, .int .i64 x.n] 30)) w.heap.size [.slice a k c]) := HR.out.below (low_alloc _ _)
        have HO3 : Hid ((wr.alloc (.cells #[.int .i64 x.t, .int .i64 x.n] 30)).ownsRow w.heap.size 30 2 (.slice a k c) k (flatD acc)) := HO.out.alloc _
        clear c0 c1
        generalize wr.alloc (.cells #[.int .i64 x.t, .int .i64 x.n] 30) = U at HX3 HB3 HR3 HO3 ⊢
        generalize wr.heap.size = X at HX3 ⊢
        clear HR HO HB
        refine (right_c x _).mono ?_
        rintro e w2 ⟨rfl, hb⟩
        have HX4 : Hid (Row w2 X [.int .i64 x.t, .int .i64 x.n]) := HX3.out.below hb
        have HB4 : Hid (Below w.heap.size w w2) := below_then HB3.out hb
        have HR4 : Hid (Row w2 w.heap.size [.slice a k c]) := HR3.out.below hb
        have HO4 : Hid (w2.ownsRow w.heap.size 30 2 (.slice a k c) k (flatD acc)) := ownsD_below HO3.out hb
        clear hb HX3 HB3 HR3 HO3
        cases hd : dueB x
        · have HN : Hid (dof [] l = none) := by
            show _ = _
            rw [← HDo.out, HDr.out, dof, if_neg (fun t => by rw [hd] at t; cases t.1)]
          clear hd
          go_wp2_with fail
          go_ret2
          exact RetO.no rfl HN.out HB4.out
        · have HD2 : Hid (dof (dpush acc x) (l.drop (k + 1)) = dof [] l) := by
            show _ = _
            rw [← HDo.out, HDr.out, dof, if_pos ⟨hd, by rw [HAl.out]; have := HL.out; omega⟩]
          clear hd
          have x0 := HX4.out.cell 0 _ rfl
          have x1 := HX4.out.cell 1 _ rfl
          have hc := push_c w.heap.size w.heap.size (.slice a k c) acc (by rw [HAl.out]; have := HL.out; omega) x w2 HR4.out (by rw [HAl.out]; exact HO4.out) HNe.out (Nat.le_refl _)
          rw [HAl.out] at hc
          have HC : Hid (Calls Try.prog 35 #[.pointer (some ⟨w.heap.size, 0, none⟩), .agg #[.int .i64 x.t, .int .i64 x.n]] w2 fun e w' => e = .returned (.tuple #[]) ∧ ∃ v', Row w' w.heap.size [v'] ∧ w'.ownsRow w.heap.size 30 2 v' (k + 1) (flatD (dpush acc x)) ∧ v'.ownBlock ≠ some w.heap.size ∧ Below w.heap.size w2 w') := hc
          clear hc
          go_wp2_with fail
          refine HC.out.mono ?_
          rintro e w5 ⟨rfl, v', hr, ho, hne, hb⟩
          obtain ⟨a2, c2, rfl⟩ := owns_form2 ho
          have HR5 : Hid (Row w5 w.heap.size [.slice a2 (k + 1) c2]) := hr
          have HO5 : Hid (w5.ownsRow w.heap.size 30 2 (.slice a2 (k + 1) c2) (k + 1) (flatD (dpush acc x))) := ho
          have HN5 : Hid ((Value.slice a2 (k + 1) c2).ownBlock ≠ some w.heap.size) := hne
          have HB5 : Hid (Below w.heap.size w w5) := HB4.out.trans hb
          clear hr ho hne hb x0 x1 HC HX4 HB4 HR4 HO4
          go_wp2_with fail
          go_roundw
          case rel => exact ⟨k + 1, dpush acc x, a2, c2, by omega, by go_num, by rw [dpush_len, HAl.out], HD2.out, HR5.out, HO5.out, HN5.out, HB5.out⟩
          case measure => simp [intOf]; omega
      · have HE : Hid (dof [] l = some acc) := by
          show _ = _
          rw [← HDo.out, List.drop_of_length_le (by omega)]
          rfl
        have HA : Hid (AnsD w.heap.size wr.heap.size wr acc.length (flatD acc) (.slice a k c)) := by
          show AnsD _ _ _ _ _ _
          rw [HAl.out]
          exact AnsD.of_owns HO.out
        have r0 := HR.out.cell 0 _ rfl
        go_wp2_with fail
        go_ret2
        exact RetO.yes rfl HE.out HA.out HB.out
end Go.Proofs.Ytdmmjggkdkmeaaa

namespace Go.Proofs.Ytdmmjggkdkmeaaa
open Go.ChangeShapes Go.WideShapes Go.ChangeAt Go.RowKit

/-- What the loop carries: the heap's box at q, what is told so far. -/
structure AllR (w W : World) (l : List Du) (q : Nat) (o : Value) (acc cur : List Du) (a : Option Addr) (c : Nat) : Prop where
  row : Row W q [.slice a cur.length c]
  own : W.ownsRow w.heap.size 30 2 (.slice a cur.length c) cur.length (flatD cur)
  ne : (Value.slice a cur.length c).ownBlock ≠ some q
  out : W.ownsRow w.heap.size 30 2 o acc.length (flatD acc)
  ne1 : o.ownBlock ≠ some q
  ne2 : ∀ g, o.ownBlock = some g → (Value.slice a cur.length c).ownBlock ≠ some g
  low : Below w.heap.size w W
  hq : w.heap.size ≤ q
  ok : HOk cur
  len : acc.length + cur.length ≤ 200
  all : acc ++ dall cur.length cur = dallR l
set_option maxHeartbeats 4000000 in
set_option maxRecDepth 100000 in
theorem implHeapAll_c (b : Option Addr) (d : Nat) (l : List Du) (hl : l.length ≤ 1048576) (w : World) (h : Sq w b (flatD l)) :
    Calls Try.prog 13 #[.slice b l.length d] w (RetL w (dallR l)) := by
  have H : Hid (Sq w b (flatD l)) := h
  clear h
  go_enter Try.func13, Try.ntmps13
  go_wp2_with fail
  refine (implHeapOk_c b d l hl _ H.out).mono ?_
  rintro e w1 ⟨k, rfl, hk, hb⟩
  have HB1 : Hid (Below w.heap.size w w1) := hb
  have HK : Hid (k = true ↔ HOk l) := hk
  clear hk hb
  cases k
  · have HN : Hid (dallR l = []) := by
      show _ = _
      unfold dallR
      rw [if_neg (fun t => by have := HK.out.2 t; cases this)]
    go_wp2_with fail
    go_ret
    exact ⟨_, rfl, by rw [HN.out]; exact AnsD.none _ _ _ _ _, HB1.out⟩
  · have HP : Hid (HOk l) := HK.out.1 rfl
    clear HK
    go_wp2_with fail
    refine (cloneD_c b d l hl _ (H.out.below HB1.out)).mono ?_
    rintro e w2 ⟨v, rfl, ho, hb⟩
    obtain ⟨a, c, rfl⟩ := owns_form2 ho
    have hw1 := HB1.out.size
    have hb2 := below_then HB1.out hb
    have hw2 := hb2.size
    have HA0 : Hid (AllR w (w2.alloc (.cells #[.slice a l.length c] 51)) l w2.heap.size (.slice none 0 0) [] l a c) := {
      row := row_fresh w2 [.slice a l.length c] 51
      own := (owns_mono2 ho hw1).alloc _
      ne := fun e => by have := (ho.lt _ e).2; omega
      out := World.ownsRow_nil _ _ _ _
      ne1 := by simp [Value.ownBlock]
      ne2 := fun g e => by simp [Value.ownBlock] at e
      low := behind_alloc hb2 _
      hq := hw2
      ok := HP.out
      len := by have := HP.out.1; simp; omega
      all := by unfold dallR; rw [if_pos HP.out]; rfl }
    clear ho hb hw1 hb2 hw2
    go_wp2_with fail
    generalize w2.alloc (.cells #[.slice a l.length c] 51) = w3 at HA0 ⊢
    generalize w2.heap.size = q at HA0 ⊢
    go_loopw [3, 4] (fun o r wr => ∃ (q : Nat) (acc cur : List Du) (a : Option Addr) (c : Nat), r = .pointer (some ⟨q, 0, none⟩) ∧ AllR w wr l q o acc cur a c) (fun _ r wr => match r with | .pointer (some p) => (match wr.cell? p with | some (.slice _ n _) => n | _ => 0) | _ => 0)
    case atStart => exact ⟨q, [], l, a, c, rfl, HA0.out⟩
    case round =>
      obtain ⟨q, acc, cur, a, c, rfl, hA⟩ := hrel
      obtain ⟨ao, co, he⟩ := owns_form2 hA.out
      subst he
      have HA : Hid (AllR w wr l q (.slice ao acc.length co) acc cur a c) := hA
      have hq := hA.row.lt
      clear hA HA0
      by_cases h0 : cur.length = 0
      · have hi : ¬ (0 : Int) < (cur.length : Int) := by omega
        have HE : Hid (dallR l = acc) := by
          show _ = _
          have := HA.out.all
          rw [h0] at this
          simpa [dall] using this.symm
        have HAn : Hid (AnsD w.heap.size wr.heap.size wr acc.length (flatD acc) (.slice ao acc.length co)) := AnsD.of_owns HA.out.out
        have r0 := HA.out.row.cell 0 _ rfl
        have HB : Hid (Below w.heap.size w wr) := HA.out.low
        clear h0 HA
        go_wp2_with fail
        go_ret
        exact ⟨_, rfl, by rw [HE.out]; exact HAn.out, HB.out⟩
      · have hi : (0 : Int) < (cur.length : Int) := by omega
        have hcn : cur ≠ [] := fun e => h0 (by rw [e]; rfl)
        obtain ⟨g, hg⟩ : ∃ g, a = some ⟨g, 0, none⟩ := by
          rcases HA.out.own.2 with ⟨_, hz⟩ | ⟨g, cap, _, e, _⟩
          · exact absurd hz h0
          · cases e; exact ⟨g, rfl⟩
        subst hg
        have hgq : g ≠ q := fun e => HA.out.ne (by rw [e]; rfl)
        have hc := pop_c w.heap.size q g c cur (by have := HA.out.len; omega) hcn wr HA.out.row HA.out.own hgq
        have HC : Hid (Calls Try.prog 37 #[.pointer (some ⟨q, 0, none⟩)] wr fun e w' => e = .returned (.agg #[.int .i64 (dg cur 0).t, .int .i64 (dg cur 0).n]) ∧ Row w' q [.slice (some ⟨g, 0, none⟩) (cur.length - 1) c] ∧ w'.ownsRow w.heap.size 30 2 (.slice (some ⟨g, 0, none⟩) (cur.length - 1) c) (cur.length - 1) (flatD (dpop cur)) ∧ Duo wr w' q g) := hc
        have HDa : Hid (dall cur.length cur = dg cur 0 :: dall (cur.length - 1) (dpop cur)) := dall_next hcn
        have HOk2 : Hid (HOk (dpop cur)) := pop_ok ⟨HA.out.ok, hcn⟩
        have HCn : Hid (cur.length ≠ 0) := h0
        have r0 := HA.out.row.cell 0 _ rfl
        have HMr : Hid (wr.cell? ⟨q, 0, none⟩ = some (.slice (some ⟨g, 0, none⟩) cur.length c)) := r0
        clear hc h0 hcn
        go_wp2_with fail
        refine HC.out.mono ?_
        rintro e w5 ⟨rfl, hr, ho, hd⟩
        obtain ⟨f, hf⟩ : ∃ f, dg cur 0 = f := ⟨_, rfl⟩
        rw [hf] at HDa ⊢
        have HR5 : Hid (Row w5 q [.slice (some ⟨g, 0, none⟩) (cur.length - 1) c]) := hr
        have HO5 : Hid (w5.ownsRow w.heap.size 30 2 (.slice (some ⟨g, 0, none⟩) (cur.length - 1) c) (cur.length - 1) (flatD (dpop cur))) := ho
        have HT5 : Hid (w5.ownsRow w.heap.size 30 2 (.slice ao acc.length co) acc.length (flatD acc)) := hd.owns HA.out.out HA.out.ne1 (fun e => HA.out.ne2 g e rfl)
        have hqw := HA.out.hq
        have HB5 : Hid (Below w.heap.size w w5) := HA.out.low.trans (hd.below HA.out.low.size hqw (HA.out.own.lt g rfl).1)
        have HN1 : Hid ((Value.slice ao acc.length co).ownBlock ≠ some q) := HA.out.ne1
        have HN2 : Hid (∀ k, (Value.slice ao acc.length co).ownBlock = some k → k ≠ g) := fun k e t => HA.out.ne2 k e (by rw [t]; rfl)
        have HLe : Hid (acc.length + cur.length ≤ 200) := HA.out.len
        have HAl : Hid (acc ++ dall cur.length cur = dallR l) := HA.out.all
        have hal : acc.length ≤ 200 := by have := HA.out.len; omega
        have hq5 : q < w5.heap.size := hr.lt
        have hg5 : g < w5.heap.size := (ho.lt g rfl).2
        clear hr ho hd hf HA HC r0 hi
        obtain ⟨i0, hi0, hz0, hz1, hz2⟩ := info_parts infoDue
        have HT6 : Hid ((w5.alloc (.cells #[.int .i64 f.t, .int .i64 f.n] 30)).ownsRow w.heap.size 30 2 (.slice ao acc.length co) acc.length (flatD acc)) := HT5.out.alloc _
        have HB6 : Hid (Below w.heap.size w (w5.alloc (.cells #[.int .i64 f.t, .int .i64 f.n] 30))) := behind_alloc HB5.out _
        have HR6 : Hid (Row (w5.alloc (.cells #[.int .i64 f.t, .int .i64 f.n] 30)) q [.slice (some ⟨g, 0, none⟩) (cur.length - 1) c]) := HR5.out.below (low_alloc _ _)
        have HO6 : Hid ((w5.alloc (.cells #[.int .i64 f.t, .int .i64 f.n] 30)).ownsRow w.heap.size 30 2 (.slice (some ⟨g, 0, none⟩) (cur.length - 1) c) (cur.length - 1) (flatD (dpop cur))) := HO5.out.alloc _
        have hs6 : (w5.alloc (.cells #[.int .i64 f.t, .int .i64 f.n] 30)).heap.size = w5.heap.size + 1 := by simp [go_sem]
        have hb6 := HB6.out.size
        go_wp2_with (at_builtin; refine wpList_append_own_at _ rfl _ _ 23 rfl w.heap.size 30 i0 (.agg #[.int .i64 0, .int .i64 0]) 2 16 Try.underlying23 hi0 hz0 hz1 hz2 rfl (by decide) (.slice ao acc.length co) acc.length (flatD acc) rfl HT6.out ⟨w5.heap.size, 0, none⟩ 1 1 [.int .i64 f.t, .int .i64 f.n] rfl rfl ?c1 ?c2 ?c3 ?c4 ?c5 ?_)
        case c1 =>
          intro j u hu
          rw [add_plain, Nat.zero_add]
          exact (row_fresh w5 [.int .i64 f.t, .int .i64 f.n] 30).cell j u hu
        case c2 => simp [Value.oneCell']
        case c3 => unfold maxLen; omega
        case c4 => omega
        case c5 => exact hb6
        · intro v' w7 hown hgrow _ hat
          obtain ⟨g', C', rfl⟩ : ∃ g' C', v' = .slice (some ⟨g', 0, none⟩) (acc.length + 1) C' := by
            rcases hown.2 with ⟨_, hz⟩ | ⟨g', cap, _, e, _⟩
            · omega
            · exact ⟨g', cap, e⟩
          have e9 : flatD acc ++ [.int .i64 f.t, .int .i64 f.n] = flatD (acc ++ [f]) := by rw [flatD_add]; rfl
          have hml : (dpop cur).length = cur.length - 1 := dpop_len cur
          have hgq' : g' ≠ q := fun e => by
            rcases hat with h | h
            · exact HN1.out (by rw [← h, e]; rfl)
            · have := Option.some.inj h; simp at this; omega
          have hgg' : g' ≠ g := fun e => by
            rcases hat with h | h
            · exact HN2.out g' (by rw [← h]; rfl) e
            · have := Option.some.inj h; simp at this; omega
          have hR7 : Row w7 q [.slice (some ⟨g, 0, none⟩) (dpop cur).length c] := by rw [hml]; exact HR6.out.far hgrow (fun e => HN1.out e.symm)
          have hO7 : w7.ownsRow w.heap.size 30 2 (.slice (some ⟨g, 0, none⟩) (dpop cur).length c) (dpop cur).length (flatD (dpop cur)) := by
            rw [hml]; exact HO6.out.kept hgrow (.inr (fun e => HN2.out g e.symm rfl))
          have hB7 : Below w.heap.size w w7 := HB6.out.grown hgrow hb6 (fun k hk => (HT6.out.lt k hk).1)
          have hT7 : w7.ownsRow w.heap.size 30 2 (.slice (some ⟨g', 0, none⟩) (acc.length + 1) C') (acc ++ [f]).length (flatD (acc ++ [f])) := by
            rw [← e9, List.length_append]; exact hown
          have hg7 := hO7.lt g rfl
          have hg7' := hT7.lt g' rfl
          have HA7 : Hid (AllR w (w7.alloc (.cells #[.slice (some ⟨g, 0, none⟩) (dpop cur).length c] 51)) l w7.heap.size (.slice (some ⟨g', 0, none⟩) (acc.length + 1) C') (acc ++ [f]) (dpop cur) (some ⟨g, 0, none⟩) c) := {
            row := row_fresh w7 [.slice (some ⟨g, 0, none⟩) (dpop cur).length c] 51
            own := hO7.alloc _
            ne := fun e => by have := Option.some.inj e; simp at this; omega
            out := hT7.alloc _
            ne1 := fun e => by have := Option.some.inj e; simp at this; omega
            ne2 := fun k e t => hgg' ((Option.some.inj e).trans (Option.some.inj t).symm)
            low := behind_alloc hB7 _
            hq := hB7.size
            ok := HOk2.out
            len := by rw [List.length_append, hml]; have := HLe.out; simp; omega
            all := by rw [← HAl.out, HDa.out, hml, List.append_assoc]; rfl }
          have HR7 : Hid (Row w7 q [.slice (some ⟨g, 0, none⟩) (dpop cur).length c]) := hR7
          have HMs : Hid ((dpop cur).length < cur.length) := by show _ < _; rw [hml]; have := HCn.out; omega
          clear hown hgrow hat e9 hml hgq' hgg' hR7 hO7 hB7 hT7 hg7 hg7' HT6 HB6 HR6 HO6 hs6 hb6 HR5 HO5 HT5 HB5 hq5 hg5 hi0 hz0 hz1 hz2 hqw
          have r0 := HR7.out.cell 0 _ rfl
          go_wp2_with fail
          go_roundw
          case rel => exact ⟨_, acc ++ [f], dpop cur, _, _, rfl, HA7.out⟩
          case measure =>
            have h1 := HA7.out.row.cell 0 _ rfl
            have h2 := HMr.out
            have h3 := HMs.out
            simp only [h1, h2]
            exact h3
end Go.Proofs.Ytdmmjggkdkmeaaa
