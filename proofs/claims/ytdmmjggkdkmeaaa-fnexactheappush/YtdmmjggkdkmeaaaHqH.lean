/- Heaps popped: the program's HeapPop. -/
import Derived.Test.YtdmmjggkdkmeaaaHqG
namespace Go.Proofs.Ytdmmjggkdkmeaaa
open Go.ChangeShapes Go.WideShapes Go.ChangeAt Go.RowKit

set_option maxHeartbeats 4000000 in
set_option maxRecDepth 100000 in
theorem implHeapPop_c (b : Option Addr) (d : Nat) (l : List Du) (hl : l.length ≤ 1048576) (w : World) (h : Sq w b (flatD l)) :
    Calls Try.prog 27 #[.slice b l.length d] w (RetG w (POkp l) (dg l 0) (dpop l)) := by
  have H : Hid (Sq w b (flatD l)) := h
  clear h
  by_cases h0 : l.length = 0
  · have HN : Hid (¬ POkp l) := fun t => t.2 (List.eq_nil_of_length_eq_zero h0)
    have hi : ((l.length : Int) == 0) = true := by simp [h0]
    clear h0
    go_enter Try.func27, Try.ntmps27
    go_wp2_with fail
    have HX : Hid (Row (w.alloc (.cells #[.int .i64 0, .int .i64 0] 30)) w.heap.size [.int .i64 0, .int .i64 0]) := row_fresh w [.int .i64 0, .int .i64 0] 30
    have hv := run_loadVar_mid (P := Try.prog) (w.alloc (.cells #[.int .i64 0, .int .i64 0] 30)) w.heap.size 0 30 [.int .i64 0, .int .i64 0] _ HX.out.all Try.underlying30 rfl szDue
    exact bodyPost_ret (results_mix3 Try.results27 rfl hv) rfl (RetG.no rfl HN.out (low_alloc _ _))
  · have hi : ((l.length : Int) == 0) = false := by rw [beq_eq_false_iff_ne]; omega
    have HL : Hid (l.length ≠ 0) := h0
    clear h0
    go_enter Try.func27, Try.ntmps27
    go_wp2_with fail
    have HX : Hid (Row (w.alloc (.cells #[.int .i64 0, .int .i64 0] 30)) w.heap.size [.int .i64 0, .int .i64 0]) := row_fresh w [.int .i64 0, .int .i64 0] 30
    have HB : Hid (Below w.heap.size w (w.alloc (.cells #[.int .i64 0, .int .i64 0] 30))) := low_alloc _ _
    generalize w.alloc (.cells #[.int .i64 0, .int .i64 0] 30) = w1 at HX HB ⊢
    refine (implHeapOk_c b d l hl _ (H.out.below HB.out)).mono ?_
    rintro e w3 ⟨k, rfl, hk, hb⟩
    have HX3 : Hid (Row w3 w.heap.size [.int .i64 0, .int .i64 0]) := HX.out.below hb
    have HB3 : Hid (Below w.heap.size w w3) := below_then HB.out hb
    have HK : Hid (k = true ↔ HOk l) := hk
    clear hb hk HX HB
    cases k
    · have HN : Hid (¬ POkp l) := fun t => by have := HK.out.2 t.1; cases this
      have hX3 := HX3.out.lt
      have z0 := HX3.out.cell 0 _ rfl
      have z1 := HX3.out.cell 1 _ rfl
      have f0 := HX3.out.free 0
      have f1 := HX3.out.free 1
      go_wp2_with (refine stay_store 30 ?_)
      refine ⟨?_⟩
      refine wpList_store_mid rfl 30 _ _ rfl w.heap.size 0 _ rfl rfl (HX3.out.room 0 2 (by simp)) szDue (by simp [Value.oneCell']) ?_
      show wpList _ _ _ _ _ (w3.setCells w.heap.size 0 [.int .i64 0, .int .i64 0])
      have HX4 : Hid (Row (w3.setCells w.heap.size 0 [.int .i64 0, .int .i64 0]) w.heap.size [.int .i64 0, .int .i64 0]) := HX3.out.setCs [.int .i64 0, .int .i64 0] 0 (by simp)
      have HB4 : Hid (Below w.heap.size w (w3.setCells w.heap.size 0 [.int .i64 0, .int .i64 0])) := below_setCs (Nat.le_refl _) _ _ HB3.out
      generalize w3.setCells w.heap.size 0 [.int .i64 0, .int .i64 0] = w4 at HX4 HB4 ⊢
      clear z0 z1 f0 f1
      go_wp2_with fail
      have hv := run_loadVar_mid (P := Try.prog) w4 w.heap.size 0 30 [.int .i64 0, .int .i64 0] _ HX4.out.all Try.underlying30 rfl szDue
      exact bodyPost_ret (results_mix3 Try.results27 rfl hv) rfl (RetG.no rfl HN.out HB4.out)
    · have HP : Hid (POkp l) := ⟨HK.out.1 rfl, fun e => HL.out (by rw [e]; rfl)⟩
      clear HK
      go_wp2_with fail
      refine (cloneD_c b d l hl _ (H.out.below HB3.out)).mono ?_
      rintro e w4 ⟨v, rfl, ho, hb⟩
      obtain ⟨g, C, rfl⟩ : ∃ g C, v = .slice (some ⟨g, 0, none⟩) l.length C := by
        rcases ho.2 with ⟨_, hz⟩ | ⟨g, cap, _, rfl, _⟩
        · exact absurd hz HL.out
        · exact ⟨g, cap, rfl⟩
      have hw3 := HB3.out.size
      have HO4 : Hid (w4.ownsRow w.heap.size 30 2 (.slice (some ⟨g, 0, none⟩) l.length C) l.length (flatD l)) := owns_mono2 ho hw3
      have HX4 : Hid (Row w4 w.heap.size [.int .i64 0, .int .i64 0]) := HX3.out.below hb
      have HB4 : Hid (Below w.heap.size w w4) := below_then HB3.out hb
      have hX4 := HX4.out.lt
      have hX3 := HX3.out.lt
      have hgl := ho.lt g rfl
      have HG : Hid (g ≠ w4.heap.size ∧ g ≠ w.heap.size) := ⟨by omega, by omega⟩
      clear ho hb HX3 HB3 hw3 hX3
      have HR5 : Hid (Row (w4.alloc (.cells #[.slice (some ⟨g, 0, none⟩) l.length C] 51)) w4.heap.size [.slice (some ⟨g, 0, none⟩) l.length C]) := row_fresh w4 [.slice (some ⟨g, 0, none⟩) l.length C] 51
      have HO5 : Hid ((w4.alloc (.cells #[.slice (some ⟨g, 0, none⟩) l.length C] 51)).ownsRow w.heap.size 30 2 (.slice (some ⟨g, 0, none⟩) l.length C) l.length (flatD l)) := HO4.out.alloc _
      have HX5 : Hid (Row (w4.alloc (.cells #[.slice (some ⟨g, 0, none⟩) l.length C] 51)) w.heap.size [.int .i64 0, .int .i64 0]) := HX4.out.below (low_alloc _ _)
      have HB5 : Hid (Below w.heap.size w (w4.alloc (.cells #[.slice (some ⟨g, 0, none⟩) l.length C] 51))) := behind_alloc HB4.out _
      have hX5 : w.heap.size ≠ w4.heap.size := Nat.ne_of_lt hX4
      go_wp2_with fail
      generalize w4.alloc (.cells #[.slice (some ⟨g, 0, none⟩) l.length C] 51) = w5 at HR5 HO5 HX5 HB5 ⊢
      have hq : w.heap.size < w4.heap.size := by omega
      generalize w4.heap.size = q at HR5 HG hq hX5 ⊢
      have HQ : Hid (w.heap.size < q) := hq
      clear HO4 HX4 HB4 hX4 hq hX5 hgl
      refine (pop_c w.heap.size q g C l (by have := HP.out.1.1; omega) HP.out.2 _ HR5.out HO5.out HG.out.1).mono ?_
      rintro e w6 ⟨rfl, hr, ho, hd⟩
      have hq5 := HR5.out.lt
      have HB6 : Hid (Below w.heap.size w w6) := HB5.out.trans (hd.below HB5.out.size (Nat.le_of_lt HQ.out) (HO5.out.lt g rfl).1)
      have HX6 : Hid (Row w6 w.heap.size [.int .i64 0, .int .i64 0]) := hd.row HX5.out (Nat.ne_of_lt HQ.out) (Ne.symm HG.out.2)
      have HO6 : Hid (w6.ownsRow w.heap.size 30 2 (.slice (some ⟨g, 0, none⟩) (l.length - 1) C) (l.length - 1) (flatD (dpop l))) := ho
      have HR6 : Hid (Row w6 q [.slice (some ⟨g, 0, none⟩) (l.length - 1) C]) := hr
      clear hr ho hd hq5 HR5 HO5 HX5 HB5
      obtain ⟨m, hm⟩ : ∃ m, l.length - 1 = m := ⟨_, rfl⟩
      have HM : Hid ((dpop l).length = m) := by show _ = _; rw [dpop_len, hm]
      rw [hm] at HO6 HR6
      clear hm
      obtain ⟨f, hf⟩ : ∃ f, dg l 0 = f := ⟨_, rfl⟩
      rw [hf]
      have r0 := HR6.out.cell 0 _ rfl
      have x0 := HX6.out.cell 0 _ rfl
      have x1 := HX6.out.cell 1 _ rfl
      have xf0 := HX6.out.free 0
      have xf1 := HX6.out.free 1
      have a1 := HR6.out.lt
      have a2 := HX6.out.lt
      have a3 : q ≠ w6.heap.size := Nat.ne_of_lt a1
      have a4 : w.heap.size ≠ w6.heap.size := Nat.ne_of_lt a2
      have a5 : w.heap.size ≠ q := Nat.ne_of_lt HQ.out
      go_wp2_with fail
      go_region
      clear r0 x0 x1 xf0 xf1 a1 a2 a3 a4 a5
      have HXf : Hid (Row (((w6.setCell ⟨w.heap.size, 0, none⟩ (.int .i64 f.t)).setCell ⟨w.heap.size, 1, none⟩ (.int .i64 f.n)).alloc (.cells #[.int .i64 f.t, .int .i64 f.n] 30)).drew w.heap.size [.int .i64 f.t, .int .i64 f.n]) := ((HX6.out.setCs [.int .i64 f.t, .int .i64 f.n] 0 (by simp)).below (low_alloc _ _)).below (low_drew _)
      have HOf : Hid ((((w6.setCell ⟨w.heap.size, 0, none⟩ (.int .i64 f.t)).setCell ⟨w.heap.size, 1, none⟩ (.int .i64 f.n)).alloc (.cells #[.int .i64 f.t, .int .i64 f.n] 30)).drew.ownsRow w.heap.size 30 2 (.slice (some ⟨g, 0, none⟩) m C) m (flatD (dpop l))) := ownsD_below ((HO6.out.kept (grown_setCs [.int .i64 f.t, .int .i64 f.n] 0) (.inr (fun e => HG.out.2 (Option.some.inj e)))).alloc _) (low_drew _)
      have HBf : Hid (Below w.heap.size w (((w6.setCell ⟨w.heap.size, 0, none⟩ (.int .i64 f.t)).setCell ⟨w.heap.size, 1, none⟩ (.int .i64 f.n)).alloc (.cells #[.int .i64 f.t, .int .i64 f.n] 30)).drew) := below_then (behind_alloc (below_setCs (Nat.le_refl _) [.int .i64 f.t, .int .i64 f.n] 0 HB6.out) _) (low_drew _)
      generalize (((w6.setCell ⟨w.heap.size, 0, none⟩ (.int .i64 f.t)).setCell ⟨w.heap.size, 1, none⟩ (.int .i64 f.n)).alloc (.cells #[.int .i64 f.t, .int .i64 f.n] 30)).drew = w7 at HXf HOf HBf ⊢
      have hv := run_loadVar_mid (P := Try.prog) w7 w.heap.size 0 30 [.int .i64 f.t, .int .i64 f.n] _ HXf.out.all Try.underlying30 rfl szDue
      have HA : AnsD w.heap.size w7.heap.size w7 (dpop l).length (flatD (dpop l)) (.slice (some ⟨g, 0, none⟩) m C) := by rw [HM.out]; exact AnsD.of_owns HOf.out
      have HCp : CapD (.slice (some ⟨g, 0, none⟩) m C) (dpop l).length := by rw [HM.out]; exact ⟨_, _, rfl, (owns_row HOf.out).2.2⟩
      go_wp2_with fail
      exact bodyPost_ret (results_mix3 Try.results27 rfl hv) rfl (by rw [hf]; exact RetG.yes rfl HP.out HA HCp HBf.out)
end Go.Proofs.Ytdmmjggkdkmeaaa
