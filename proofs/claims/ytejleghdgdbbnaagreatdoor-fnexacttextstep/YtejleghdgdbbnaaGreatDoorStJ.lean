/- A step read of a text: the specification's; torn, and all kinds. -/
import Derived.Test.YtejleghdgdbbnaaGreatDoorMgUg
namespace Go.Proofs.YtejleghdgdbbnaaGreatDoor
open Go.ChangeShapes Go.WideShapes Go.ChangeAt Go.RowKit

set_option maxHeartbeats 20000000 in
set_option maxRecDepth 100000 in
theorem specTextStep_2a (s : ByteArray) (hs : s.size ≤ 1048576) (w : World) (hw : (Lib.cut s.data.toList [32]).1 = [116, 111, 114, 110]) (h3 : 2 < (pcs 32 s.data.toList).length) (hne : s.data.toList ≠ []) (x : Cm) (hx : (tcR (Lib.cut (Lib.cut s.data.toList [32]).2.1 [32]).2.1).1 = x) (p : Int) (hp : (tnR (Lib.cut (Lib.cut s.data.toList [32]).2.1 [32]).1).1 = p) :
    Calls Tryz.prog 9 #[.string s] w fun e w' => e = .returned (stRes s.data.toList 2 x p) ∧ Below w.heap.size w w' := by
  have CP : Hid (∀ W : World, Calls Tryz.prog 20 #[.string s, .int .u8 32] W fun e w' => ∃ g cap, e = .returned (.slice (some ⟨g, 0, none⟩) (pcs 32 s.data.toList).length cap) ∧ W.heap.size ≤ g ∧ Row w' g (strs (pcs 32 s.data.toList)) ∧ Below W.heap.size W w') := fun W => specParts_c s 32 hs W
  have hP0 : (strs (pcs 32 s.data.toList))[0]? = some (.string ⟨(Lib.cut s.data.toList [32]).1.toArray⟩) := by
    rw [strs_get]
    rcases pcs_cutS 32 s.data.toList with ⟨_, h2, _⟩ | ⟨_, h2, h3, _⟩
    · rw [h2]; rfl
    · rw [h2, h3]; rfl
  have hPl : 0 < (pcs 32 s.data.toList).length := List.length_pos_iff.2 (pcs_ne _ _)
  obtain ⟨D, hDe, hD⟩ : ∃ D : ByteArray, (⟨(Lib.cut s.data.toList [32]).1.toArray⟩ : ByteArray) = D ∧ D.toList = (Lib.cut s.data.toList [32]).1 := ⟨_, rfl, by rw [ByteArray.toList_eq]⟩
  rw [hDe] at hP0
  obtain ⟨hP1, hll⟩ : (strs (pcs 32 s.data.toList))[1]? = some (.string ⟨(Lib.cut (Lib.cut s.data.toList [32]).2.1 [32]).1.toArray⟩) ∧ s.data.toList = ([116, 111, 114, 110, 32] ++ (Lib.cut (Lib.cut s.data.toList [32]).2.1 [32]).1 ++ [32] : List UInt8) ++ (Lib.cut (Lib.cut s.data.toList [32]).2.1 [32]).2.1 := by
    rcases pcs_cutS 32 s.data.toList with ⟨_, h2, g2⟩ | ⟨_, h2, _, _⟩
    · rcases pcs_cutS 32 (Lib.cut s.data.toList [32]).2.1 with ⟨_, h4, g4⟩ | ⟨_, h4, _, _⟩
      · refine ⟨by rw [strs_get, h2, h4]; rfl, ?_⟩
        refine g2.trans ?_
        rw [hw]
        refine (congrArg (fun t => [116, 111, 114, 110] ++ 32 :: t) g4).trans ?_
        simp
      · exfalso
        rw [h2, h4] at h3
        simp at h3
    · exfalso
      rw [h2] at h3
      simp at h3
  obtain ⟨K, hKe, hKs⟩ : ∃ K : ByteArray, (⟨(Lib.cut (Lib.cut s.data.toList [32]).2.1 [32]).1.toArray⟩ : ByteArray) = K ∧ K.size = (Lib.cut (Lib.cut s.data.toList [32]).2.1 [32]).1.length := ⟨_, rfl, ba_size _⟩
  have hKl : K.data.toList = (Lib.cut (Lib.cut s.data.toList [32]).2.1 [32]).1 := by rw [← hKe]
  have hfit : 6 + K.size ≤ s.size := by
    have h4 := sz_list s
    have h5 := congrArg List.length hll
    simp at h5
    omega
  have hks : (K.size : Int) ≤ 1048576 := by omega
  have hks0 : (0 : Int) ≤ (K.size : Int) := by omega
  have hnt := fun W => specTextNum_all K W (by unfold maxLen; omega)
  simp only [hKl, hp] at hnt
  rw [hKe] at hP1
  generalize (tnR (Lib.cut (Lib.cut s.data.toList [32]).2.1 [32]).1).2 = nb at hnt
  have HNT : Hid (∀ W : World, Calls Tryz.prog 22 #[.string K] W fun e w' => e = .returned (.tuple #[.int .i64 p, .bool nb]) ∧ Below W.heap.size W w') := hnt
  clear hnt hKl
  obtain ⟨Y, hsl, hYl⟩ : ∃ Y : ByteArray, (∀ W : World, (Instr.slice 9 (.string s) (some (.int .i64 (6 + (K.size : Int)))) none none).run Tryz.prog W = .ok (.string Y) W) ∧ Y.data.toList = (Lib.cut (Lib.cut s.data.toList [32]).2.1 [32]).2.1 := by
    refine ⟨s.extract ((6 + (K.size : Int)) : Int).toNat s.size, fun W => run_slice_string_l W 9 s Tryz.underlying9 .i64 (6 + (K.size : Int)) (by omega) (by omega), ?_⟩
    rw [drop_of]
    have e3 : (6 + (K.size : Int)).toNat = 6 + K.size := by omega
    rw [e3, hKs]
    have h' := congrArg (List.drop (6 + (Lib.cut (Lib.cut s.data.toList [32]).2.1 [32]).1.length)) hll
    rw [h', show 6 + (Lib.cut (Lib.cut s.data.toList [32]).2.1 [32]).1.length = ([116, 111, 114, 110, 32] ++ (Lib.cut (Lib.cut s.data.toList [32]).2.1 [32]).1 ++ [32] : List UInt8).length by simp; omega]
    exact List.drop_left
  have hYs : Y.size ≤ 1048576 := by
    have : Y.size = Y.data.toList.length := (sz_list Y).symm
    rw [this, hYl]
    have h1 := (cut_lenH 32 s.data.toList).2
    have h2 := (cut_lenH 32 (Lib.cut s.data.toList [32]).2.1).2
    have h3 := sz_list s
    omega
  have hct := fun W => specTextCmd_c Y hYs W
  rw [hYl] at hct
  simp only [hx] at hct
  generalize (tcR (Lib.cut (Lib.cut s.data.toList [32]).2.1 [32]).2.1).2 = cb at hct
  have HCT : Hid (∀ W : World, Calls Tryz.prog 21 #[.string Y] W fun e w' => e = .returned (.tuple #[.agg #[.int .i64 x.s, .int .i64 x.j.id, .int .i64 x.j.pr, .int .i64 x.j.nd, .int .i64 x.j.na, .int .i64 x.j.nb, .int .i64 x.j.nc, .int .i64 x.j.la, .int .i64 x.j.lb, .int .i64 x.j.lc, .int .i64 x.j.wl, .int .i64 x.j.lv, .int .i64 x.n, .int .i64 x.a, .int .i64 x.b, .int .i64 x.c], .bool cb]) ∧ Below W.heap.size W w') := hct
  clear hct hYl hYs
  rw [hw] at hD
  have e1 : (D.toList == [100, 111]) = false := by rw [hD]; rfl
  have f1 : (([100, 111] : List UInt8) == D.toList) = false := by rw [hD]; rfl
  have e2 : (D.toList == [116, 111, 114, 110]) = true := by rw [hD]; rfl
  have f2 : (([116, 111, 114, 110] : List UInt8) == D.toList) = true := by rw [hD]; rfl
  have e3 : (D.toList == [99, 114, 97, 115, 104]) = false := by rw [hD]; rfl
  have f3 : (([99, 114, 97, 115, 104] : List UInt8) == D.toList) = false := by rw [hD]; rfl
  have e4 : (D.toList == [115, 116, 97, 114, 116]) = false := by rw [hD]; rfl
  have f4 : (([115, 116, 97, 114, 116] : List UInt8) == D.toList) = false := by rw [hD]; rfl
  clear hDe hD hw hx hp hKe hKs hll hfit
  have m1 : s.toList.isEmpty = false := by rw [ByteArray.toList_eq]; cases hh : s.data.toList with | nil => exact absurd hh hne | cons _ _ => rfl
  have m2 : (s.toList == []) = false := by rw [ByteArray.toList_eq, beq_eq_false_iff_ne]; exact hne
  generalize pcs 32 s.data.toList = P at CP hP0 hP1 hPl h3
  have h3i : (2 : Int) < (P.length : Int) := by omega
  have h1i : (1 : Int) < (P.length : Int) := by omega
  have HP1 : Hid ((strs P)[1]? = _) := hP1
  clear hP1
  have HP0 : Hid ((strs P)[0]? = _) := hP0
  have hPi : (0 : Int) < (P.length : Int) := by omega
  clear hP0 hs

  have HST : Hid (∀ W : World, Calls Tryz.prog 7 #[.agg #[.int .i64 2, .int .i64 x.s, .int .i64 x.j.id, .int .i64 x.j.pr, .int .i64 x.j.nd, .int .i64 x.j.na, .int .i64 x.j.nb, .int .i64 x.j.nc, .int .i64 x.j.la, .int .i64 x.j.lb, .int .i64 x.j.lc, .int .i64 x.j.wl, .int .i64 x.j.lv, .int .i64 x.n, .int .i64 x.a, .int .i64 x.b, .int .i64 x.c, .int .i64 p]] W fun e w' => e = .returned (.string ⟨(stL 2 x p).toArray⟩) ∧ Below W.heap.size W w') := fun W => specStepText_c 2 x p W
  obtain ⟨y, hy, hyl⟩ : ∃ y : ByteArray, (⟨(stL 2 x p).toArray⟩ : ByteArray) = y ∧ y.toList = stL 2 x p := ⟨_, rfl, by rw [ByteArray.toList_eq]⟩
  rw [hy] at HST
  clear hy
  have HRs : Hid (stRes s.data.toList 2 x p = if s.data.toList ≠ [] ∧ y.toList = s.toList then .tuple #[.agg #[.int .i64 2, .int .i64 x.s, .int .i64 x.j.id, .int .i64 x.j.pr, .int .i64 x.j.nd, .int .i64 x.j.na, .int .i64 x.j.nb, .int .i64 x.j.nc, .int .i64 x.j.la, .int .i64 x.j.lb, .int .i64 x.j.lc, .int .i64 x.j.wl, .int .i64 x.j.lv, .int .i64 x.n, .int .i64 x.a, .int .i64 x.b, .int .i64 x.c, .int .i64 p], .bool true] else .tuple #[.agg #[.int .i64 0, .int .i64 0, .int .i64 0, .int .i64 0, .int .i64 0, .int .i64 0, .int .i64 0, .int .i64 0, .int .i64 0, .int .i64 0, .int .i64 0, .int .i64 0, .int .i64 0, .int .i64 0, .int .i64 0, .int .i64 0, .int .i64 0, .int .i64 0], .bool false]) := by show _ = _; unfold stRes; rw [hyl, ByteArray.toList_eq]; try rfl
  clear hyl
  go_enter Tryz.func9, Tryz.ntmps9
  go_wp2_with fail
  have HR : Hid (Row (w.alloc (.cells #[.int .i64 0, .int .i64 0, .int .i64 0, .int .i64 0, .int .i64 0, .int .i64 0, .int .i64 0, .int .i64 0, .int .i64 0, .int .i64 0, .int .i64 0, .int .i64 0, .int .i64 0, .int .i64 0, .int .i64 0, .int .i64 0, .int .i64 0, .int .i64 0] 30)) w.heap.size [.int .i64 0, .int .i64 0, .int .i64 0, .int .i64 0, .int .i64 0, .int .i64 0, .int .i64 0, .int .i64 0, .int .i64 0, .int .i64 0, .int .i64 0, .int .i64 0, .int .i64 0, .int .i64 0, .int .i64 0, .int .i64 0, .int .i64 0, .int .i64 0]) := row_fresh w [.int .i64 0, .int .i64 0, .int .i64 0, .int .i64 0, .int .i64 0, .int .i64 0, .int .i64 0, .int .i64 0, .int .i64 0, .int .i64 0, .int .i64 0, .int .i64 0, .int .i64 0, .int .i64 0, .int .i64 0, .int .i64 0, .int .i64 0, .int .i64 0] 30
  have HB : Hid (Below w.heap.size w (w.alloc (.cells #[.int .i64 0, .int .i64 0, .int .i64 0, .int .i64 0, .int .i64 0, .int .i64 0, .int .i64 0, .int .i64 0, .int .i64 0, .int .i64 0, .int .i64 0, .int .i64 0, .int .i64 0, .int .i64 0, .int .i64 0, .int .i64 0, .int .i64 0, .int .i64 0] 30))) := low_alloc _ _
  generalize w.alloc (.cells #[.int .i64 0, .int .i64 0, .int .i64 0, .int .i64 0, .int .i64 0, .int .i64 0, .int .i64 0, .int .i64 0, .int .i64 0, .int .i64 0, .int .i64 0, .int .i64 0, .int .i64 0, .int .i64 0, .int .i64 0, .int .i64 0, .int .i64 0, .int .i64 0] 30) = u0 at HR HB ⊢
  refine (CP.out _).mono ?_
  rintro e w1 ⟨g, cap, rfl, _, hr, hb⟩
  replace HR : Hid (Row w1 w.heap.size [.int .i64 0, .int .i64 0, .int .i64 0, .int .i64 0, .int .i64 0, .int .i64 0, .int .i64 0, .int .i64 0, .int .i64 0, .int .i64 0, .int .i64 0, .int .i64 0, .int .i64 0, .int .i64 0, .int .i64 0, .int .i64 0, .int .i64 0, .int .i64 0]) := HR.out.below hb
  replace HB : Hid (Below w.heap.size w w1) := below_then HB.out hb
  have HP : Hid (Row w1 g (strs P)) := hr
  clear hr hb CP
  have s0 := HP.out.cell 0 _ HP0.out
  have hgl := HP.out.lt
  have hgn : g ≠ w1.heap.size := by omega
  have hq0 := HR.out.lt
  have hqr : ¬ w.heap.size = w1.heap.size := by omega
  have s1 := HP.out.cell 1 _ HP1.out
  go_wp2_with (refine stay_store 30 ?_)
  refine ⟨?_⟩
  have HJ0 : Hid (Row (w1.alloc (.cells #[.int .i64 0, .int .i64 0, .int .i64 0, .int .i64 0, .int .i64 0, .int .i64 0, .int .i64 0, .int .i64 0, .int .i64 0, .int .i64 0, .int .i64 0, .int .i64 0, .int .i64 0, .int .i64 0, .int .i64 0, .int .i64 0, .int .i64 0, .int .i64 0] 30)) w1.heap.size [.int .i64 0, .int .i64 0, .int .i64 0, .int .i64 0, .int .i64 0, .int .i64 0, .int .i64 0, .int .i64 0, .int .i64 0, .int .i64 0, .int .i64 0, .int .i64 0, .int .i64 0, .int .i64 0, .int .i64 0, .int .i64 0, .int .i64 0, .int .i64 0]) := row_fresh w1 [.int .i64 0, .int .i64 0, .int .i64 0, .int .i64 0, .int .i64 0, .int .i64 0, .int .i64 0, .int .i64 0, .int .i64 0, .int .i64 0, .int .i64 0, .int .i64 0, .int .i64 0, .int .i64 0, .int .i64 0, .int .i64 0, .int .i64 0, .int .i64 0] 30
  replace HR : Hid (Row (w1.alloc (.cells #[.int .i64 0, .int .i64 0, .int .i64 0, .int .i64 0, .int .i64 0, .int .i64 0, .int .i64 0, .int .i64 0, .int .i64 0, .int .i64 0, .int .i64 0, .int .i64 0, .int .i64 0, .int .i64 0, .int .i64 0, .int .i64 0, .int .i64 0, .int .i64 0] 30)) w.heap.size [.int .i64 0, .int .i64 0, .int .i64 0, .int .i64 0, .int .i64 0, .int .i64 0, .int .i64 0, .int .i64 0, .int .i64 0, .int .i64 0, .int .i64 0, .int .i64 0, .int .i64 0, .int .i64 0, .int .i64 0, .int .i64 0, .int .i64 0, .int .i64 0]) := HR.out.below (low_alloc _ _)
  replace HP : Hid (Row (w1.alloc (.cells #[.int .i64 0, .int .i64 0, .int .i64 0, .int .i64 0, .int .i64 0, .int .i64 0, .int .i64 0, .int .i64 0, .int .i64 0, .int .i64 0, .int .i64 0, .int .i64 0, .int .i64 0, .int .i64 0, .int .i64 0, .int .i64 0, .int .i64 0, .int .i64 0] 30)) g (strs P)) := HP.out.below (low_alloc _ _)
  replace HB : Hid (Below w.heap.size w (w1.alloc (.cells #[.int .i64 0, .int .i64 0, .int .i64 0, .int .i64 0, .int .i64 0, .int .i64 0, .int .i64 0, .int .i64 0, .int .i64 0, .int .i64 0, .int .i64 0, .int .i64 0, .int .i64 0, .int .i64 0, .int .i64 0, .int .i64 0, .int .i64 0, .int .i64 0] 30))) := behind_alloc HB.out _
  clear s0 s1
  generalize w1.alloc (.cells #[.int .i64 0, .int .i64 0, .int .i64 0, .int .i64 0, .int .i64 0, .int .i64 0, .int .i64 0, .int .i64 0, .int .i64 0, .int .i64 0, .int .i64 0, .int .i64 0, .int .i64 0, .int .i64 0, .int .i64 0, .int .i64 0, .int .i64 0, .int .i64 0] 30) = u9 at HR HB HJ0 HP ⊢
  generalize w1.heap.size = q at *
  refine wpList_store_mid rfl 30 _ _ rfl q 0 (#[.int .i64 0, .int .i64 0, .int .i64 0, .int .i64 0, .int .i64 0, .int .i64 0, .int .i64 0, .int .i64 0, .int .i64 0, .int .i64 0, .int .i64 0, .int .i64 0, .int .i64 0, .int .i64 0, .int .i64 0, .int .i64 0, .int .i64 0, .int .i64 0]) rfl rfl (HJ0.out.room 0 18 (by simp)) szStep (by simp [Value.oneCell']) ?_
  replace HJ0 : Hid (Row (u9.setCells q 0 (#[.int .i64 0, .int .i64 0, .int .i64 0, .int .i64 0, .int .i64 0, .int .i64 0, .int .i64 0, .int .i64 0, .int .i64 0, .int .i64 0, .int .i64 0, .int .i64 0, .int .i64 0, .int .i64 0, .int .i64 0, .int .i64 0, .int .i64 0, .int .i64 0] : Array Value).toList) q [.int .i64 0, .int .i64 0, .int .i64 0, .int .i64 0, .int .i64 0, .int .i64 0, .int .i64 0, .int .i64 0, .int .i64 0, .int .i64 0, .int .i64 0, .int .i64 0, .int .i64 0, .int .i64 0, .int .i64 0, .int .i64 0, .int .i64 0, .int .i64 0]) := Row.setCs _ 0 HJ0.out (by simp)
  replace HR : Hid (Row (u9.setCells q 0 (#[.int .i64 0, .int .i64 0, .int .i64 0, .int .i64 0, .int .i64 0, .int .i64 0, .int .i64 0, .int .i64 0, .int .i64 0, .int .i64 0, .int .i64 0, .int .i64 0, .int .i64 0, .int .i64 0, .int .i64 0, .int .i64 0, .int .i64 0, .int .i64 0] : Array Value).toList) w.heap.size [.int .i64 0, .int .i64 0, .int .i64 0, .int .i64 0, .int .i64 0, .int .i64 0, .int .i64 0, .int .i64 0, .int .i64 0, .int .i64 0, .int .i64 0, .int .i64 0, .int .i64 0, .int .i64 0, .int .i64 0, .int .i64 0, .int .i64 0, .int .i64 0]) := HR.out.apartCs hqr _ 0
  replace HP : Hid (Row (u9.setCells q 0 (#[.int .i64 0, .int .i64 0, .int .i64 0, .int .i64 0, .int .i64 0, .int .i64 0, .int .i64 0, .int .i64 0, .int .i64 0, .int .i64 0, .int .i64 0, .int .i64 0, .int .i64 0, .int .i64 0, .int .i64 0, .int .i64 0, .int .i64 0, .int .i64 0] : Array Value).toList) g (strs P)) := HP.out.apartCs hgn _ 0
  replace HB : Hid (Below w.heap.size w (u9.setCells q 0 (#[.int .i64 0, .int .i64 0, .int .i64 0, .int .i64 0, .int .i64 0, .int .i64 0, .int .i64 0, .int .i64 0, .int .i64 0, .int .i64 0, .int .i64 0, .int .i64 0, .int .i64 0, .int .i64 0, .int .i64 0, .int .i64 0, .int .i64 0, .int .i64 0] : Array Value).toList)) := below_setCs (by omega) _ _ HB.out
  generalize u9.setCells q 0 _ = u7 at HR HB HJ0 HP ⊢
  have dd := HJ0.out.cell 0 _ rfl
  have ff := HJ0.out.free 0
  have s0 := HP.out.cell 0 _ HP0.out
  have s1 := HP.out.cell 1 _ HP1.out
  go_wp2_with fail
  clear dd ff s0 s1
  have HJ : Hid (Row (u7.setCell ⟨q, 0, none⟩ (.int .i64 2)) q [.int .i64 2, .int .i64 0, .int .i64 0, .int .i64 0, .int .i64 0, .int .i64 0, .int .i64 0, .int .i64 0, .int .i64 0, .int .i64 0, .int .i64 0, .int .i64 0, .int .i64 0, .int .i64 0, .int .i64 0, .int .i64 0, .int .i64 0, .int .i64 0]) := HJ0.out.set 0 (by simp) _
  replace HR : Hid (Row (u7.setCell ⟨q, 0, none⟩ (.int .i64 2)) w.heap.size [.int .i64 0, .int .i64 0, .int .i64 0, .int .i64 0, .int .i64 0, .int .i64 0, .int .i64 0, .int .i64 0, .int .i64 0, .int .i64 0, .int .i64 0, .int .i64 0, .int .i64 0, .int .i64 0, .int .i64 0, .int .i64 0, .int .i64 0, .int .i64 0]) := HR.out.apart q 0 _ hqr
  replace HP : Hid (Row (u7.setCell ⟨q, 0, none⟩ (.int .i64 2)) g (strs P)) := HP.out.apart q 0 _ hgn
  replace HB : Hid (Below w.heap.size w (u7.setCell ⟨q, 0, none⟩ (.int .i64 2))) := HB.out.setCell (by show w.heap.size ≤ q; omega) _
  generalize u7.setCell ⟨q, 0, none⟩ (.int .i64 2) = u1 at HR HB HJ HP ⊢
  clear HJ0
  refine (HNT.out _).mono ?_
  rintro e w2 ⟨rfl, hb⟩
  replace HR : Hid (Row w2 w.heap.size [.int .i64 0, .int .i64 0, .int .i64 0, .int .i64 0, .int .i64 0, .int .i64 0, .int .i64 0, .int .i64 0, .int .i64 0, .int .i64 0, .int .i64 0, .int .i64 0, .int .i64 0, .int .i64 0, .int .i64 0, .int .i64 0, .int .i64 0, .int .i64 0]) := HR.out.below hb
  replace HP : Hid (Row w2 g (strs P)) := HP.out.below hb
  replace HJ : Hid (Row w2 q [.int .i64 2, .int .i64 0, .int .i64 0, .int .i64 0, .int .i64 0, .int .i64 0, .int .i64 0, .int .i64 0, .int .i64 0, .int .i64 0, .int .i64 0, .int .i64 0, .int .i64 0, .int .i64 0, .int .i64 0, .int .i64 0, .int .i64 0, .int .i64 0]) := HJ.out.below hb
  replace HB : Hid (Below w.heap.size w w2) := below_then HB.out hb
  clear hb HNT
  have dd := HJ.out.cell 17 _ rfl
  have ff := HJ.out.free 17
  have s1 := HP.out.cell 1 _ HP1.out
  go_wp2_with fail
  clear dd ff s1 HP
  replace HJ : Hid (Row (w2.setCell ⟨q, 17, none⟩ (.int .i64 p)) q [.int .i64 2, .int .i64 0, .int .i64 0, .int .i64 0, .int .i64 0, .int .i64 0, .int .i64 0, .int .i64 0, .int .i64 0, .int .i64 0, .int .i64 0, .int .i64 0, .int .i64 0, .int .i64 0, .int .i64 0, .int .i64 0, .int .i64 0, .int .i64 p]) := HJ.out.set 17 (by simp) _
  replace HR : Hid (Row (w2.setCell ⟨q, 17, none⟩ (.int .i64 p)) w.heap.size [.int .i64 0, .int .i64 0, .int .i64 0, .int .i64 0, .int .i64 0, .int .i64 0, .int .i64 0, .int .i64 0, .int .i64 0, .int .i64 0, .int .i64 0, .int .i64 0, .int .i64 0, .int .i64 0, .int .i64 0, .int .i64 0, .int .i64 0, .int .i64 0]) := HR.out.apart q 17 _ hqr
  replace HB : Hid (Below w.heap.size w (w2.setCell ⟨q, 17, none⟩ (.int .i64 p))) := HB.out.setCell (by show w.heap.size ≤ q; omega) _
  generalize w2.setCell ⟨q, 17, none⟩ (.int .i64 p) = u2 at HR HB HJ ⊢
  refine (HCT.out _).mono ?_
  rintro e w3 ⟨rfl, hb⟩
  replace HR : Hid (Row w3 w.heap.size [.int .i64 0, .int .i64 0, .int .i64 0, .int .i64 0, .int .i64 0, .int .i64 0, .int .i64 0, .int .i64 0, .int .i64 0, .int .i64 0, .int .i64 0, .int .i64 0, .int .i64 0, .int .i64 0, .int .i64 0, .int .i64 0, .int .i64 0, .int .i64 0]) := HR.out.below hb
  replace HJ : Hid (Row w3 q [.int .i64 2, .int .i64 0, .int .i64 0, .int .i64 0, .int .i64 0, .int .i64 0, .int .i64 0, .int .i64 0, .int .i64 0, .int .i64 0, .int .i64 0, .int .i64 0, .int .i64 0, .int .i64 0, .int .i64 0, .int .i64 0, .int .i64 0, .int .i64 p]) := HJ.out.below hb
  replace HB : Hid (Below w.heap.size w w3) := below_then HB.out hb
  clear hb HCT
  go_wp2_with (refine stay_store 28 ?_)
  refine ⟨?_⟩
  refine wpList_store_mid rfl 28 _ _ rfl q 1 (#[.int .i64 x.s, .int .i64 x.j.id, .int .i64 x.j.pr, .int .i64 x.j.nd, .int .i64 x.j.na, .int .i64 x.j.nb, .int .i64 x.j.nc, .int .i64 x.j.la, .int .i64 x.j.lb, .int .i64 x.j.lc, .int .i64 x.j.wl, .int .i64 x.j.lv, .int .i64 x.n, .int .i64 x.a, .int .i64 x.b, .int .i64 x.c]) rfl rfl (HJ.out.room 1 16 (by simp)) szCmdC (by simp [Value.oneCell']) ?_
  replace HJ : Hid (Row (w3.setCells q 1 (#[.int .i64 x.s, .int .i64 x.j.id, .int .i64 x.j.pr, .int .i64 x.j.nd, .int .i64 x.j.na, .int .i64 x.j.nb, .int .i64 x.j.nc, .int .i64 x.j.la, .int .i64 x.j.lb, .int .i64 x.j.lc, .int .i64 x.j.wl, .int .i64 x.j.lv, .int .i64 x.n, .int .i64 x.a, .int .i64 x.b, .int .i64 x.c] : Array Value).toList) q [.int .i64 2, .int .i64 x.s, .int .i64 x.j.id, .int .i64 x.j.pr, .int .i64 x.j.nd, .int .i64 x.j.na, .int .i64 x.j.nb, .int .i64 x.j.nc, .int .i64 x.j.la, .int .i64 x.j.lb, .int .i64 x.j.lc, .int .i64 x.j.wl, .int .i64 x.j.lv, .int .i64 x.n, .int .i64 x.a, .int .i64 x.b, .int .i64 x.c, .int .i64 p]) := Row.setCs _ 1 HJ.out (by simp)
  replace HR : Hid (Row (w3.setCells q 1 (#[.int .i64 x.s, .int .i64 x.j.id, .int .i64 x.j.pr, .int .i64 x.j.nd, .int .i64 x.j.na, .int .i64 x.j.nb, .int .i64 x.j.nc, .int .i64 x.j.la, .int .i64 x.j.lb, .int .i64 x.j.lc, .int .i64 x.j.wl, .int .i64 x.j.lv, .int .i64 x.n, .int .i64 x.a, .int .i64 x.b, .int .i64 x.c] : Array Value).toList) w.heap.size [.int .i64 0, .int .i64 0, .int .i64 0, .int .i64 0, .int .i64 0, .int .i64 0, .int .i64 0, .int .i64 0, .int .i64 0, .int .i64 0, .int .i64 0, .int .i64 0, .int .i64 0, .int .i64 0, .int .i64 0, .int .i64 0, .int .i64 0, .int .i64 0]) := HR.out.apartCs hqr _ 1
  replace HB : Hid (Below w.heap.size w (w3.setCells q 1 (#[.int .i64 x.s, .int .i64 x.j.id, .int .i64 x.j.pr, .int .i64 x.j.nd, .int .i64 x.j.na, .int .i64 x.j.nb, .int .i64 x.j.nc, .int .i64 x.j.la, .int .i64 x.j.lb, .int .i64 x.j.lc, .int .i64 x.j.wl, .int .i64 x.j.lv, .int .i64 x.n, .int .i64 x.a, .int .i64 x.b, .int .i64 x.c] : Array Value).toList)) := below_setCs (by omega) _ _ HB.out
  generalize w3.setCells q 1 _ = u3 at HR HB HJ ⊢

  go_wp2_with (refine stay_load 30 ?_)
  refine ⟨?_⟩
  refine wpList_load_mid_w rfl 30 _ rfl q 0 rfl [.int .i64 2, .int .i64 x.s, .int .i64 x.j.id, .int .i64 x.j.pr, .int .i64 x.j.nd, .int .i64 x.j.na, .int .i64 x.j.nb, .int .i64 x.j.nc, .int .i64 x.j.la, .int .i64 x.j.lb, .int .i64 x.j.lc, .int .i64 x.j.wl, .int .i64 x.j.lv, .int .i64 x.n, .int .i64 x.a, .int .i64 x.b, .int .i64 x.c, .int .i64 p] _ HJ.out.all Tryz.underlying30 rfl szStep ?_
  go_wp2_with fail
  refine (HST.out _).mono ?_
  rintro e v1 ⟨rfl, hb⟩
  replace HR : Hid (Row v1 w.heap.size [.int .i64 0, .int .i64 0, .int .i64 0, .int .i64 0, .int .i64 0, .int .i64 0, .int .i64 0, .int .i64 0, .int .i64 0, .int .i64 0, .int .i64 0, .int .i64 0, .int .i64 0, .int .i64 0, .int .i64 0, .int .i64 0, .int .i64 0, .int .i64 0]) := HR.out.below hb
  replace HJ : Hid (Row v1 q [.int .i64 2, .int .i64 x.s, .int .i64 x.j.id, .int .i64 x.j.pr, .int .i64 x.j.nd, .int .i64 x.j.na, .int .i64 x.j.nb, .int .i64 x.j.nc, .int .i64 x.j.la, .int .i64 x.j.lb, .int .i64 x.j.lc, .int .i64 x.j.wl, .int .i64 x.j.lv, .int .i64 x.n, .int .i64 x.a, .int .i64 x.b, .int .i64 x.c, .int .i64 p]) := HJ.out.below hb
  replace HB : Hid (Below w.heap.size w v1) := below_then HB.out hb
  clear hb HST
  by_cases ht : y.toList = s.toList
  · have q1 : (y.toList == s.toList) = true := by rw [ht]; simp
    have q2 : (s.toList == y.toList) = true := by rw [ht]; simp
    rw [if_pos ⟨hne, ht⟩] at HRs
    clear ht
    go_wp2_with (refine stay_load 30 ?_)
    refine ⟨?_⟩
    refine wpList_load_mid rfl 30 _ rfl q 0 rfl [.int .i64 2, .int .i64 x.s, .int .i64 x.j.id, .int .i64 x.j.pr, .int .i64 x.j.nd, .int .i64 x.j.na, .int .i64 x.j.nb, .int .i64 x.j.nc, .int .i64 x.j.la, .int .i64 x.j.lb, .int .i64 x.j.lc, .int .i64 x.j.wl, .int .i64 x.j.lv, .int .i64 x.n, .int .i64 x.a, .int .i64 x.b, .int .i64 x.c, .int .i64 p] _ HJ.out.all Tryz.underlying30 rfl szStep ?_
    go_wp2_with (refine stay_store 30 ?_)
    refine ⟨?_⟩
    refine wpList_store_mid rfl 30 _ _ rfl w.heap.size 0 (#[.int .i64 2, .int .i64 x.s, .int .i64 x.j.id, .int .i64 x.j.pr, .int .i64 x.j.nd, .int .i64 x.j.na, .int .i64 x.j.nb, .int .i64 x.j.nc, .int .i64 x.j.la, .int .i64 x.j.lb, .int .i64 x.j.lc, .int .i64 x.j.wl, .int .i64 x.j.lv, .int .i64 x.n, .int .i64 x.a, .int .i64 x.b, .int .i64 x.c, .int .i64 p]) rfl rfl (HR.out.room 0 18 (by simp)) szStep (by simp [Value.oneCell']) ?_
    replace HR : Hid (Row (v1.setCells w.heap.size 0 (#[.int .i64 2, .int .i64 x.s, .int .i64 x.j.id, .int .i64 x.j.pr, .int .i64 x.j.nd, .int .i64 x.j.na, .int .i64 x.j.nb, .int .i64 x.j.nc, .int .i64 x.j.la, .int .i64 x.j.lb, .int .i64 x.j.lc, .int .i64 x.j.wl, .int .i64 x.j.lv, .int .i64 x.n, .int .i64 x.a, .int .i64 x.b, .int .i64 x.c, .int .i64 p] : Array Value).toList) w.heap.size [.int .i64 2, .int .i64 x.s, .int .i64 x.j.id, .int .i64 x.j.pr, .int .i64 x.j.nd, .int .i64 x.j.na, .int .i64 x.j.nb, .int .i64 x.j.nc, .int .i64 x.j.la, .int .i64 x.j.lb, .int .i64 x.j.lc, .int .i64 x.j.wl, .int .i64 x.j.lv, .int .i64 x.n, .int .i64 x.a, .int .i64 x.b, .int .i64 x.c, .int .i64 p]) := Row.setCs _ 0 HR.out (by simp)
    replace HB : Hid (Below w.heap.size w (v1.setCells w.heap.size 0 (#[.int .i64 2, .int .i64 x.s, .int .i64 x.j.id, .int .i64 x.j.pr, .int .i64 x.j.nd, .int .i64 x.j.na, .int .i64 x.j.nb, .int .i64 x.j.nc, .int .i64 x.j.la, .int .i64 x.j.lb, .int .i64 x.j.lc, .int .i64 x.j.wl, .int .i64 x.j.lv, .int .i64 x.n, .int .i64 x.a, .int .i64 x.b, .int .i64 x.c, .int .i64 p] : Array Value).toList)) := below_setCs (Nat.le_refl _) _ _ HB.out
    generalize v1.setCells w.heap.size 0 _ = u8 at HR HB ⊢
    clear HJ
    go_wp2_with fail
    have hv := run_loadVar_mid (P := Tryz.prog) u8 w.heap.size 0 30 [.int .i64 2, .int .i64 x.s, .int .i64 x.j.id, .int .i64 x.j.pr, .int .i64 x.j.nd, .int .i64 x.j.na, .int .i64 x.j.nb, .int .i64 x.j.nc, .int .i64 x.j.la, .int .i64 x.j.lb, .int .i64 x.j.lc, .int .i64 x.j.wl, .int .i64 x.j.lv, .int .i64 x.n, .int .i64 x.a, .int .i64 x.b, .int .i64 x.c, .int .i64 p] _ HR.out.all Tryz.underlying30 rfl szStep
    exact bodyPost_ret (results_mix Tryz.results9 rfl hv) rfl ⟨by rw [HRs.out]; rfl, HB.out⟩
  · have q1 : (y.toList == s.toList) = false := by rw [beq_eq_false_iff_ne]; exact ht
    have q2 : (s.toList == y.toList) = false := by rw [beq_eq_false_iff_ne]; exact fun e => ht e.symm
    rw [if_neg (fun t => ht t.2)] at HRs
    clear ht
    go_wp2_with (refine stay_store 30 ?_)
    refine ⟨?_⟩
    refine wpList_store_mid rfl 30 _ _ rfl w.heap.size 0 (#[.int .i64 0, .int .i64 0, .int .i64 0, .int .i64 0, .int .i64 0, .int .i64 0, .int .i64 0, .int .i64 0, .int .i64 0, .int .i64 0, .int .i64 0, .int .i64 0, .int .i64 0, .int .i64 0, .int .i64 0, .int .i64 0, .int .i64 0, .int .i64 0]) rfl rfl (HR.out.room 0 18 (by simp)) szStep (by simp [Value.oneCell']) ?_
    replace HR : Hid (Row (v1.setCells w.heap.size 0 (#[.int .i64 0, .int .i64 0, .int .i64 0, .int .i64 0, .int .i64 0, .int .i64 0, .int .i64 0, .int .i64 0, .int .i64 0, .int .i64 0, .int .i64 0, .int .i64 0, .int .i64 0, .int .i64 0, .int .i64 0, .int .i64 0, .int .i64 0, .int .i64 0] : Array Value).toList) w.heap.size [.int .i64 0, .int .i64 0, .int .i64 0, .int .i64 0, .int .i64 0, .int .i64 0, .int .i64 0, .int .i64 0, .int .i64 0, .int .i64 0, .int .i64 0, .int .i64 0, .int .i64 0, .int .i64 0, .int .i64 0, .int .i64 0, .int .i64 0, .int .i64 0]) := Row.setCs _ 0 HR.out (by simp)
    replace HB : Hid (Below w.heap.size w (v1.setCells w.heap.size 0 (#[.int .i64 0, .int .i64 0, .int .i64 0, .int .i64 0, .int .i64 0, .int .i64 0, .int .i64 0, .int .i64 0, .int .i64 0, .int .i64 0, .int .i64 0, .int .i64 0, .int .i64 0, .int .i64 0, .int .i64 0, .int .i64 0, .int .i64 0, .int .i64 0] : Array Value).toList)) := below_setCs (Nat.le_refl _) _ _ HB.out
    generalize v1.setCells w.heap.size 0 _ = u8 at HR HB ⊢
    clear HJ
    go_wp2_with fail
    have hv := run_loadVar_mid (P := Tryz.prog) u8 w.heap.size 0 30 [.int .i64 0, .int .i64 0, .int .i64 0, .int .i64 0, .int .i64 0, .int .i64 0, .int .i64 0, .int .i64 0, .int .i64 0, .int .i64 0, .int .i64 0, .int .i64 0, .int .i64 0, .int .i64 0, .int .i64 0, .int .i64 0, .int .i64 0, .int .i64 0] _ HR.out.all Tryz.underlying30 rfl szStep
    exact bodyPost_ret (results_mix Tryz.results9 rfl hv) rfl ⟨by rw [HRs.out]; rfl, HB.out⟩
theorem specTextStep_c (s : ByteArray) (hs : s.size ≤ 1048576) (w : World) (k : Int) (x : Cm) (p : Int) (b : Bool) (h : tsR s.data.toList = (⟨k, x, p⟩, b)) :
    Calls Tryz.prog 9 #[.string s] w fun e w' => e = .returned (.tuple #[.agg #[.int .i64 k, .int .i64 x.s, .int .i64 x.j.id, .int .i64 x.j.pr, .int .i64 x.j.nd, .int .i64 x.j.na, .int .i64 x.j.nb, .int .i64 x.j.nc, .int .i64 x.j.la, .int .i64 x.j.lb, .int .i64 x.j.lc, .int .i64 x.j.wl, .int .i64 x.j.lv, .int .i64 x.n, .int .i64 x.a, .int .i64 x.b, .int .i64 x.c, .int .i64 p], .bool b]) ∧ Below w.heap.size w w' := by
  by_cases he : s.data.toList = []
  · rw [he, rdT_nil] at h
    injection h with h1 h2
    injection h1 with e1 e2 e3
    subst e1 e2 e3 h2
    exact specTextStep_nil s hs w he
  · have key : ∀ K X Q, rdT s.data.toList = ⟨K, X, Q⟩ → stRes s.data.toList K X Q = .tuple #[.agg #[.int .i64 k, .int .i64 x.s, .int .i64 x.j.id, .int .i64 x.j.pr, .int .i64 x.j.nd, .int .i64 x.j.na, .int .i64 x.j.nb, .int .i64 x.j.nc, .int .i64 x.j.la, .int .i64 x.j.lb, .int .i64 x.j.lc, .int .i64 x.j.wl, .int .i64 x.j.lv, .int .i64 x.n, .int .i64 x.a, .int .i64 x.b, .int .i64 x.c, .int .i64 p], .bool b] := fun K X Q hr => by
      have hy := rdT_yes (l := s.data.toList) he
      have hn := rdT_no (l := s.data.toList) he
      rw [hr] at hy hn
      unfold stRes
      by_cases ht : stL K X Q = s.data.toList
      · rw [if_pos ⟨he, ht⟩]
        have := (hy ht).symm.trans h
        injection this with h1 h2
        injection h1 with e1 e2 e3
        subst e1 e2 e3 h2
        rfl
      · rw [if_neg (fun t => ht t.2)]
        have := (hn ht).symm.trans h
        injection this with h1 h2
        injection h1 with e1 e2 e3
        subst e1 e2 e3 h2
        rfl
    by_cases h1 : (Lib.cut s.data.toList [32]).1 = [100, 111]
    · have hs1 : sdN (Lib.cut s.data.toList [32]).1 = 1 := by rw [h1]; rfl
      have hr : rdT s.data.toList = ⟨1, (tcR (Lib.cut s.data.toList [32]).2.1).1, 0⟩ := by unfold rdT; rw [if_pos hs1]
      by_cases h3 : 3 < s.size
      · rw [← key _ _ _ hr]
        exact specTextStep_1a s hs w h1 h3 he _ rfl
      · have hrest : (Lib.cut s.data.toList [32]).2.1 = [] := by
          rcases pcs_cutS 32 s.data.toList with ⟨_, _, g⟩ | ⟨_, _, _, g⟩
          · have h4 := sz_list s
            have h5 := congrArg List.length g
            rw [h1] at h5
            simp at h5
            exact List.eq_nil_of_length_eq_zero (by omega)
          · exact g
        rw [hrest, tcR_nil'] at hr
        rw [← key _ _ _ hr]
        exact specTextStep_1b s hs w h1 h3 he
    · by_cases h2 : (Lib.cut s.data.toList [32]).1 = [116, 111, 114, 110]
      · have hs2 : sdN (Lib.cut s.data.toList [32]).1 = 2 := by rw [h2]; rfl
        by_cases h3 : 2 < (pcs 32 s.data.toList).length
        · have hr : rdT s.data.toList = ⟨2, (tcR (Lib.cut (Lib.cut s.data.toList [32]).2.1 [32]).2.1).1, (tnR (Lib.cut (Lib.cut s.data.toList [32]).2.1 [32]).1).1⟩ := by unfold rdT; rw [if_neg (by rw [hs2]; decide), if_pos hs2, if_pos h3]
          rw [← key _ _ _ hr]
          exact specTextStep_2a s hs w h2 h3 he _ rfl _ rfl
        · have hr : rdT s.data.toList = ⟨2, cm0, 0⟩ := by unfold rdT; rw [if_neg (by rw [hs2]; decide), if_pos hs2, if_neg h3]
          rw [← key _ _ _ hr]
          exact specTextStep_2b s hs w h2 h3 he
      · by_cases h3 : (Lib.cut s.data.toList [32]).1 = [99, 114, 97, 115, 104]
        · have hr : rdT s.data.toList = ⟨3, cm0, 0⟩ := by unfold rdT; rw [h3]; rfl
          rw [← key _ _ _ hr]
          exact specTextStep_3 s hs w h3 he
        · by_cases h4 : (Lib.cut s.data.toList [32]).1 = [115, 116, 97, 114, 116]
          · have hr : rdT s.data.toList = ⟨4, cm0, 0⟩ := by unfold rdT; rw [h4]; rfl
            rw [← key _ _ _ hr]
            exact specTextStep_4 s hs w h4 he
          · have hs0 : sdN (Lib.cut s.data.toList [32]).1 = 0 := by unfold sdN; rw [if_neg h1, if_neg h2, if_neg h3, if_neg h4]
            have hr : rdT s.data.toList = ⟨0, cm0, 0⟩ := by unfold rdT; rw [hs0]; rfl
            rw [← key _ _ _ hr]
            exact specTextStep_0 s hs w h1 h2 h3 h4 he
end Go.Proofs.YtejleghdgdbbnaaGreatDoor
