/- TextCmd by the specification: two words. -/
import Derived.Test.YtejleghdgdbbnaaGreatDoorTcE
import Derived.Test.YtejleghdgdbbnaaGreatDoorTcD
namespace Go.Proofs.YtejleghdgdbbnaaGreatDoor
open Go.ChangeShapes Go.WideShapes Go.ChangeAt Go.RowKit

set_option maxHeartbeats 4000000 in
set_option maxRecDepth 100000 in
theorem specTextCmd_l_eq (s : ByteArray) (hs : s.size ≤ 1048576) (x0 x1 : List UInt8) (hP : pcs 32 s.data.toList = [x0, x1]) (h6 : kdN x0 = 6) (hne : s.data.toList ≠ []) (ht : ctL 6 jb0 0 (tvR x1).1.1 (tvR x1).1.2.1 (tvR x1).1.2.2 = s.data.toList) (w : World) : Calls Tryz.prog 21 #[.string s] w fun e w' => e = .returned (.tuple #[.agg #[.int .i64 6, .int .i64 0, .int .i64 0, .int .i64 0, .int .i64 0, .int .i64 0, .int .i64 0, .int .i64 0, .int .i64 0, .int .i64 0, .int .i64 0, .int .i64 0, .int .i64 0, .int .i64 (tvR x1).1.1, .int .i64 (tvR x1).1.2.1, .int .i64 (tvR x1).1.2.2], .bool true]) ∧ Below w.heap.size w w' := by
  have hps := fun p hp => Nat.le_trans (pcs_size 32 s.data.toList p hp) hs
  rw [hP] at hps
  have zx1 : (⟨x1.toArray⟩ : ByteArray).size ≤ 1048576 := by rw [ba_size]; exact hps x1 (by simp)
  obtain ⟨a1, b1, c1, bx1, ha1, hb1, hc1, Cx1⟩ : ∃ a c d b, Hid ((tvR x1).1.1 = a) ∧ Hid ((tvR x1).1.2.1 = c) ∧ Hid ((tvR x1).1.2.2 = d) ∧ ∀ W : World, Calls Tryz.prog 40 #[.string ⟨x1.toArray⟩] W fun e w' => e = .returned (.tuple #[.agg #[.int .i64 a, .int .i64 c, .int .i64 d], .bool b]) ∧ Below W.heap.size W w' := ⟨_, _, _, _, hid_rfl, hid_rfl, hid_rfl, fun W => specTextVec_c ⟨x1.toArray⟩ zx1 W⟩
  simp only [ha1.out, hb1.out, hc1.out] at ht ⊢
  clear ha1 hb1 hc1 zx1
  clear hps
  have hyt := specCmdText_c 6 jb0 0 a1 b1 c1
  obtain ⟨y, hy, hyl⟩ : ∃ y : ByteArray, (⟨(ctL 6 jb0 0 a1 b1 c1).toArray⟩ : ByteArray) = y ∧ y.toList = ctL 6 jb0 0 a1 b1 c1 := ⟨_, rfl, by rw [ByteArray.toList_eq]⟩
  rw [hy] at hyt
  have HX : Hid (∀ W : World, Calls Tryz.prog 16 #[.agg #[.int .i64 6, .int .i64 0, .int .i64 0, .int .i64 0, .int .i64 0, .int .i64 0, .int .i64 0, .int .i64 0, .int .i64 0, .int .i64 0, .int .i64 0, .int .i64 0, .int .i64 0, .int .i64 a1, .int .i64 b1, .int .i64 c1]] W fun e w' => e = .returned (.string y) ∧ Below W.heap.size W w') := hyt
  rw [← hyl, ← ByteArray.toList_eq] at ht
  clear hyl hy hyt
  have q1 : (y.toList == s.toList) = true := by rw [ht]; simp
  have q2 : (s.toList == y.toList) = true := by rw [ht]; simp
  have m1 : s.toList.isEmpty = false := by rw [ByteArray.toList_eq]; cases hh : s.data.toList with | nil => exact absurd hh hne | cons _ _ => rfl
  have m2 : (s.toList == []) = false := by rw [ByteArray.toList_eq, beq_eq_false_iff_ne]; exact hne
  clear ht hne
  have CP : ∀ W : World, Calls Tryz.prog 20 #[.string s, .int .u8 32] W fun e w' => ∃ g cap, e = .returned (.slice (some ⟨g, 0, none⟩) ([x0, x1]).length cap) ∧ W.heap.size ≤ g ∧ Row w' g (strs ([x0, x1])) ∧ Below W.heap.size W w' := fun W => by
    have := specParts_c s 32 hs W
    rw [hP] at this
    exact this
  clear hP
  go_enter Tryz.func21, Tryz.ntmps21
  go_wp2_with fail
  have HR : Hid (Row (w.alloc (.cells #[.int .i64 0, .int .i64 0, .int .i64 0, .int .i64 0, .int .i64 0, .int .i64 0, .int .i64 0, .int .i64 0, .int .i64 0, .int .i64 0, .int .i64 0, .int .i64 0, .int .i64 0, .int .i64 0, .int .i64 0, .int .i64 0] 28)) w.heap.size [.int .i64 0, .int .i64 0, .int .i64 0, .int .i64 0, .int .i64 0, .int .i64 0, .int .i64 0, .int .i64 0, .int .i64 0, .int .i64 0, .int .i64 0, .int .i64 0, .int .i64 0, .int .i64 0, .int .i64 0, .int .i64 0]) := row_fresh w [.int .i64 0, .int .i64 0, .int .i64 0, .int .i64 0, .int .i64 0, .int .i64 0, .int .i64 0, .int .i64 0, .int .i64 0, .int .i64 0, .int .i64 0, .int .i64 0, .int .i64 0, .int .i64 0, .int .i64 0, .int .i64 0] 28
  have HB : Hid (Below w.heap.size w (w.alloc (.cells #[.int .i64 0, .int .i64 0, .int .i64 0, .int .i64 0, .int .i64 0, .int .i64 0, .int .i64 0, .int .i64 0, .int .i64 0, .int .i64 0, .int .i64 0, .int .i64 0, .int .i64 0, .int .i64 0, .int .i64 0, .int .i64 0] 28))) := low_alloc _ _
  generalize w.alloc (.cells #[.int .i64 0, .int .i64 0, .int .i64 0, .int .i64 0, .int .i64 0, .int .i64 0, .int .i64 0, .int .i64 0, .int .i64 0, .int .i64 0, .int .i64 0, .int .i64 0, .int .i64 0, .int .i64 0, .int .i64 0, .int .i64 0] 28) = u0 at HR HB ⊢
  refine (CP _).mono ?_
  rintro e w1 ⟨g, cap, rfl, _, hr, hb⟩
  replace HR : Hid (Row w1 w.heap.size [.int .i64 0, .int .i64 0, .int .i64 0, .int .i64 0, .int .i64 0, .int .i64 0, .int .i64 0, .int .i64 0, .int .i64 0, .int .i64 0, .int .i64 0, .int .i64 0, .int .i64 0, .int .i64 0, .int .i64 0, .int .i64 0]) := HR.out.below hb
  replace HB : Hid (Below w.heap.size w w1) := below_then HB.out hb
  have HR1 : Hid (Row w1 g (strs ([x0, x1]))) := hr
  have HR0 := HR
  clear hr hb CP
  have hPx : Hid (([x0, x1])[0]? = some x0) := rfl
  have hPl : 0 < ([x0, x1]).length := by simp
  go_wp2_with fail
  refine (l08Words_c _).mono ?_
  rintro e w2 ⟨gk, rfl, hg, hr, hb⟩
  have hw2 := hb
  have HC : Hid (Row w2 w1.heap.size [.int .i64 0, .int .i64 0, .int .i64 0, .int .i64 0, .int .i64 0, .int .i64 0, .int .i64 0, .int .i64 0, .int .i64 0, .int .i64 0, .int .i64 0, .int .i64 0, .int .i64 0, .int .i64 0, .int .i64 0, .int .i64 0]) := (row_fresh w1 [.int .i64 0, .int .i64 0, .int .i64 0, .int .i64 0, .int .i64 0, .int .i64 0, .int .i64 0, .int .i64 0, .int .i64 0, .int .i64 0, .int .i64 0, .int .i64 0, .int .i64 0, .int .i64 0, .int .i64 0, .int .i64 0] 28).below hb
  replace HR : Hid (Row w2 w.heap.size [.int .i64 0, .int .i64 0, .int .i64 0, .int .i64 0, .int .i64 0, .int .i64 0, .int .i64 0, .int .i64 0, .int .i64 0, .int .i64 0, .int .i64 0, .int .i64 0, .int .i64 0, .int .i64 0, .int .i64 0, .int .i64 0]) := (HR.out.below (low_alloc _ _)).below hb
  have hq : w.heap.size < w1.heap.size := HR0.out.lt
  have hgq : g < w1.heap.size := HR1.out.lt
  have hkq : w1.heap.size < gk := by simp at hg; omega
  replace HB : Hid (Below w.heap.size w w2) := below_then (behind_alloc HB.out _) hb
  replace HR1 : Hid (Row w2 g (strs ([x0, x1]))) := (HR1.out.below (low_alloc _ _)).below hb
  have HK : Hid (Row w2 gk kwV) := hr
  clear hr hb hg hw2 HR0
  generalize w1.heap.size = q at HC hq hgq hkq ⊢
  have hP0 : (0 : Int) < (([x0, x1]).length : Int) := by omega
  go_wp2_with fail
  go_loopw [13] (fun i wr => ∃ j : Nat, j ≤ 8 ∧ i = .int .i64 j ∧ Row wr q [.int .i64 (kdT x0 j), .int .i64 0, .int .i64 0, .int .i64 0, .int .i64 0, .int .i64 0, .int .i64 0, .int .i64 0, .int .i64 0, .int .i64 0, .int .i64 0, .int .i64 0, .int .i64 0, .int .i64 0, .int .i64 0, .int .i64 0] ∧ Row wr w.heap.size [.int .i64 0, .int .i64 0, .int .i64 0, .int .i64 0, .int .i64 0, .int .i64 0, .int .i64 0, .int .i64 0, .int .i64 0, .int .i64 0, .int .i64 0, .int .i64 0, .int .i64 0, .int .i64 0, .int .i64 0, .int .i64 0] ∧ Row wr g (strs ([x0, x1])) ∧ Row wr gk kwV ∧ Below w.heap.size w wr) (fun i _ => 8 - (intOf i).toNat)
  case atStart => exact ⟨0, by omega, rfl, HC.out, HR.out, HR1.out, HK.out, HB.out⟩
  case round =>
    obtain ⟨j, hj, rfl, hc, hr, h1, hk, hb⟩ := hrel
    clear HC HR HR1 HK HB
    have HC : Hid (Row wr q [.int .i64 (kdT x0 j), .int .i64 0, .int .i64 0, .int .i64 0, .int .i64 0, .int .i64 0, .int .i64 0, .int .i64 0, .int .i64 0, .int .i64 0, .int .i64 0, .int .i64 0, .int .i64 0, .int .i64 0, .int .i64 0, .int .i64 0]) := hc
    have HR : Hid (Row wr w.heap.size [.int .i64 0, .int .i64 0, .int .i64 0, .int .i64 0, .int .i64 0, .int .i64 0, .int .i64 0, .int .i64 0, .int .i64 0, .int .i64 0, .int .i64 0, .int .i64 0, .int .i64 0, .int .i64 0, .int .i64 0, .int .i64 0]) := hr
    have HR1 : Hid (Row wr g (strs ([x0, x1]))) := h1
    have HK : Hid (Row wr gk kwV) := hk
    have HB : Hid (Below w.heap.size w wr) := hb
    clear hc hr h1 hk hb
    by_cases hlt : j < 8
    · have hi1 : (j : Int) < 8 := by omega
      obtain ⟨Y, hY, ck⟩ : ∃ Y : ByteArray, Hid (Y.toList = kws.getD j []) ∧ wr.cell? ⟨gk, j, none⟩ = some (.string Y) := ⟨⟨(kws.getD j []).toArray⟩, (by show _ = _; rw [ByteArray.toList_eq]), HK.out.cell j _ (kwV_get j hlt)⟩
      obtain ⟨X, hX, cx⟩ : ∃ X : ByteArray, Hid (X.toList = x0) ∧ wr.cell? ⟨g, 0, none⟩ = some (.string X) := ⟨⟨x0.toArray⟩, (by show _ = _; rw [ByteArray.toList_eq]), HR1.out.cell 0 _ (by rw [strs_get, hPx.out]; rfl)⟩
      rcases Nat.eq_zero_or_pos j with rfl | hpos
      · have HT : Hid (kdT x0 (0 + 1) = kdT x0 0) := kdT_miss (.inr rfl)
        clear hY hX
        go_wp2_with fail
        exact ⟨⟨0 + 1, by omega, by go_num, by rw [HT.out]; exact HC.out, HR.out, HR1.out, HK.out, HB.out⟩, by simp [intOf]⟩
      · have hgt : (0 : Int) < (j : Int) := by omega
        have HI := kd_iff x0 j (by omega) hlt
        by_cases hm : kdN x0 = j
        · have HT : Hid (kdT x0 (j + 1) = j) := kdT_hit hm
          have e1 : (Y.toList == X.toList) = true := by rw [hY.out, hX.out, HI.2 hm]; simp
          have dd := HC.out.cell 0 _ rfl
          have ff := HC.out.free 0
          clear hY hX HI hm
          go_wp2_with fail
          have hne : ¬ w.heap.size = q := by omega
          have hne2 : g ≠ q := by omega
          have hne3 : gk ≠ q := by omega
          exact ⟨⟨j + 1, by omega, by go_num, by rw [HT.out]; exact HC.out.set 0 (by simp) _, HR.out.apart q 0 _ hne, HR1.out.apart q 0 _ hne2, HK.out.apart q 0 _ hne3, HB.out.setCell (by show w.heap.size ≤ q; omega) _⟩, by simp [intOf]; omega⟩
        · have HT : Hid (kdT x0 (j + 1) = kdT x0 j) := kdT_miss (.inl hm)
          have e1 : (Y.toList == X.toList) = false := by rw [hY.out, hX.out, beq_eq_false_iff_ne]; exact fun e => hm (HI.1 e)
          clear hY hX HI hm
          go_wp2_with fail
          exact ⟨⟨j + 1, by omega, by go_num, by rw [HT.out]; exact HC.out, HR.out, HR1.out, HK.out, HB.out⟩, by simp [intOf]; omega⟩
    · obtain rfl : j = 8 := by omega
      rw [kdT_all] at HC
      rw [h6] at HC
      replace HC : Hid (Row wr q [.int .i64 6, .int .i64 0, .int .i64 0, .int .i64 0, .int .i64 0, .int .i64 0, .int .i64 0, .int .i64 0, .int .i64 0, .int .i64 0, .int .i64 0, .int .i64 0, .int .i64 0, .int .i64 0, .int .i64 0, .int .i64 0]) := HC
      have hne0 : ¬ w.heap.size = q := by omega
      have hne2 : g ≠ q := by omega
      have kk := HC.out.cell 0 _ rfl
      have ss := HR1.out.cell 1 _ rfl
      go_wp2_with fail
      clear ss kk
      refine (Cx1 _).mono ?_
      rintro e v1 ⟨rfl, hb⟩
      replace HC : Hid (Row v1 q [.int .i64 6, .int .i64 0, .int .i64 0, .int .i64 0, .int .i64 0, .int .i64 0, .int .i64 0, .int .i64 0, .int .i64 0, .int .i64 0, .int .i64 0, .int .i64 0, .int .i64 0, .int .i64 0, .int .i64 0, .int .i64 0]) := HC.out.below hb
      replace HR1 : Hid (Row v1 g (strs ([x0, x1]))) := HR1.out.below hb
      replace HR : Hid (Row v1 w.heap.size [.int .i64 0, .int .i64 0, .int .i64 0, .int .i64 0, .int .i64 0, .int .i64 0, .int .i64 0, .int .i64 0, .int .i64 0, .int .i64 0, .int .i64 0, .int .i64 0, .int .i64 0, .int .i64 0, .int .i64 0, .int .i64 0]) := HR.out.below hb
      replace HB : Hid (Below w.heap.size w v1) := below_then HB.out hb
      clear hb Cx1
      go_wp2_with (refine stay_store 24 ?_)
      refine ⟨?_⟩
      refine wpList_store_mid rfl 24 _ _ rfl q 13 _ rfl rfl (HC.out.room 13 3 (by simp)) szVecC (by simp [Value.oneCell']) ?_
      replace HC : Hid (Row (v1.setCells q 13 (#[.int .i64 a1, .int .i64 b1, .int .i64 c1] : Array Value).toList) q [.int .i64 6, .int .i64 0, .int .i64 0, .int .i64 0, .int .i64 0, .int .i64 0, .int .i64 0, .int .i64 0, .int .i64 0, .int .i64 0, .int .i64 0, .int .i64 0, .int .i64 0, .int .i64 a1, .int .i64 b1, .int .i64 c1]) := Row.setCs _ 13 HC.out (by simp)
      replace HR1 : Hid (Row (v1.setCells q 13 (#[.int .i64 a1, .int .i64 b1, .int .i64 c1] : Array Value).toList) g (strs ([x0, x1]))) := HR1.out.apartCs hne2 _ 13
      replace HR : Hid (Row (v1.setCells q 13 (#[.int .i64 a1, .int .i64 b1, .int .i64 c1] : Array Value).toList) w.heap.size [.int .i64 0, .int .i64 0, .int .i64 0, .int .i64 0, .int .i64 0, .int .i64 0, .int .i64 0, .int .i64 0, .int .i64 0, .int .i64 0, .int .i64 0, .int .i64 0, .int .i64 0, .int .i64 0, .int .i64 0, .int .i64 0]) := HR.out.apartCs hne0 _ 13
      replace HB : Hid (Below w.heap.size w (v1.setCells q 13 (#[.int .i64 a1, .int .i64 b1, .int .i64 c1] : Array Value).toList)) := below_setCs (by omega) _ _ HB.out
      generalize v1.setCells q 13 _ = u10 at HC HR1 HR HB ⊢
      go_wp2_with (refine stay_load 28 ?_)
      refine ⟨?_⟩
      clear HR1
      have d0 := HC.out.cell 0 _ rfl
      have d1 := HC.out.cell 1 _ rfl
      have d2 := HC.out.cell 2 _ rfl
      have d3 := HC.out.cell 3 _ rfl
      have d4 := HC.out.cell 4 _ rfl
      have d5 := HC.out.cell 5 _ rfl
      have d6 := HC.out.cell 6 _ rfl
      have d7 := HC.out.cell 7 _ rfl
      have d8 := HC.out.cell 8 _ rfl
      have d9 := HC.out.cell 9 _ rfl
      have d10 := HC.out.cell 10 _ rfl
      have d11 := HC.out.cell 11 _ rfl
      have d12 := HC.out.cell 12 _ rfl
      have d13 := HC.out.cell 13 _ rfl
      have d14 := HC.out.cell 14 _ rfl
      have d15 := HC.out.cell 15 _ rfl
      go_wp2_with fail
      clear d0 d1 d2 d3 d4 d5 d6 d7 d8 d9 d10 d11 d12 d13 d14 d15
      refine (HX.out _).mono ?_
      rintro e w9 ⟨rfl, hb⟩
      replace HC : Hid (Row w9 q [.int .i64 6, .int .i64 0, .int .i64 0, .int .i64 0, .int .i64 0, .int .i64 0, .int .i64 0, .int .i64 0, .int .i64 0, .int .i64 0, .int .i64 0, .int .i64 0, .int .i64 0, .int .i64 a1, .int .i64 b1, .int .i64 c1]) := HC.out.below hb
      replace HR : Hid (Row w9 w.heap.size [.int .i64 0, .int .i64 0, .int .i64 0, .int .i64 0, .int .i64 0, .int .i64 0, .int .i64 0, .int .i64 0, .int .i64 0, .int .i64 0, .int .i64 0, .int .i64 0, .int .i64 0, .int .i64 0, .int .i64 0, .int .i64 0]) := HR.out.below hb
      replace HB : Hid (Below w.heap.size w w9) := below_then HB.out hb
      clear hb HX
      go_wp2_with (refine stay_load 28 ?_)
      refine ⟨?_⟩
      refine wpList_load_mid rfl 28 _ rfl q 0 rfl [.int .i64 6, .int .i64 0, .int .i64 0, .int .i64 0, .int .i64 0, .int .i64 0, .int .i64 0, .int .i64 0, .int .i64 0, .int .i64 0, .int .i64 0, .int .i64 0, .int .i64 0, .int .i64 a1, .int .i64 b1, .int .i64 c1] _ HC.out.all Tryz.underlying28 rfl szCmdC ?_
      go_wp2_with (refine stay_store 28 ?_)
      refine ⟨?_⟩
      refine wpList_store_mid rfl 28 _ _ rfl w.heap.size 0 (#[.int .i64 6, .int .i64 0, .int .i64 0, .int .i64 0, .int .i64 0, .int .i64 0, .int .i64 0, .int .i64 0, .int .i64 0, .int .i64 0, .int .i64 0, .int .i64 0, .int .i64 0, .int .i64 a1, .int .i64 b1, .int .i64 c1]) rfl rfl (HR.out.room 0 16 (by simp)) szCmdC (by simp [Value.oneCell']) ?_
      replace HR : Hid (Row (w9.setCells w.heap.size 0 (#[.int .i64 6, .int .i64 0, .int .i64 0, .int .i64 0, .int .i64 0, .int .i64 0, .int .i64 0, .int .i64 0, .int .i64 0, .int .i64 0, .int .i64 0, .int .i64 0, .int .i64 0, .int .i64 a1, .int .i64 b1, .int .i64 c1] : Array Value).toList) w.heap.size [.int .i64 6, .int .i64 0, .int .i64 0, .int .i64 0, .int .i64 0, .int .i64 0, .int .i64 0, .int .i64 0, .int .i64 0, .int .i64 0, .int .i64 0, .int .i64 0, .int .i64 0, .int .i64 a1, .int .i64 b1, .int .i64 c1]) := Row.setCs _ 0 HR.out (by simp)
      replace HB : Hid (Below w.heap.size w (w9.setCells w.heap.size 0 (#[.int .i64 6, .int .i64 0, .int .i64 0, .int .i64 0, .int .i64 0, .int .i64 0, .int .i64 0, .int .i64 0, .int .i64 0, .int .i64 0, .int .i64 0, .int .i64 0, .int .i64 0, .int .i64 a1, .int .i64 b1, .int .i64 c1] : Array Value).toList)) := below_setCs (Nat.le_refl _) _ _ HB.out
      generalize w9.setCells w.heap.size 0 _ = u8 at HR HB ⊢
      go_wp2_with fail
      have r0 := HR.out.cell 0 _ rfl
      have r1 := HR.out.cell 1 _ rfl
      have r2 := HR.out.cell 2 _ rfl
      have r3 := HR.out.cell 3 _ rfl
      have r4 := HR.out.cell 4 _ rfl
      have r5 := HR.out.cell 5 _ rfl
      have r6 := HR.out.cell 6 _ rfl
      have r7 := HR.out.cell 7 _ rfl
      have r8 := HR.out.cell 8 _ rfl
      have r9 := HR.out.cell 9 _ rfl
      have r10 := HR.out.cell 10 _ rfl
      have r11 := HR.out.cell 11 _ rfl
      have r12 := HR.out.cell 12 _ rfl
      have r13 := HR.out.cell 13 _ rfl
      have r14 := HR.out.cell 14 _ rfl
      have r15 := HR.out.cell 15 _ rfl
      exact bodyPost_ret (v := .tuple #[.agg #[.int .i64 6, .int .i64 0, .int .i64 0, .int .i64 0, .int .i64 0, .int .i64 0, .int .i64 0, .int .i64 0, .int .i64 0, .int .i64 0, .int .i64 0, .int .i64 0, .int .i64 0, .int .i64 a1, .int .i64 b1, .int .i64 c1], .bool true]) (by simp [results, Tryz.results21, go_sem, *]) rfl ⟨rfl, HB.out⟩

set_option maxHeartbeats 4000000 in
set_option maxRecDepth 100000 in
theorem specTextCmd_l_ne (s : ByteArray) (hs : s.size ≤ 1048576) (x0 x1 : List UInt8) (hP : pcs 32 s.data.toList = [x0, x1]) (h6 : kdN x0 = 6) (hne : s.data.toList ≠ []) (ht : ctL 6 jb0 0 (tvR x1).1.1 (tvR x1).1.2.1 (tvR x1).1.2.2 ≠ s.data.toList) (w : World) : Calls Tryz.prog 21 #[.string s] w fun e w' => e = .returned (.tuple #[.agg #[.int .i64 0, .int .i64 0, .int .i64 0, .int .i64 0, .int .i64 0, .int .i64 0, .int .i64 0, .int .i64 0, .int .i64 0, .int .i64 0, .int .i64 0, .int .i64 0, .int .i64 0, .int .i64 0, .int .i64 0, .int .i64 0], .bool false]) ∧ Below w.heap.size w w' := by
  have hps := fun p hp => Nat.le_trans (pcs_size 32 s.data.toList p hp) hs
  rw [hP] at hps
  have zx1 : (⟨x1.toArray⟩ : ByteArray).size ≤ 1048576 := by rw [ba_size]; exact hps x1 (by simp)
  obtain ⟨a1, b1, c1, bx1, ha1, hb1, hc1, Cx1⟩ : ∃ a c d b, Hid ((tvR x1).1.1 = a) ∧ Hid ((tvR x1).1.2.1 = c) ∧ Hid ((tvR x1).1.2.2 = d) ∧ ∀ W : World, Calls Tryz.prog 40 #[.string ⟨x1.toArray⟩] W fun e w' => e = .returned (.tuple #[.agg #[.int .i64 a, .int .i64 c, .int .i64 d], .bool b]) ∧ Below W.heap.size W w' := ⟨_, _, _, _, hid_rfl, hid_rfl, hid_rfl, fun W => specTextVec_c ⟨x1.toArray⟩ zx1 W⟩
  simp only [ha1.out, hb1.out, hc1.out] at ht ⊢
  clear ha1 hb1 hc1 zx1
  clear hps
  have hyt := specCmdText_c 6 jb0 0 a1 b1 c1
  obtain ⟨y, hy, hyl⟩ : ∃ y : ByteArray, (⟨(ctL 6 jb0 0 a1 b1 c1).toArray⟩ : ByteArray) = y ∧ y.toList = ctL 6 jb0 0 a1 b1 c1 := ⟨_, rfl, by rw [ByteArray.toList_eq]⟩
  rw [hy] at hyt
  have HX : Hid (∀ W : World, Calls Tryz.prog 16 #[.agg #[.int .i64 6, .int .i64 0, .int .i64 0, .int .i64 0, .int .i64 0, .int .i64 0, .int .i64 0, .int .i64 0, .int .i64 0, .int .i64 0, .int .i64 0, .int .i64 0, .int .i64 0, .int .i64 a1, .int .i64 b1, .int .i64 c1]] W fun e w' => e = .returned (.string y) ∧ Below W.heap.size W w') := hyt
  rw [← hyl, ← ByteArray.toList_eq] at ht
  clear hyl hy hyt
  have q1 : (y.toList == s.toList) = false := by rw [beq_eq_false_iff_ne]; exact ht
  have q2 : (s.toList == y.toList) = false := by rw [beq_eq_false_iff_ne]; exact fun t => ht t.symm
  have m1 : s.toList.isEmpty = false := by rw [ByteArray.toList_eq]; cases hh : s.data.toList with | nil => exact absurd hh hne | cons _ _ => rfl
  have m2 : (s.toList == []) = false := by rw [ByteArray.toList_eq, beq_eq_false_iff_ne]; exact hne
  clear ht hne
  have CP : ∀ W : World, Calls Tryz.prog 20 #[.string s, .int .u8 32] W fun e w' => ∃ g cap, e = .returned (.slice (some ⟨g, 0, none⟩) ([x0, x1]).length cap) ∧ W.heap.size ≤ g ∧ Row w' g (strs ([x0, x1])) ∧ Below W.heap.size W w' := fun W => by
    have := specParts_c s 32 hs W
    rw [hP] at this
    exact this
  clear hP
  go_enter Tryz.func21, Tryz.ntmps21
  go_wp2_with fail
  have HR : Hid (Row (w.alloc (.cells #[.int .i64 0, .int .i64 0, .int .i64 0, .int .i64 0, .int .i64 0, .int .i64 0, .int .i64 0, .int .i64 0, .int .i64 0, .int .i64 0, .int .i64 0, .int .i64 0, .int .i64 0, .int .i64 0, .int .i64 0, .int .i64 0] 28)) w.heap.size [.int .i64 0, .int .i64 0, .int .i64 0, .int .i64 0, .int .i64 0, .int .i64 0, .int .i64 0, .int .i64 0, .int .i64 0, .int .i64 0, .int .i64 0, .int .i64 0, .int .i64 0, .int .i64 0, .int .i64 0, .int .i64 0]) := row_fresh w [.int .i64 0, .int .i64 0, .int .i64 0, .int .i64 0, .int .i64 0, .int .i64 0, .int .i64 0, .int .i64 0, .int .i64 0, .int .i64 0, .int .i64 0, .int .i64 0, .int .i64 0, .int .i64 0, .int .i64 0, .int .i64 0] 28
  have HB : Hid (Below w.heap.size w (w.alloc (.cells #[.int .i64 0, .int .i64 0, .int .i64 0, .int .i64 0, .int .i64 0, .int .i64 0, .int .i64 0, .int .i64 0, .int .i64 0, .int .i64 0, .int .i64 0, .int .i64 0, .int .i64 0, .int .i64 0, .int .i64 0, .int .i64 0] 28))) := low_alloc _ _
  generalize w.alloc (.cells #[.int .i64 0, .int .i64 0, .int .i64 0, .int .i64 0, .int .i64 0, .int .i64 0, .int .i64 0, .int .i64 0, .int .i64 0, .int .i64 0, .int .i64 0, .int .i64 0, .int .i64 0, .int .i64 0, .int .i64 0, .int .i64 0] 28) = u0 at HR HB ⊢
  refine (CP _).mono ?_
  rintro e w1 ⟨g, cap, rfl, _, hr, hb⟩
  replace HR : Hid (Row w1 w.heap.size [.int .i64 0, .int .i64 0, .int .i64 0, .int .i64 0, .int .i64 0, .int .i64 0, .int .i64 0, .int .i64 0, .int .i64 0, .int .i64 0, .int .i64 0, .int .i64 0, .int .i64 0, .int .i64 0, .int .i64 0, .int .i64 0]) := HR.out.below hb
  replace HB : Hid (Below w.heap.size w w1) := below_then HB.out hb
  have HR1 : Hid (Row w1 g (strs ([x0, x1]))) := hr
  have HR0 := HR
  clear hr hb CP
  have hPx : Hid (([x0, x1])[0]? = some x0) := rfl
  have hPl : 0 < ([x0, x1]).length := by simp
  go_wp2_with fail
  refine (l08Words_c _).mono ?_
  rintro e w2 ⟨gk, rfl, hg, hr, hb⟩
  have hw2 := hb
  have HC : Hid (Row w2 w1.heap.size [.int .i64 0, .int .i64 0, .int .i64 0, .int .i64 0, .int .i64 0, .int .i64 0, .int .i64 0, .int .i64 0, .int .i64 0, .int .i64 0, .int .i64 0, .int .i64 0, .int .i64 0, .int .i64 0, .int .i64 0, .int .i64 0]) := (row_fresh w1 [.int .i64 0, .int .i64 0, .int .i64 0, .int .i64 0, .int .i64 0, .int .i64 0, .int .i64 0, .int .i64 0, .int .i64 0, .int .i64 0, .int .i64 0, .int .i64 0, .int .i64 0, .int .i64 0, .int .i64 0, .int .i64 0] 28).below hb
  replace HR : Hid (Row w2 w.heap.size [.int .i64 0, .int .i64 0, .int .i64 0, .int .i64 0, .int .i64 0, .int .i64 0, .int .i64 0, .int .i64 0, .int .i64 0, .int .i64 0, .int .i64 0, .int .i64 0, .int .i64 0, .int .i64 0, .int .i64 0, .int .i64 0]) := (HR.out.below (low_alloc _ _)).below hb
  have hq : w.heap.size < w1.heap.size := HR0.out.lt
  have hgq : g < w1.heap.size := HR1.out.lt
  have hkq : w1.heap.size < gk := by simp at hg; omega
  replace HB : Hid (Below w.heap.size w w2) := below_then (behind_alloc HB.out _) hb
  replace HR1 : Hid (Row w2 g (strs ([x0, x1]))) := (HR1.out.below (low_alloc _ _)).below hb
  have HK : Hid (Row w2 gk kwV) := hr
  clear hr hb hg hw2 HR0
  generalize w1.heap.size = q at HC hq hgq hkq ⊢
  have hP0 : (0 : Int) < (([x0, x1]).length : Int) := by omega
  go_wp2_with fail
  go_loopw [13] (fun i wr => ∃ j : Nat, j ≤ 8 ∧ i = .int .i64 j ∧ Row wr q [.int .i64 (kdT x0 j), .int .i64 0, .int .i64 0, .int .i64 0, .int .i64 0, .int .i64 0, .int .i64 0, .int .i64 0, .int .i64 0, .int .i64 0, .int .i64 0, .int .i64 0, .int .i64 0, .int .i64 0, .int .i64 0, .int .i64 0] ∧ Row wr w.heap.size [.int .i64 0, .int .i64 0, .int .i64 0, .int .i64 0, .int .i64 0, .int .i64 0, .int .i64 0, .int .i64 0, .int .i64 0, .int .i64 0, .int .i64 0, .int .i64 0, .int .i64 0, .int .i64 0, .int .i64 0, .int .i64 0] ∧ Row wr g (strs ([x0, x1])) ∧ Row wr gk kwV ∧ Below w.heap.size w wr) (fun i _ => 8 - (intOf i).toNat)
  case atStart => exact ⟨0, by omega, rfl, HC.out, HR.out, HR1.out, HK.out, HB.out⟩
  case round =>
    obtain ⟨j, hj, rfl, hc, hr, h1, hk, hb⟩ := hrel
    clear HC HR HR1 HK HB
    have HC : Hid (Row wr q [.int .i64 (kdT x0 j), .int .i64 0, .int .i64 0, .int .i64 0, .int .i64 0, .int .i64 0, .int .i64 0, .int .i64 0, .int .i64 0, .int .i64 0, .int .i64 0, .int .i64 0, .int .i64 0, .int .i64 0, .int .i64 0, .int .i64 0]) := hc
    have HR : Hid (Row wr w.heap.size [.int .i64 0, .int .i64 0, .int .i64 0, .int .i64 0, .int .i64 0, .int .i64 0, .int .i64 0, .int .i64 0, .int .i64 0, .int .i64 0, .int .i64 0, .int .i64 0, .int .i64 0, .int .i64 0, .int .i64 0, .int .i64 0]) := hr
    have HR1 : Hid (Row wr g (strs ([x0, x1]))) := h1
    have HK : Hid (Row wr gk kwV) := hk
    have HB : Hid (Below w.heap.size w wr) := hb
    clear hc hr h1 hk hb
    by_cases hlt : j < 8
    · have hi1 : (j : Int) < 8 := by omega
      obtain ⟨Y, hY, ck⟩ : ∃ Y : ByteArray, Hid (Y.toList = kws.getD j []) ∧ wr.cell? ⟨gk, j, none⟩ = some (.string Y) := ⟨⟨(kws.getD j []).toArray⟩, (by show _ = _; rw [ByteArray.toList_eq]), HK.out.cell j _ (kwV_get j hlt)⟩
      obtain ⟨X, hX, cx⟩ : ∃ X : ByteArray, Hid (X.toList = x0) ∧ wr.cell? ⟨g, 0, none⟩ = some (.string X) := ⟨⟨x0.toArray⟩, (by show _ = _; rw [ByteArray.toList_eq]), HR1.out.cell 0 _ (by rw [strs_get, hPx.out]; rfl)⟩
      rcases Nat.eq_zero_or_pos j with rfl | hpos
      · have HT : Hid (kdT x0 (0 + 1) = kdT x0 0) := kdT_miss (.inr rfl)
        clear hY hX
        go_wp2_with fail
        exact ⟨⟨0 + 1, by omega, by go_num, by rw [HT.out]; exact HC.out, HR.out, HR1.out, HK.out, HB.out⟩, by simp [intOf]⟩
      · have hgt : (0 : Int) < (j : Int) := by omega
        have HI := kd_iff x0 j (by omega) hlt
        by_cases hm : kdN x0 = j
        · have HT : Hid (kdT x0 (j + 1) = j) := kdT_hit hm
          have e1 : (Y.toList == X.toList) = true := by rw [hY.out, hX.out, HI.2 hm]; simp
          have dd := HC.out.cell 0 _ rfl
          have ff := HC.out.free 0
          clear hY hX HI hm
          go_wp2_with fail
          have hne : ¬ w.heap.size = q := by omega
          have hne2 : g ≠ q := by omega
          have hne3 : gk ≠ q := by omega
          exact ⟨⟨j + 1, by omega, by go_num, by rw [HT.out]; exact HC.out.set 0 (by simp) _, HR.out.apart q 0 _ hne, HR1.out.apart q 0 _ hne2, HK.out.apart q 0 _ hne3, HB.out.setCell (by show w.heap.size ≤ q; omega) _⟩, by simp [intOf]; omega⟩
        · have HT : Hid (kdT x0 (j + 1) = kdT x0 j) := kdT_miss (.inl hm)
          have e1 : (Y.toList == X.toList) = false := by rw [hY.out, hX.out, beq_eq_false_iff_ne]; exact fun e => hm (HI.1 e)
          clear hY hX HI hm
          go_wp2_with fail
          exact ⟨⟨j + 1, by omega, by go_num, by rw [HT.out]; exact HC.out, HR.out, HR1.out, HK.out, HB.out⟩, by simp [intOf]; omega⟩
    · obtain rfl : j = 8 := by omega
      rw [kdT_all] at HC
      rw [h6] at HC
      replace HC : Hid (Row wr q [.int .i64 6, .int .i64 0, .int .i64 0, .int .i64 0, .int .i64 0, .int .i64 0, .int .i64 0, .int .i64 0, .int .i64 0, .int .i64 0, .int .i64 0, .int .i64 0, .int .i64 0, .int .i64 0, .int .i64 0, .int .i64 0]) := HC
      have hne0 : ¬ w.heap.size = q := by omega
      have hne2 : g ≠ q := by omega
      have kk := HC.out.cell 0 _ rfl
      have ss := HR1.out.cell 1 _ rfl
      go_wp2_with fail
      clear ss kk
      refine (Cx1 _).mono ?_
      rintro e v1 ⟨rfl, hb⟩
      replace HC : Hid (Row v1 q [.int .i64 6, .int .i64 0, .int .i64 0, .int .i64 0, .int .i64 0, .int .i64 0, .int .i64 0, .int .i64 0, .int .i64 0, .int .i64 0, .int .i64 0, .int .i64 0, .int .i64 0, .int .i64 0, .int .i64 0, .int .i64 0]) := HC.out.below hb
      replace HR1 : Hid (Row v1 g (strs ([x0, x1]))) := HR1.out.below hb
      replace HR : Hid (Row v1 w.heap.size [.int .i64 0, .int .i64 0, .int .i64 0, .int .i64 0, .int .i64 0, .int .i64 0, .int .i64 0, .int .i64 0, .int .i64 0, .int .i64 0, .int .i64 0, .int .i64 0, .int .i64 0, .int .i64 0, .int .i64 0, .int .i64 0]) := HR.out.below hb
      replace HB : Hid (Below w.heap.size w v1) := below_then HB.out hb
      clear hb Cx1
      go_wp2_with (refine stay_store 24 ?_)
      refine ⟨?_⟩
      refine wpList_store_mid rfl 24 _ _ rfl q 13 _ rfl rfl (HC.out.room 13 3 (by simp)) szVecC (by simp [Value.oneCell']) ?_
      replace HC : Hid (Row (v1.setCells q 13 (#[.int .i64 a1, .int .i64 b1, .int .i64 c1] : Array Value).toList) q [.int .i64 6, .int .i64 0, .int .i64 0, .int .i64 0, .int .i64 0, .int .i64 0, .int .i64 0, .int .i64 0, .int .i64 0, .int .i64 0, .int .i64 0, .int .i64 0, .int .i64 0, .int .i64 a1, .int .i64 b1, .int .i64 c1]) := Row.setCs _ 13 HC.out (by simp)
      replace HR1 : Hid (Row (v1.setCells q 13 (#[.int .i64 a1, .int .i64 b1, .int .i64 c1] : Array Value).toList) g (strs ([x0, x1]))) := HR1.out.apartCs hne2 _ 13
      replace HR : Hid (Row (v1.setCells q 13 (#[.int .i64 a1, .int .i64 b1, .int .i64 c1] : Array Value).toList) w.heap.size [.int .i64 0, .int .i64 0, .int .i64 0, .int .i64 0, .int .i64 0, .int .i64 0, .int .i64 0, .int .i64 0, .int .i64 0, .int .i64 0, .int .i64 0, .int .i64 0, .int .i64 0, .int .i64 0, .int .i64 0, .int .i64 0]) := HR.out.apartCs hne0 _ 13
      replace HB : Hid (Below w.heap.size w (v1.setCells q 13 (#[.int .i64 a1, .int .i64 b1, .int .i64 c1] : Array Value).toList)) := below_setCs (by omega) _ _ HB.out
      generalize v1.setCells q 13 _ = u10 at HC HR1 HR HB ⊢
      go_wp2_with (refine stay_load 28 ?_)
      refine ⟨?_⟩
      clear HR1
      have d0 := HC.out.cell 0 _ rfl
      have d1 := HC.out.cell 1 _ rfl
      have d2 := HC.out.cell 2 _ rfl
      have d3 := HC.out.cell 3 _ rfl
      have d4 := HC.out.cell 4 _ rfl
      have d5 := HC.out.cell 5 _ rfl
      have d6 := HC.out.cell 6 _ rfl
      have d7 := HC.out.cell 7 _ rfl
      have d8 := HC.out.cell 8 _ rfl
      have d9 := HC.out.cell 9 _ rfl
      have d10 := HC.out.cell 10 _ rfl
      have d11 := HC.out.cell 11 _ rfl
      have d12 := HC.out.cell 12 _ rfl
      have d13 := HC.out.cell 13 _ rfl
      have d14 := HC.out.cell 14 _ rfl
      have d15 := HC.out.cell 15 _ rfl
      go_wp2_with fail
      clear d0 d1 d2 d3 d4 d5 d6 d7 d8 d9 d10 d11 d12 d13 d14 d15
      refine (HX.out _).mono ?_
      rintro e w9 ⟨rfl, hb⟩
      replace HC : Hid (Row w9 q [.int .i64 6, .int .i64 0, .int .i64 0, .int .i64 0, .int .i64 0, .int .i64 0, .int .i64 0, .int .i64 0, .int .i64 0, .int .i64 0, .int .i64 0, .int .i64 0, .int .i64 0, .int .i64 a1, .int .i64 b1, .int .i64 c1]) := HC.out.below hb
      replace HR : Hid (Row w9 w.heap.size [.int .i64 0, .int .i64 0, .int .i64 0, .int .i64 0, .int .i64 0, .int .i64 0, .int .i64 0, .int .i64 0, .int .i64 0, .int .i64 0, .int .i64 0, .int .i64 0, .int .i64 0, .int .i64 0, .int .i64 0, .int .i64 0]) := HR.out.below hb
      replace HB : Hid (Below w.heap.size w w9) := below_then HB.out hb
      clear hb HX
      go_wp2_with (refine stay_store 28 ?_)
      refine ⟨?_⟩
      refine wpList_store_mid rfl 28 _ _ rfl w.heap.size 0 (#[.int .i64 0, .int .i64 0, .int .i64 0, .int .i64 0, .int .i64 0, .int .i64 0, .int .i64 0, .int .i64 0, .int .i64 0, .int .i64 0, .int .i64 0, .int .i64 0, .int .i64 0, .int .i64 0, .int .i64 0, .int .i64 0]) rfl rfl (HR.out.room 0 16 (by simp)) szCmdC (by simp [Value.oneCell']) ?_
      replace HR : Hid (Row (w9.setCells w.heap.size 0 (#[.int .i64 0, .int .i64 0, .int .i64 0, .int .i64 0, .int .i64 0, .int .i64 0, .int .i64 0, .int .i64 0, .int .i64 0, .int .i64 0, .int .i64 0, .int .i64 0, .int .i64 0, .int .i64 0, .int .i64 0, .int .i64 0] : Array Value).toList) w.heap.size [.int .i64 0, .int .i64 0, .int .i64 0, .int .i64 0, .int .i64 0, .int .i64 0, .int .i64 0, .int .i64 0, .int .i64 0, .int .i64 0, .int .i64 0, .int .i64 0, .int .i64 0, .int .i64 0, .int .i64 0, .int .i64 0]) := Row.setCs _ 0 HR.out (by simp)
      replace HB : Hid (Below w.heap.size w (w9.setCells w.heap.size 0 (#[.int .i64 0, .int .i64 0, .int .i64 0, .int .i64 0, .int .i64 0, .int .i64 0, .int .i64 0, .int .i64 0, .int .i64 0, .int .i64 0, .int .i64 0, .int .i64 0, .int .i64 0, .int .i64 0, .int .i64 0, .int .i64 0] : Array Value).toList)) := below_setCs (Nat.le_refl _) _ _ HB.out
      generalize w9.setCells w.heap.size 0 _ = u8 at HR HB ⊢
      go_wp2_with fail
      have r0 := HR.out.cell 0 _ rfl
      have r1 := HR.out.cell 1 _ rfl
      have r2 := HR.out.cell 2 _ rfl
      have r3 := HR.out.cell 3 _ rfl
      have r4 := HR.out.cell 4 _ rfl
      have r5 := HR.out.cell 5 _ rfl
      have r6 := HR.out.cell 6 _ rfl
      have r7 := HR.out.cell 7 _ rfl
      have r8 := HR.out.cell 8 _ rfl
      have r9 := HR.out.cell 9 _ rfl
      have r10 := HR.out.cell 10 _ rfl
      have r11 := HR.out.cell 11 _ rfl
      have r12 := HR.out.cell 12 _ rfl
      have r13 := HR.out.cell 13 _ rfl
      have r14 := HR.out.cell 14 _ rfl
      have r15 := HR.out.cell 15 _ rfl
      exact bodyPost_ret (v := .tuple #[.agg #[.int .i64 0, .int .i64 0, .int .i64 0, .int .i64 0, .int .i64 0, .int .i64 0, .int .i64 0, .int .i64 0, .int .i64 0, .int .i64 0, .int .i64 0, .int .i64 0, .int .i64 0, .int .i64 0, .int .i64 0, .int .i64 0], .bool false]) (by simp [results, Tryz.results21, go_sem, *]) rfl ⟨rfl, HB.out⟩

end Go.Proofs.YtejleghdgdbbnaaGreatDoor
