/- A step read of a text: the specification's. -/
import Derived.Test.YtejleghdgdbbnaaGreatDoorTcE
import Derived.Test.YtejleghdgdbbnaaGreatDoorTcD
import Derived.Test.YtejleghdgdbbnaaGreatDoorMgUe
import Derived.Test.YtejleghdgdbbnaaGreatDoorTcG
import Derived.Test.YtejleghdgdbbnaaGreatDoorTcJ
import Derived.Test.YtejleghdgdbbnaaGreatDoorTcK
import Derived.Test.YtejleghdgdbbnaaGreatDoorMgUf
import Derived.Test.YtejleghdgdbbnaaGreatDoorMgUi
import Derived.Test.YtejleghdgdbbnaaGreatDoorMgUh
namespace Go.Proofs.YtejleghdgdbbnaaGreatDoor
open Go.ChangeShapes Go.WideShapes Go.ChangeAt Go.RowKit

set_option maxHeartbeats 4000000 in
set_option maxRecDepth 100000 in
theorem specTextCmd_d0_eq (s : ByteArray) (hs : s.size ≤ 1048576) (x0 : List UInt8) (P : List (List UInt8)) (hP : pcs 32 s.data.toList = P) (hPx : Hid (P[0]? = some x0)) (hPl : 0 < P.length) (h2 : P.length ≠ 2) (k : Nat) (hkd : kdN x0 = k) (h1 : k ≠ 1) (h6 : k ≠ 6) (hne : s.data.toList ≠ []) (ht : ctL k jb0 0 0 0 0 = s.data.toList) (w : World) : Calls Tryz.prog 21 #[.string s] w fun e w' => e = .returned (.tuple #[.agg #[.int .i64 (k : Int), .int .i64 0, .int .i64 0, .int .i64 0, .int .i64 0, .int .i64 0, .int .i64 0, .int .i64 0, .int .i64 0, .int .i64 0, .int .i64 0, .int .i64 0, .int .i64 0, .int .i64 0, .int .i64 0, .int .i64 0], .bool true]) ∧ Below w.heap.size w w' := by
  have hps := fun p hp => Nat.le_trans (pcs_size 32 s.data.toList p hp) hs
  rw [hP] at hps
  clear hps
  have hyt := specCmdText_c k jb0 0 0 0 0
  obtain ⟨y, hy, hyl⟩ : ∃ y : ByteArray, (⟨(ctL k jb0 0 0 0 0).toArray⟩ : ByteArray) = y ∧ y.toList = ctL k jb0 0 0 0 0 := ⟨_, rfl, by rw [ByteArray.toList_eq]⟩
  rw [hy] at hyt
  have HX : Hid (∀ W : World, Calls Tryz.prog 16 #[.agg #[.int .i64 (k : Int), .int .i64 0, .int .i64 0, .int .i64 0, .int .i64 0, .int .i64 0, .int .i64 0, .int .i64 0, .int .i64 0, .int .i64 0, .int .i64 0, .int .i64 0, .int .i64 0, .int .i64 0, .int .i64 0, .int .i64 0]] W fun e w' => e = .returned (.string y) ∧ Below W.heap.size W w') := hyt
  rw [← hyl, ← ByteArray.toList_eq] at ht
  clear hyl hy hyt
  have q1 : (y.toList == s.toList) = true := by rw [ht]; simp
  have q2 : (s.toList == y.toList) = true := by rw [ht]; simp
  have m1 : s.toList.isEmpty = false := by rw [ByteArray.toList_eq]; cases hh : s.data.toList with | nil => exact absurd hh hne | cons _ _ => rfl
  have m2 : (s.toList == []) = false := by rw [ByteArray.toList_eq, beq_eq_false_iff_ne]; exact hne
  clear ht hne
  have CP : ∀ W : World, Calls Tryz.prog 20 #[.string s, .int .u8 32] W fun e w' => ∃ g cap, e = .returned (.slice (some ⟨g, 0, none⟩) P.length cap) ∧ W.heap.size ≤ g ∧ Row w' g (strs P) ∧ Below W.heap.size W w' := fun W => by
    have := specParts_c s 32 hs W
    rw [hP] at this
    exact this
  clear hP
  go_enter Tryz.func21, Tryz.ntmps21
  go_wp2_with fail
  have HR : Hid (Row (w.alloc (.cells #[.int .i64 0, .int .i64 0, .int .i64 0, .int .i64 0, .int .i64 0, .int .i64 0, .int .i64 0, .int .i64 0, .int .i64 0, .int .i64 0, .int .i64 0, .int .i64 0, .int .i64 0, .int .i64 0, .int .i64 0, .int .i64 0] 28)) w.heap.size [.int .i64 0, .int .i64 0, .int .i64 0, .int .i64 0, .int .i64 0, .int .i64 0, .int .i64 0, .int .i64 0, .int .i64 0, .int .i64 0, .int .i64 0, .int .i64 0, .int .i64 0, .int .i64 0, .int .i64 0, .int .i64 0]) := row_fresh w [.int .i64 0, .int .i64 0, .int .i64 0, .int .i64 0, .int .i64 0, .int .i64 0, .int .i64 0, .int .i64 0, .int .i64 0, .int .i64 0, .int .i64 0, .int .i64 0, .int .i64 0, .int .i64 0, .int .i64 0, .int .i64 0] 28
  have HB : Hid (Below w.heap.size w (w.alloc (.cells #[.int .i64 0, .int .i64 0, .int .i64 0, .int .i64 0, .int .i64 0, .int .i64 0, .int .i64 0, .int .i64 0, .int .i64 0, .int .i64 0, .int .i64 0, .int .i64 0, .int .i64 0, .int .i64 0, .int .i64 0, .int .i64 0] 28))) := low_alloc _ _
  generalize w.alloc (.cells #[.int .i64 0, .int .i64 0, .int .i64 0, .int .i64 0, .int .i64 0, .int .i64 0, .int .i64 0, .int .i64 0, .int .i64 0, .int .i64 0, .int .i64 0, .int .i64 0, .int .i64 0, .int .i64 0, .int .i64 0, .int .i64 0] 28) = u0 at HR HB ⊢
  refine (CP _).mono ?_
  rintro e w1 ⟨g, cap, rfl, _, hr, hb⟩
  replace HR : Hid (Row w1 w.heap.size [.int .i64 0, .int .i64 0, .int .i64 0, .int .i64 0, .int .i64 0, .int .i64 0, .int .i64 0, .int .i64 0, .int .i64 0, .int .i64 0, .int .i64 0, .int .i64 0, .int .i64 0, .int .i64 0, .int .i64 0, .int .i64 0]) := HR.out.below hb
  replace HB : Hid (Below w.heap.size w w1) := below_then HB.out hb
  have HR1 : Hid (Row w1 g (strs P)) := hr
  have HR0 := HR
  clear hr hb CP
  go_wp2_with fail
  refine (l08Words_c _).mono ?_
  rintro e w2 ⟨gk, rfl, hg, hr, hb⟩
  have hw2 := hb
  have HC : Hid (Row w2 w1.heap.size [.int .i64 0, .int .i64 0, .int .i64 0, .int .i64 0, .int .i64 0, .int .i64 0, .int .i64 0, .int .i64 0, .int .i64 0, .int .i64 0, .int .i64 0, .int .i64 0, .int .i64 0, .int .i64 0, .int .i64 0, .int .i64 0]) := (row_fresh w1 [.int .i64 0, .int .i64 0, .int .i64 0, .int .i64 0, .int .i64 0, .int .i64 0, .int .i64 0, .int .i64 0, .int .i64 0, .int .i64 0, .int .i64 0, .int .i64 0, .int .i64 0, .int .i64 0, .int .i64 0, .int .i64 0] 28).below hb
  replace HR : Hid (Row w2 w.heap.size [.int .i64 0, .int .i64 0, .int .i64 0, .int .i64 0, .int .i64 0, .int .i64 0, .int .i64 0, .int .i64 0, .int .i64 0, .int .i64 0, .int .i64 0, .int .i64 0, .int .i64 0, .int .i64 0, .int .i64 0, .int .i64 0]) := (HR.out.below (low_alloc _ _)).below hb
  have hq : w.heap.size < w1.heap.size := HR0.out.lt
  have hgq : g < w1.heap.size := HR1.out.lt
  have hkq : w1.heap.size < gk := by simp at hg; omega
  replace HB : Hid (Below w.heap.size w w2) := below_then (behind_alloc HB.out _) hb
  replace HR1 : Hid (Row w2 g (strs P)) := (HR1.out.below (low_alloc _ _)).below hb
  have HK : Hid (Row w2 gk kwV) := hr
  clear hr hb hg hw2 HR0
  generalize w1.heap.size = q at HC hq hgq hkq ⊢
  have hP0 : (0 : Int) < (P.length : Int) := by omega
  go_wp2_with fail
  go_loopw [13] (fun i wr => ∃ j : Nat, j ≤ 8 ∧ i = .int .i64 j ∧ Row wr q [.int .i64 (kdT x0 j), .int .i64 0, .int .i64 0, .int .i64 0, .int .i64 0, .int .i64 0, .int .i64 0, .int .i64 0, .int .i64 0, .int .i64 0, .int .i64 0, .int .i64 0, .int .i64 0, .int .i64 0, .int .i64 0, .int .i64 0] ∧ Row wr w.heap.size [.int .i64 0, .int .i64 0, .int .i64 0, .int .i64 0, .int .i64 0, .int .i64 0, .int .i64 0, .int .i64 0, .int .i64 0, .int .i64 0, .int .i64 0, .int .i64 0, .int .i64 0, .int .i64 0, .int .i64 0, .int .i64 0] ∧ Row wr g (strs P) ∧ Row wr gk kwV ∧ Below w.heap.size w wr) (fun i _ => 8 - (intOf i).toNat)
  case atStart => exact ⟨0, by omega, rfl, HC.out, HR.out, HR1.out, HK.out, HB.out⟩
  case round =>
    obtain ⟨j, hj, rfl, hc, hr, h1, hk, hb⟩ := hrel
    clear HC HR HR1 HK HB
    have HC : Hid (Row wr q [.int .i64 (kdT x0 j), .int .i64 0, .int .i64 0, .int .i64 0, .int .i64 0, .int .i64 0, .int .i64 0, .int .i64 0, .int .i64 0, .int .i64 0, .int .i64 0, .int .i64 0, .int .i64 0, .int .i64 0, .int .i64 0, .int .i64 0]) := hc
    have HR : Hid (Row wr w.heap.size [.int .i64 0, .int .i64 0, .int .i64 0, .int .i64 0, .int .i64 0, .int .i64 0, .int .i64 0, .int .i64 0, .int .i64 0, .int .i64 0, .int .i64 0, .int .i64 0, .int .i64 0, .int .i64 0, .int .i64 0, .int .i64 0]) := hr
    have HR1 : Hid (Row wr g (strs P)) := h1
    have HK : Hid (Row wr gk kwV) := hk
    have HB : Hid (Below w.heap.size w wr) := hb
    clear hc hr h1 hk hb
    by_cases hlt : j < 8
    · have hi1 : (j : Int) < 8 := by omega
      obtain ⟨Y, hY, ck⟩ : ∃ Y : ByteArray, Hid (Y.toList = kws.getD j []) ∧ wr.cell? ⟨gk, j, none⟩ = some (.string Y) := ⟨⟨(kws.getD j []).toArray⟩, (by show _ = _; rw [ByteArray.toList_eq]), HK.out.cell j _ (kwV_get j hlt)⟩
      obtain ⟨X, hX, cx⟩ : ∃ X : ByteArray, Hid (X.toList = x0) ∧ wr.cell? ⟨g, 0, none⟩ = some (.string X) := ⟨⟨x0.toArray⟩, (by show _ = _; rw [ByteArray.toList_eq]), HR1.out.cell 0 _ (by rw [strs_get, hPx.out]; rfl)⟩
      rcases Nat.eq_zero_or_pos j with rfl | hpos
      · have HT : Hid (kdT x0 (0 + 1) = kdT x0 0) := kdT_miss (.inr rfl)
        clear hY hX
        go_wp2_with fail
        exact ⟨⟨0 + 1, by omega, by go_num, by rw [HT.out]; exact HC.out, HR.out, HR1.out, HK.out, HB.out⟩, by simp [intOf]⟩
      · have hgt : (0 : Int) < (j : Int) := by omega
        have HI := kd_iff x0 j (by omega) hlt
        by_cases hm : kdN x0 = j
        · have HT : Hid (kdT x0 (j + 1) = j) := kdT_hit hm
          have e1 : (Y.toList == X.toList) = true := by rw [hY.out, hX.out, HI.2 hm]; simp
          have dd := HC.out.cell 0 _ rfl
          have ff := HC.out.free 0
          clear hY hX HI hm
          go_wp2_with fail
          have hne : ¬ w.heap.size = q := by omega
          have hne2 : g ≠ q := by omega
          have hne3 : gk ≠ q := by omega
          exact ⟨⟨j + 1, by omega, by go_num, by rw [HT.out]; exact HC.out.set 0 (by simp) _, HR.out.apart q 0 _ hne, HR1.out.apart q 0 _ hne2, HK.out.apart q 0 _ hne3, HB.out.setCell (by show w.heap.size ≤ q; omega) _⟩, by simp [intOf]; omega⟩
        · have HT : Hid (kdT x0 (j + 1) = kdT x0 j) := kdT_miss (.inl hm)
          have e1 : (Y.toList == X.toList) = false := by rw [hY.out, hX.out, beq_eq_false_iff_ne]; exact fun e => hm (HI.1 e)
          clear hY hX HI hm
          go_wp2_with fail
          exact ⟨⟨j + 1, by omega, by go_num, by rw [HT.out]; exact HC.out, HR.out, HR1.out, HK.out, HB.out⟩, by simp [intOf]; omega⟩
    · obtain rfl : j = 8 := by omega
      rw [kdT_all] at HC
      rw [hkd] at HC
      have hk1 : ((k : Int) == 1) = false := by rw [beq_eq_false_iff_ne]; omega
      have hk6 : ((k : Int) == 6) = false := by rw [beq_eq_false_iff_ne]; omega
      have n2 : ((P.length : Int) == 2) = false := by rw [beq_eq_false_iff_ne]; omega
      have hne0 : ¬ w.heap.size = q := by omega
      have hne2 : g ≠ q := by omega
      have kk := HC.out.cell 0 _ rfl
      go_wp2_with (refine stay_load 28 ?_)
      refine ⟨?_⟩
      clear HR1 kk
      have d0 := HC.out.cell 0 _ rfl
      have d1 := HC.out.cell 1 _ rfl
      have d2 := HC.out.cell 2 _ rfl
      have d3 := HC.out.cell 3 _ rfl
      have d4 := HC.out.cell 4 _ rfl
      have d5 := HC.out.cell 5 _ rfl
      have d6 := HC.out.cell 6 _ rfl
      have d7 := HC.out.cell 7 _ rfl
      have d8 := HC.out.cell 8 _ rfl
      have d9 := HC.out.cell 9 _ rfl
      have d10 := HC.out.cell 10 _ rfl
      have d11 := HC.out.cell 11 _ rfl
      have d12 := HC.out.cell 12 _ rfl
      have d13 := HC.out.cell 13 _ rfl
      have d14 := HC.out.cell 14 _ rfl
      have d15 := HC.out.cell 15 _ rfl
      go_wp2_with fail
      clear d0 d1 d2 d3 d4 d5 d6 d7 d8 d9 d10 d11 d12 d13 d14 d15
      refine (HX.out _).mono ?_
      rintro e w9 ⟨rfl, hb⟩
      replace HC : Hid (Row w9 q [.int .i64 (k : Int), .int .i64 0, .int .i64 0, .int .i64 0, .int .i64 0, .int .i64 0, .int .i64 0, .int .i64 0, .int .i64 0, .int .i64 0, .int .i64 0, .int .i64 0, .int .i64 0, .int .i64 0, .int .i64 0, .int .i64 0]) := HC.out.below hb
      replace HR : Hid (Row w9 w.heap.size [.int .i64 0, .int .i64 0, .int .i64 0, .int .i64 0, .int .i64 0, .int .i64 0, .int .i64 0, .int .i64 0, .int .i64 0, .int .i64 0, .int .i64 0, .int .i64 0, .int .i64 0, .int .i64 0, .int .i64 0, .int .i64 0]) := HR.out.below hb
      replace HB : Hid (Below w.heap.size w w9) := below_then HB.out hb
      clear hb HX
      go_wp2_with (refine stay_load 28 ?_)
      refine ⟨?_⟩
      refine wpList_load_mid rfl 28 _ rfl q 0 rfl [.int .i64 (k : Int), .int .i64 0, .int .i64 0, .int .i64 0, .int .i64 0, .int .i64 0, .int .i64 0, .int .i64 0, .int .i64 0, .int .i64 0, .int .i64 0, .int .i64 0, .int .i64 0, .int .i64 0, .int .i64 0, .int .i64 0] _ HC.out.all Tryz.underlying28 rfl szCmdC ?_
      go_wp2_with (refine stay_store 28 ?_)
      refine ⟨?_⟩
      refine wpList_store_mid rfl 28 _ _ rfl w.heap.size 0 (#[.int .i64 (k : Int), .int .i64 0, .int .i64 0, .int .i64 0, .int .i64 0, .int .i64 0, .int .i64 0, .int .i64 0, .int .i64 0, .int .i64 0, .int .i64 0, .int .i64 0, .int .i64 0, .int .i64 0, .int .i64 0, .int .i64 0]) rfl rfl (HR.out.room 0 16 (by simp)) szCmdC (by simp [Value.oneCell']) ?_
      replace HR : Hid (Row (w9.setCells w.heap.size 0 (#[.int .i64 (k : Int), .int .i64 0, .int .i64 0, .int .i64 0, .int .i64 0, .int .i64 0, .int .i64 0, .int .i64 0, .int .i64 0, .int .i64 0, .int .i64 0, .int .i64 0, .int .i64 0, .int .i64 0, .int .i64 0, .int .i64 0] : Array Value).toList) w.heap.size [.int .i64 (k : Int), .int .i64 0, .int .i64 0, .int .i64 0, .int .i64 0, .int .i64 0, .int .i64 0, .int .i64 0, .int .i64 0, .int .i64 0, .int .i64 0, .int .i64 0, .int .i64 0, .int .i64 0, .int .i64 0, .int .i64 0]) := Row.setCs _ 0 HR.out (by simp)
      replace HB : Hid (Below w.heap.size w (w9.setCells w.heap.size 0 (#[.int .i64 (k : Int), .int .i64 0, .int .i64 0, .int .i64 0, .int .i64 0, .int .i64 0, .int .i64 0, .int .i64 0, .int .i64 0, .int .i64 0, .int .i64 0, .int .i64 0, .int .i64 0, .int .i64 0, .int .i64 0, .int .i64 0] : Array Value).toList)) := below_setCs (Nat.le_refl _) _ _ HB.out
      generalize w9.setCells w.heap.size 0 _ = u8 at HR HB ⊢
      go_wp2_with fail
      have r0 := HR.out.cell 0 _ rfl
      have r1 := HR.out.cell 1 _ rfl
      have r2 := HR.out.cell 2 _ rfl
      have r3 := HR.out.cell 3 _ rfl
      have r4 := HR.out.cell 4 _ rfl
      have r5 := HR.out.cell 5 _ rfl
      have r6 := HR.out.cell 6 _ rfl
      have r7 := HR.out.cell 7 _ rfl
      have r8 := HR.out.cell 8 _ rfl
      have r9 := HR.out.cell 9 _ rfl
      have r10 := HR.out.cell 10 _ rfl
      have r11 := HR.out.cell 11 _ rfl
      have r12 := HR.out.cell 12 _ rfl
      have r13 := HR.out.cell 13 _ rfl
      have r14 := HR.out.cell 14 _ rfl
      have r15 := HR.out.cell 15 _ rfl
      exact bodyPost_ret (v := .tuple #[.agg #[.int .i64 (k : Int), .int .i64 0, .int .i64 0, .int .i64 0, .int .i64 0, .int .i64 0, .int .i64 0, .int .i64 0, .int .i64 0, .int .i64 0, .int .i64 0, .int .i64 0, .int .i64 0, .int .i64 0, .int .i64 0, .int .i64 0], .bool true]) (by simp [results, Tryz.results21, go_sem, *]) rfl ⟨rfl, HB.out⟩

set_option maxHeartbeats 4000000 in
set_option maxRecDepth 100000 in
theorem specTextCmd_d0_ne (s : ByteArray) (hs : s.size ≤ 1048576) (x0 : List UInt8) (P : List (List UInt8)) (hP : pcs 32 s.data.toList = P) (hPx : Hid (P[0]? = some x0)) (hPl : 0 < P.length) (h2 : P.length ≠ 2) (k : Nat) (hkd : kdN x0 = k) (h1 : k ≠ 1) (h6 : k ≠ 6) (hne : s.data.toList ≠ []) (ht : ctL k jb0 0 0 0 0 ≠ s.data.toList) (w : World) : Calls Tryz.prog 21 #[.string s] w fun e w' => e = .returned (.tuple #[.agg #[.int .i64 0, .int .i64 0, .int .i64 0, .int .i64 0, .int .i64 0, .int .i64 0, .int .i64 0, .int .i64 0, .int .i64 0, .int .i64 0, .int .i64 0, .int .i64 0, .int .i64 0, .int .i64 0, .int .i64 0, .int .i64 0], .bool false]) ∧ Below w.heap.size w w' := by
  have hps := fun p hp => Nat.le_trans (pcs_size 32 s.data.toList p hp) hs
  rw [hP] at hps
  clear hps
  have hyt := specCmdText_c k jb0 0 0 0 0
  obtain ⟨y, hy, hyl⟩ : ∃ y : ByteArray, (⟨(ctL k jb0 0 0 0 0).toArray⟩ : ByteArray) = y ∧ y.toList = ctL k jb0 0 0 0 0 := ⟨_, rfl, by rw [ByteArray.toList_eq]⟩
  rw [hy] at hyt
  have HX : Hid (∀ W : World, Calls Tryz.prog 16 #[.agg #[.int .i64 (k : Int), .int .i64 0, .int .i64 0, .int .i64 0, .int .i64 0, .int .i64 0, .int .i64 0, .int .i64 0, .int .i64 0, .int .i64 0, .int .i64 0, .int .i64 0, .int .i64 0, .int .i64 0, .int .i64 0, .int .i64 0]] W fun e w' => e = .returned (.string y) ∧ Below W.heap.size W w') := hyt
  rw [← hyl, ← ByteArray.toList_eq] at ht
  clear hyl hy hyt
  have q1 : (y.toList == s.toList) = false := by rw [beq_eq_false_iff_ne]; exact ht
  have q2 : (s.toList == y.toList) = false := by rw [beq_eq_false_iff_ne]; exact fun t => ht t.symm
  have m1 : s.toList.isEmpty = false := by rw [ByteArray.toList_eq]; cases hh : s.data.toList with | nil => exact absurd hh hne | cons _ _ => rfl
  have m2 : (s.toList == []) = false := by rw [ByteArray.toList_eq, beq_eq_false_iff_ne]; exact hne
  clear ht hne
  have CP : ∀ W : World, Calls Tryz.prog 20 #[.string s, .int .u8 32] W fun e w' => ∃ g cap, e = .returned (.slice (some ⟨g, 0, none⟩) P.length cap) ∧ W.heap.size ≤ g ∧ Row w' g (strs P) ∧ Below W.heap.size W w' := fun W => by
    have := specParts_c s 32 hs W
    rw [hP] at this
    exact this
  clear hP
  go_enter Tryz.func21, Tryz.ntmps21
  go_wp2_with fail
  have HR : Hid (Row (w.alloc (.cells #[.int .i64 0, .int .i64 0, .int .i64 0, .int .i64 0, .int .i64 0, .int .i64 0, .int .i64 0, .int .i64 0, .int .i64 0, .int .i64 0, .int .i64 0, .int .i64 0, .int .i64 0, .int .i64 0, .int .i64 0, .int .i64 0] 28)) w.heap.size [.int .i64 0, .int .i64 0, .int .i64 0, .int .i64 0, .int .i64 0, .int .i64 0, .int .i64 0, .int .i64 0, .int .i64 0, .int .i64 0, .int .i64 0, .int .i64 0, .int .i64 0, .int .i64 0, .int .i64 0, .int .i64 0]) := row_fresh w [.int .i64 0, .int .i64 0, .int .i64 0, .int .i64 0, .int .i64 0, .int .i64 0, .int .i64 0, .int .i64 0, .int .i64 0, .int .i64 0, .int .i64 0, .int .i64 0, .int .i64 0, .int .i64 0, .int .i64 0, .int .i64 0] 28
  have HB : Hid (Below w.heap.size w (w.alloc (.cells #[.int .i64 0, .int .i64 0, .int .i64 0, .int .i64 0, .int .i64 0, .int .i64 0, .int .i64 0, .int .i64 0, .int .i64 0, .int .i64 0, .int .i64 0, .int .i64 0, .int .i64 0, .int .i64 0, .int .i64 0, .int .i64 0] 28))) := low_alloc _ _
  generalize w.alloc (.cells #[.int .i64 0, .int .i64 0, .int .i64 0, .int .i64 0, .int .i64 0, .int .i64 0, .int .i64 0, .int .i64 0, .int .i64 0, .int .i64 0, .int .i64 0, .int .i64 0, .int .i64 0, .int .i64 0, .int .i64 0, .int .i64 0] 28) = u0 at HR HB ⊢
  refine (CP _).mono ?_
  rintro e w1 ⟨g, cap, rfl, _, hr, hb⟩
  replace HR : Hid (Row w1 w.heap.size [.int .i64 0, .int .i64 0, .int .i64 0, .int .i64 0, .int .i64 0, .int .i64 0, .int .i64 0, .int .i64 0, .int .i64 0, .int .i64 0, .int .i64 0, .int .i64 0, .int .i64 0, .int .i64 0, .int .i64 0, .int .i64 0]) := HR.out.below hb
  replace HB : Hid (Below w.heap.size w w1) := below_then HB.out hb
  have HR1 : Hid (Row w1 g (strs P)) := hr
  have HR0 := HR
  clear hr hb CP
  go_wp2_with fail
  refine (l08Words_c _).mono ?_
  rintro e w2 ⟨gk, rfl, hg, hr, hb⟩
  have hw2 := hb
  have HC : Hid (Row w2 w1.heap.size [.int .i64 0, .int .i64 0, .int .i64 0, .int .i64 0, .int .i64 0, .int .i64 0, .int .i64 0, .int .i64 0, .int .i64 0, .int .i64 0, .int .i64 0, .int .i64 0, .int .i64 0, .int .i64 0, .int .i64 0, .int .i64 0]) := (row_fresh w1 [.int .i64 0, .int .i64 0, .int .i64 0, .int .i64 0, .int .i64 0, .int .i64 0, .int .i64 0, .int .i64 0, .int .i64 0, .int .i64 0, .int .i64 0, .int .i64 0, .int .i64 0, .int .i64 0, .int .i64 0, .int .i64 0] 28).below hb
  replace HR : Hid (Row w2 w.heap.size [.int .i64 0, .int .i64 0, .int .i64 0, .int .i64 0, .int .i64 0, .int .i64 0, .int .i64 0, .int .i64 0, .int .i64 0, .int .i64 0, .int .i64 0, .int .i64 0, .int .i64 0, .int .i64 0, .int .i64 0, .int .i64 0]) := (HR.out.below (low_alloc _ _)).below hb
  have hq : w.heap.size < w1.heap.size := HR0.out.lt
  have hgq : g < w1.heap.size := HR1.out.lt
  have hkq : w1.heap.size < gk := by simp at hg; omega
  replace HB : Hid (Below w.heap.size w w2) := below_then (behind_alloc HB.out _) hb
  replace HR1 : Hid (Row w2 g (strs P)) := (HR1.out.below (low_alloc _ _)).below hb
  have HK : Hid (Row w2 gk kwV) := hr
  clear hr hb hg hw2 HR0
  generalize w1.heap.size = q at HC hq hgq hkq ⊢
  have hP0 : (0 : Int) < (P.length : Int) := by omega
  go_wp2_with fail
  go_loopw [13] (fun i wr => ∃ j : Nat, j ≤ 8 ∧ i = .int .i64 j ∧ Row wr q [.int .i64 (kdT x0 j), .int .i64 0, .int .i64 0, .int .i64 0, .int .i64 0, .int .i64 0, .int .i64 0, .int .i64 0, .int .i64 0, .int .i64 0, .int .i64 0, .int .i64 0, .int .i64 0, .int .i64 0, .int .i64 0, .int .i64 0] ∧ Row wr w.heap.size [.int .i64 0, .int .i64 0, .int .i64 0, .int .i64 0, .int .i64 0, .int .i64 0, .int .i64 0, .int .i64 0, .int .i64 0, .int .i64 0, .int .i64 0, .int .i64 0, .int .i64 0, .int .i64 0, .int .i64 0, .int .i64 0] ∧ Row wr g (strs P) ∧ Row wr gk kwV ∧ Below w.heap.size w wr) (fun i _ => 8 - (intOf i).toNat)
  case atStart => exact ⟨0, by omega, rfl, HC.out, HR.out, HR1.out, HK.out, HB.out⟩
  case round =>
    obtain ⟨j, hj, rfl, hc, hr, h1, hk, hb⟩ := hrel
    clear HC HR HR1 HK HB
    have HC : Hid (Row wr q [.int .i64 (kdT x0 j), .int .i64 0, .int .i64 0, .int .i64 0, .int .i64 0, .int .i64 0, .int .i64 0, .int .i64 0, .int .i64 0, .int .i64 0, .int .i64 0, .int .i64 0, .int .i64 0, .int .i64 0, .int .i64 0, .int .i64 0]) := hc
    have HR : Hid (Row wr w.heap.size [.int .i64 0, .int .i64 0, .int .i64 0, .int .i64 0, .int .i64 0, .int .i64 0, .int .i64 0, .int .i64 0, .int .i64 0, .int .i64 0, .int .i64 0, .int .i64 0, .int .i64 0, .int .i64 0, .int .i64 0, .int .i64 0]) := hr
    have HR1 : Hid (Row wr g (strs P)) := h1
    have HK : Hid (Row wr gk kwV) := hk
    have HB : Hid (Below w.heap.size w wr) := hb
    clear hc hr h1 hk hb
    by_cases hlt : j < 8
    · have hi1 : (j : Int) < 8 := by omega
      obtain ⟨Y, hY, ck⟩ : ∃ Y : ByteArray, Hid (Y.toList = kws.getD j []) ∧ wr.cell? ⟨gk, j, none⟩ = some (.string Y) := ⟨⟨(kws.getD j []).toArray⟩, (by show _ = _; rw [ByteArray.toList_eq]), HK.out.cell j _ (kwV_get j hlt)⟩
      obtain ⟨X, hX, cx⟩ : ∃ X : ByteArray, Hid (X.toList = x0) ∧ wr.cell? ⟨g, 0, none⟩ = some (.string X) := ⟨⟨x0.toArray⟩, (by show _ = _; rw [ByteArray.toList_eq]), HR1.out.cell 0 _ (by rw [strs_get, hPx.out]; rfl)⟩
      rcases Nat.eq_zero_or_pos j with rfl | hpos
      · have HT : Hid (kdT x0 (0 + 1) = kdT x0 0) := kdT_miss (.inr rfl)
        clear hY hX
        go_wp2_with fail
        exact ⟨⟨0 + 1, by omega, by go_num, by rw [HT.out]; exact HC.out, HR.out, HR1.out, HK.out, HB.out⟩, by simp [intOf]⟩
      · have hgt : (0 : Int) < (j : Int) := by omega
        have HI := kd_iff x0 j (by omega) hlt
        by_cases hm : kdN x0 = j
        · have HT : Hid (kdT x0 (j + 1) = j) := kdT_hit hm
          have e1 : (Y.toList == X.toList) = true := by rw [hY.out, hX.out, HI.2 hm]; simp
          have dd := HC.out.cell 0 _ rfl
          have ff := HC.out.free 0
          clear hY hX HI hm
          go_wp2_with fail
          have hne : ¬ w.heap.size = q := by omega
          have hne2 : g ≠ q := by omega
          have hne3 : gk ≠ q := by omega
          exact ⟨⟨j + 1, by omega, by go_num, by rw [HT.out]; exact HC.out.set 0 (by simp) _, HR.out.apart q 0 _ hne, HR1.out.apart q 0 _ hne2, HK.out.apart q 0 _ hne3, HB.out.setCell (by show w.heap.size ≤ q; omega) _⟩, by simp [intOf]; omega⟩
        · have HT : Hid (kdT x0 (j + 1) = kdT x0 j) := kdT_miss (.inl hm)
          have e1 : (Y.toList == X.toList) = false := by rw [hY.out, hX.out, beq_eq_false_iff_ne]; exact fun e => hm (HI.1 e)
          clear hY hX HI hm
          go_wp2_with fail
          exact ⟨⟨j + 1, by omega, by go_num, by rw [HT.out]; exact HC.out, HR.out, HR1.out, HK.out, HB.out⟩, by simp [intOf]; omega⟩
    · obtain rfl : j = 8 := by omega
      rw [kdT_all] at HC
      rw [hkd] at HC
      have hk1 : ((k : Int) == 1) = false := by rw [beq_eq_false_iff_ne]; omega
      have hk6 : ((k : Int) == 6) = false := by rw [beq_eq_false_iff_ne]; omega
      have n2 : ((P.length : Int) == 2) = false := by rw [beq_eq_false_iff_ne]; omega
      have hne0 : ¬ w.heap.size = q := by omega
      have hne2 : g ≠ q := by omega
      have kk := HC.out.cell 0 _ rfl
      go_wp2_with (refine stay_load 28 ?_)
      refine ⟨?_⟩
      clear HR1 kk
      have d0 := HC.out.cell 0 _ rfl
      have d1 := HC.out.cell 1 _ rfl
      have d2 := HC.out.cell 2 _ rfl
      have d3 := HC.out.cell 3 _ rfl
      have d4 := HC.out.cell 4 _ rfl
      have d5 := HC.out.cell 5 _ rfl
      have d6 := HC.out.cell 6 _ rfl
      have d7 := HC.out.cell 7 _ rfl
      have d8 := HC.out.cell 8 _ rfl
      have d9 := HC.out.cell 9 _ rfl
      have d10 := HC.out.cell 10 _ rfl
      have d11 := HC.out.cell 11 _ rfl
      have d12 := HC.out.cell 12 _ rfl
      have d13 := HC.out.cell 13 _ rfl
      have d14 := HC.out.cell 14 _ rfl
      have d15 := HC.out.cell 15 _ rfl
      go_wp2_with fail
      clear d0 d1 d2 d3 d4 d5 d6 d7 d8 d9 d10 d11 d12 d13 d14 d15
      refine (HX.out _).mono ?_
      rintro e w9 ⟨rfl, hb⟩
      replace HC : Hid (Row w9 q [.int .i64 (k : Int), .int .i64 0, .int .i64 0, .int .i64 0, .int .i64 0, .int .i64 0, .int .i64 0, .int .i64 0, .int .i64 0, .int .i64 0, .int .i64 0, .int .i64 0, .int .i64 0, .int .i64 0, .int .i64 0, .int .i64 0]) := HC.out.below hb
      replace HR : Hid (Row w9 w.heap.size [.int .i64 0, .int .i64 0, .int .i64 0, .int .i64 0, .int .i64 0, .int .i64 0, .int .i64 0, .int .i64 0, .int .i64 0, .int .i64 0, .int .i64 0, .int .i64 0, .int .i64 0, .int .i64 0, .int .i64 0, .int .i64 0]) := HR.out.below hb
      replace HB : Hid (Below w.heap.size w w9) := below_then HB.out hb
      clear hb HX
      go_wp2_with (refine stay_store 28 ?_)
      refine ⟨?_⟩
      refine wpList_store_mid rfl 28 _ _ rfl w.heap.size 0 (#[.int .i64 0, .int .i64 0, .int .i64 0, .int .i64 0, .int .i64 0, .int .i64 0, .int .i64 0, .int .i64 0, .int .i64 0, .int .i64 0, .int .i64 0, .int .i64 0, .int .i64 0, .int .i64 0, .int .i64 0, .int .i64 0]) rfl rfl (HR.out.room 0 16 (by simp)) szCmdC (by simp [Value.oneCell']) ?_
      replace HR : Hid (Row (w9.setCells w.heap.size 0 (#[.int .i64 0, .int .i64 0, .int .i64 0, .int .i64 0, .int .i64 0, .int .i64 0, .int .i64 0, .int .i64 0, .int .i64 0, .int .i64 0, .int .i64 0, .int .i64 0, .int .i64 0, .int .i64 0, .int .i64 0, .int .i64 0] : Array Value).toList) w.heap.size [.int .i64 0, .int .i64 0, .int .i64 0, .int .i64 0, .int .i64 0, .int .i64 0, .int .i64 0, .int .i64 0, .int .i64 0, .int .i64 0, .int .i64 0, .int .i64 0, .int .i64 0, .int .i64 0, .int .i64 0, .int .i64 0]) := Row.setCs _ 0 HR.out (by simp)
      replace HB : Hid (Below w.heap.size w (w9.setCells w.heap.size 0 (#[.int .i64 0, .int .i64 0, .int .i64 0, .int .i64 0, .int .i64 0, .int .i64 0, .int .i64 0, .int .i64 0, .int .i64 0, .int .i64 0, .int .i64 0, .int .i64 0, .int .i64 0, .int .i64 0, .int .i64 0, .int .i64 0] : Array Value).toList)) := below_setCs (Nat.le_refl _) _ _ HB.out
      generalize w9.setCells w.heap.size 0 _ = u8 at HR HB ⊢
      go_wp2_with fail
      have r0 := HR.out.cell 0 _ rfl
      have r1 := HR.out.cell 1 _ rfl
      have r2 := HR.out.cell 2 _ rfl
      have r3 := HR.out.cell 3 _ rfl
      have r4 := HR.out.cell 4 _ rfl
      have r5 := HR.out.cell 5 _ rfl
      have r6 := HR.out.cell 6 _ rfl
      have r7 := HR.out.cell 7 _ rfl
      have r8 := HR.out.cell 8 _ rfl
      have r9 := HR.out.cell 9 _ rfl
      have r10 := HR.out.cell 10 _ rfl
      have r11 := HR.out.cell 11 _ rfl
      have r12 := HR.out.cell 12 _ rfl
      have r13 := HR.out.cell 13 _ rfl
      have r14 := HR.out.cell 14 _ rfl
      have r15 := HR.out.cell 15 _ rfl
      exact bodyPost_ret (v := .tuple #[.agg #[.int .i64 0, .int .i64 0, .int .i64 0, .int .i64 0, .int .i64 0, .int .i64 0, .int .i64 0, .int .i64 0, .int .i64 0, .int .i64 0, .int .i64 0, .int .i64 0, .int .i64 0, .int .i64 0, .int .i64 0, .int .i64 0], .bool false]) (by simp [results, Tryz.results21, go_sem, *]) rfl ⟨rfl, HB.out⟩

set_option maxHeartbeats 4000000 in
set_option maxRecDepth 100000 in
theorem specTextCmd_d0_em (s : ByteArray) (hs : s.size ≤ 1048576) (x0 : List UInt8) (P : List (List UInt8)) (hP : pcs 32 s.data.toList = P) (hPx : Hid (P[0]? = some x0)) (hPl : 0 < P.length) (h2 : P.length ≠ 2) (k : Nat) (hkd : kdN x0 = k) (h1 : k ≠ 1) (h6 : k ≠ 6) (hem : s.data.toList = []) (w : World) : Calls Tryz.prog 21 #[.string s] w fun e w' => e = .returned (.tuple #[.agg #[.int .i64 0, .int .i64 0, .int .i64 0, .int .i64 0, .int .i64 0, .int .i64 0, .int .i64 0, .int .i64 0, .int .i64 0, .int .i64 0, .int .i64 0, .int .i64 0, .int .i64 0, .int .i64 0, .int .i64 0, .int .i64 0], .bool false]) ∧ Below w.heap.size w w' := by
  have hps := fun p hp => Nat.le_trans (pcs_size 32 s.data.toList p hp) hs
  rw [hP] at hps
  clear hps
  have m1 : s.toList.isEmpty = true := by rw [ByteArray.toList_eq, hem]; rfl
  have m2 : (s.toList == []) = true := by rw [ByteArray.toList_eq, hem]; rfl
  clear hem
  have CP : ∀ W : World, Calls Tryz.prog 20 #[.string s, .int .u8 32] W fun e w' => ∃ g cap, e = .returned (.slice (some ⟨g, 0, none⟩) P.length cap) ∧ W.heap.size ≤ g ∧ Row w' g (strs P) ∧ Below W.heap.size W w' := fun W => by
    have := specParts_c s 32 hs W
    rw [hP] at this
    exact this
  clear hP
  go_enter Tryz.func21, Tryz.ntmps21
  go_wp2_with fail
  have HR : Hid (Row (w.alloc (.cells #[.int .i64 0, .int .i64 0, .int .i64 0, .int .i64 0, .int .i64 0, .int .i64 0, .int .i64 0, .int .i64 0, .int .i64 0, .int .i64 0, .int .i64 0, .int .i64 0, .int .i64 0, .int .i64 0, .int .i64 0, .int .i64 0] 28)) w.heap.size [.int .i64 0, .int .i64 0, .int .i64 0, .int .i64 0, .int .i64 0, .int .i64 0, .int .i64 0, .int .i64 0, .int .i64 0, .int .i64 0, .int .i64 0, .int .i64 0, .int .i64 0, .int .i64 0, .int .i64 0, .int .i64 0]) := row_fresh w [.int .i64 0, .int .i64 0, .int .i64 0, .int .i64 0, .int .i64 0, .int .i64 0, .int .i64 0, .int .i64 0, .int .i64 0, .int .i64 0, .int .i64 0, .int .i64 0, .int .i64 0, .int .i64 0, .int .i64 0, .int .i64 0] 28
  have HB : Hid (Below w.heap.size w (w.alloc (.cells #[.int .i64 0, .int .i64 0, .int .i64 0, .int .i64 0, .int .i64 0, .int .i64 0, .int .i64 0, .int .i64 0, .int .i64 0, .int .i64 0, .int .i64 0, .int .i64 0, .int .i64 0, .int .i64 0, .int .i64 0, .int .i64 0] 28))) := low_alloc _ _
  generalize w.alloc (.cells #[.int .i64 0, .int .i64 0, .int .i64 0, .int .i64 0, .int .i64 0, .int .i64 0, .int .i64 0, .int .i64 0, .int .i64 0, .int .i64 0, .int .i64 0, .int .i64 0, .int .i64 0, .int .i64 0, .int .i64 0, .int .i64 0] 28) = u0 at HR HB ⊢
  refine (CP _).mono ?_
  rintro e w1 ⟨g, cap, rfl, _, hr, hb⟩
  replace HR : Hid (Row w1 w.heap.size [.int .i64 0, .int .i64 0, .int .i64 0, .int .i64 0, .int .i64 0, .int .i64 0, .int .i64 0, .int .i64 0, .int .i64 0, .int .i64 0, .int .i64 0, .int .i64 0, .int .i64 0, .int .i64 0, .int .i64 0, .int .i64 0]) := HR.out.below hb
  replace HB : Hid (Below w.heap.size w w1) := below_then HB.out hb
  have HR1 : Hid (Row w1 g (strs P)) := hr
  have HR0 := HR
  clear hr hb CP
  go_wp2_with fail
  refine (l08Words_c _).mono ?_
  rintro e w2 ⟨gk, rfl, hg, hr, hb⟩
  have hw2 := hb
  have HC : Hid (Row w2 w1.heap.size [.int .i64 0, .int .i64 0, .int .i64 0, .int .i64 0, .int .i64 0, .int .i64 0, .int .i64 0, .int .i64 0, .int .i64 0, .int .i64 0, .int .i64 0, .int .i64 0, .int .i64 0, .int .i64 0, .int .i64 0, .int .i64 0]) := (row_fresh w1 [.int .i64 0, .int .i64 0, .int .i64 0, .int .i64 0, .int .i64 0, .int .i64 0, .int .i64 0, .int .i64 0, .int .i64 0, .int .i64 0, .int .i64 0, .int .i64 0, .int .i64 0, .int .i64 0, .int .i64 0, .int .i64 0] 28).below hb
  replace HR : Hid (Row w2 w.heap.size [.int .i64 0, .int .i64 0, .int .i64 0, .int .i64 0, .int .i64 0, .int .i64 0, .int .i64 0, .int .i64 0, .int .i64 0, .int .i64 0, .int .i64 0, .int .i64 0, .int .i64 0, .int .i64 0, .int .i64 0, .int .i64 0]) := (HR.out.below (low_alloc _ _)).below hb
  have hq : w.heap.size < w1.heap.size := HR0.out.lt
  have hgq : g < w1.heap.size := HR1.out.lt
  have hkq : w1.heap.size < gk := by simp at hg; omega
  replace HB : Hid (Below w.heap.size w w2) := below_then (behind_alloc HB.out _) hb
  replace HR1 : Hid (Row w2 g (strs P)) := (HR1.out.below (low_alloc _ _)).below hb
  have HK : Hid (Row w2 gk kwV) := hr
  clear hr hb hg hw2 HR0
  generalize w1.heap.size = q at HC hq hgq hkq ⊢
  have hP0 : (0 : Int) < (P.length : Int) := by omega
  go_wp2_with fail
  go_loopw [13] (fun i wr => ∃ j : Nat, j ≤ 8 ∧ i = .int .i64 j ∧ Row wr q [.int .i64 (kdT x0 j), .int .i64 0, .int .i64 0, .int .i64 0, .int .i64 0, .int .i64 0, .int .i64 0, .int .i64 0, .int .i64 0, .int .i64 0, .int .i64 0, .int .i64 0, .int .i64 0, .int .i64 0, .int .i64 0, .int .i64 0] ∧ Row wr w.heap.size [.int .i64 0, .int .i64 0, .int .i64 0, .int .i64 0, .int .i64 0, .int .i64 0, .int .i64 0, .int .i64 0, .int .i64 0, .int .i64 0, .int .i64 0, .int .i64 0, .int .i64 0, .int .i64 0, .int .i64 0, .int .i64 0] ∧ Row wr g (strs P) ∧ Row wr gk kwV ∧ Below w.heap.size w wr) (fun i _ => 8 - (intOf i).toNat)
  case atStart => exact ⟨0, by omega, rfl, HC.out, HR.out, HR1.out, HK.out, HB.out⟩
  case round =>
    obtain ⟨j, hj, rfl, hc, hr, h1, hk, hb⟩ := hrel
    clear HC HR HR1 HK HB
    have HC : Hid (Row wr q [.int .i64 (kdT x0 j), .int .i64 0, .int .i64 0, .int .i64 0, .int .i64 0, .int .i64 0, .int .i64 0, .int .i64 0, .int .i64 0, .int .i64 0, .int .i64 0, .int .i64 0, .int .i64 0, .int .i64 0, .int .i64 0, .int .i64 0]) := hc
    have HR : Hid (Row wr w.heap.size [.int .i64 0, .int .i64 0, .int .i64 0, .int .i64 0, .int .i64 0, .int .i64 0, .int .i64 0, .int .i64 0, .int .i64 0, .int .i64 0, .int .i64 0, .int .i64 0, .int .i64 0, .int .i64 0, .int .i64 0, .int .i64 0]) := hr
    have HR1 : Hid (Row wr g (strs P)) := h1
    have HK : Hid (Row wr gk kwV) := hk
    have HB : Hid (Below w.heap.size w wr) := hb
    clear hc hr h1 hk hb
    by_cases hlt : j < 8
    · have hi1 : (j : Int) < 8 := by omega
      obtain ⟨Y, hY, ck⟩ : ∃ Y : ByteArray, Hid (Y.toList = kws.getD j []) ∧ wr.cell? ⟨gk, j, none⟩ = some (.string Y) := ⟨⟨(kws.getD j []).toArray⟩, (by show _ = _; rw [ByteArray.toList_eq]), HK.out.cell j _ (kwV_get j hlt)⟩
      obtain ⟨X, hX, cx⟩ : ∃ X : ByteArray, Hid (X.toList = x0) ∧ wr.cell? ⟨g, 0, none⟩ = some (.string X) := ⟨⟨x0.toArray⟩, (by show _ = _; rw [ByteArray.toList_eq]), HR1.out.cell 0 _ (by rw [strs_get, hPx.out]; rfl)⟩
      rcases Nat.eq_zero_or_pos j with rfl | hpos
      · have HT : Hid (kdT x0 (0 + 1) = kdT x0 0) := kdT_miss (.inr rfl)
        clear hY hX
        go_wp2_with fail
        exact ⟨⟨0 + 1, by omega, by go_num, by rw [HT.out]; exact HC.out, HR.out, HR1.out, HK.out, HB.out⟩, by simp [intOf]⟩
      · have hgt : (0 : Int) < (j : Int) := by omega
        have HI := kd_iff x0 j (by omega) hlt
        by_cases hm : kdN x0 = j
        · have HT : Hid (kdT x0 (j + 1) = j) := kdT_hit hm
          have e1 : (Y.toList == X.toList) = true := by rw [hY.out, hX.out, HI.2 hm]; simp
          have dd := HC.out.cell 0 _ rfl
          have ff := HC.out.free 0
          clear hY hX HI hm
          go_wp2_with fail
          have hne : ¬ w.heap.size = q := by omega
          have hne2 : g ≠ q := by omega
          have hne3 : gk ≠ q := by omega
          exact ⟨⟨j + 1, by omega, by go_num, by rw [HT.out]; exact HC.out.set 0 (by simp) _, HR.out.apart q 0 _ hne, HR1.out.apart q 0 _ hne2, HK.out.apart q 0 _ hne3, HB.out.setCell (by show w.heap.size ≤ q; omega) _⟩, by simp [intOf]; omega⟩
        · have HT : Hid (kdT x0 (j + 1) = kdT x0 j) := kdT_miss (.inl hm)
          have e1 : (Y.toList == X.toList) = false := by rw [hY.out, hX.out, beq_eq_false_iff_ne]; exact fun e => hm (HI.1 e)
          clear hY hX HI hm
          go_wp2_with fail
          exact ⟨⟨j + 1, by omega, by go_num, by rw [HT.out]; exact HC.out, HR.out, HR1.out, HK.out, HB.out⟩, by simp [intOf]; omega⟩
    · obtain rfl : j = 8 := by omega
      rw [kdT_all] at HC
      rw [hkd] at HC
      have hk1 : ((k : Int) == 1) = false := by rw [beq_eq_false_iff_ne]; omega
      have hk6 : ((k : Int) == 6) = false := by rw [beq_eq_false_iff_ne]; omega
      have n2 : ((P.length : Int) == 2) = false := by rw [beq_eq_false_iff_ne]; omega
      have hne0 : ¬ w.heap.size = q := by omega
      have hne2 : g ≠ q := by omega
      have kk := HC.out.cell 0 _ rfl
      go_wp2_with (refine stay_load 28 ?_)
      refine ⟨?_⟩
      clear HR1 kk
      go_wp2_with (refine stay_store 28 ?_)
      refine ⟨?_⟩
      refine wpList_store_mid rfl 28 _ _ rfl w.heap.size 0 (#[.int .i64 0, .int .i64 0, .int .i64 0, .int .i64 0, .int .i64 0, .int .i64 0, .int .i64 0, .int .i64 0, .int .i64 0, .int .i64 0, .int .i64 0, .int .i64 0, .int .i64 0, .int .i64 0, .int .i64 0, .int .i64 0]) rfl rfl (HR.out.room 0 16 (by simp)) szCmdC (by simp [Value.oneCell']) ?_
      replace HR : Hid (Row (wr.setCells w.heap.size 0 (#[.int .i64 0, .int .i64 0, .int .i64 0, .int .i64 0, .int .i64 0, .int .i64 0, .int .i64 0, .int .i64 0, .int .i64 0, .int .i64 0, .int .i64 0, .int .i64 0, .int .i64 0, .int .i64 0, .int .i64 0, .int .i64 0] : Array Value).toList) w.heap.size [.int .i64 0, .int .i64 0, .int .i64 0, .int .i64 0, .int .i64 0, .int .i64 0, .int .i64 0, .int .i64 0, .int .i64 0, .int .i64 0, .int .i64 0, .int .i64 0, .int .i64 0, .int .i64 0, .int .i64 0, .int .i64 0]) := Row.setCs _ 0 HR.out (by simp)
      replace HB : Hid (Below w.heap.size w (wr.setCells w.heap.size 0 (#[.int .i64 0, .int .i64 0, .int .i64 0, .int .i64 0, .int .i64 0, .int .i64 0, .int .i64 0, .int .i64 0, .int .i64 0, .int .i64 0, .int .i64 0, .int .i64 0, .int .i64 0, .int .i64 0, .int .i64 0, .int .i64 0] : Array Value).toList)) := below_setCs (Nat.le_refl _) _ _ HB.out
      generalize wr.setCells w.heap.size 0 _ = u8 at HR HB ⊢
      go_wp2_with fail
      have r0 := HR.out.cell 0 _ rfl
      have r1 := HR.out.cell 1 _ rfl
      have r2 := HR.out.cell 2 _ rfl
      have r3 := HR.out.cell 3 _ rfl
      have r4 := HR.out.cell 4 _ rfl
      have r5 := HR.out.cell 5 _ rfl
      have r6 := HR.out.cell 6 _ rfl
      have r7 := HR.out.cell 7 _ rfl
      have r8 := HR.out.cell 8 _ rfl
      have r9 := HR.out.cell 9 _ rfl
      have r10 := HR.out.cell 10 _ rfl
      have r11 := HR.out.cell 11 _ rfl
      have r12 := HR.out.cell 12 _ rfl
      have r13 := HR.out.cell 13 _ rfl
      have r14 := HR.out.cell 14 _ rfl
      have r15 := HR.out.cell 15 _ rfl
      exact bodyPost_ret (v := .tuple #[.agg #[.int .i64 0, .int .i64 0, .int .i64 0, .int .i64 0, .int .i64 0, .int .i64 0, .int .i64 0, .int .i64 0, .int .i64 0, .int .i64 0, .int .i64 0, .int .i64 0, .int .i64 0, .int .i64 0, .int .i64 0, .int .i64 0], .bool false]) (by simp [results, Tryz.results21, go_sem, *]) rfl ⟨rfl, HB.out⟩

end Go.Proofs.YtejleghdgdbbnaaGreatDoor

namespace Go.Proofs.YtejleghdgdbbnaaGreatDoor
open Go.ChangeShapes Go.WideShapes Go.ChangeAt Go.RowKit

theorem ctL_ne (x : Cm) (h : cmdB x.s x.j x.n x.a x.b x.c = true) : ctL x.s x.j x.n x.a x.b x.c ≠ [] := by
  rw [ctL, h]
  have h7 := cmdB_seven h
  intro e
  have e2 : (Lib.join (cwL x.s x.j x.n x.a x.b x.c) [32]).length = 0 := by
    have : Lib.join (cwL x.s x.j x.n x.a x.b x.c) [32] = [] := e
    rw [this]; rfl
  rcases h7 with h | h | h | h | h | h | h <;> (rw [h] at e2; simp [cwL, jwL, Lib.join, kwL, kws] at e2)
theorem spec_fin (s : ByteArray) (w : World) (x : Cm) (hx : rdC (pcs 32 s.data.toList) = x)
    (h1 : s.data.toList ≠ [] → ctL x.s x.j x.n x.a x.b x.c = s.data.toList → Calls Tryz.prog 21 #[.string s] w fun e w' => e = .returned (.tuple #[.agg x.cells.toArray, .bool true]) ∧ Below w.heap.size w w')
    (h2 : s.data.toList ≠ [] → ctL x.s x.j x.n x.a x.b x.c ≠ s.data.toList → Calls Tryz.prog 21 #[.string s] w fun e w' => e = .returned (.tuple #[.agg cm0.cells.toArray, .bool false]) ∧ Below w.heap.size w w')
    (h3 : s.data.toList = [] → Calls Tryz.prog 21 #[.string s] w fun e w' => e = .returned (.tuple #[.agg cm0.cells.toArray, .bool false]) ∧ Below w.heap.size w w') :
    Calls Tryz.prog 21 #[.string s] w fun e w' => e = .returned (.tuple #[.agg (tcR s.data.toList).1.cells.toArray, .bool (tcR s.data.toList).2]) ∧ Below w.heap.size w w' := by
  unfold tcR
  rw [hx]
  by_cases he : s.data.toList = []
  · rw [if_neg (fun t => ctL_ne x t.1 (t.2.trans he))]
    exact h3 he
  · by_cases ht : ctL x.s x.j x.n x.a x.b x.c = s.data.toList
    · have hc : cmdB x.s x.j x.n x.a x.b x.c = true := by
        cases hh : cmdB x.s x.j x.n x.a x.b x.c
        · exfalso
          rw [ctL, hh] at ht
          exact he ht.symm
        · rfl
      rw [if_pos ⟨hc, ht⟩]
      exact h1 he ht
    · rw [if_neg (fun t => ht t.2)]
      exact h2 he ht

theorem specTextCmd_c (s : ByteArray) (hs : s.size ≤ 1048576) (w : World) : Calls Tryz.prog 21 #[.string s] w fun e w' => e = .returned (.tuple #[.agg (tcR s.data.toList).1.cells.toArray, .bool (tcR s.data.toList).2]) ∧ Below w.heap.size w w' := by
  have hnil : ∀ P : List (List UInt8), pcs 32 s.data.toList = P → s.data.toList = [] → P = [[]] := fun P hP h => by rw [← hP, h]; rfl
  cases hP : pcs 32 s.data.toList with
  | nil => exact absurd hP (pcs_ne _ _)
  | cons x0 r =>
    by_cases h8 : r.length = 7 ∧ kdN x0 = 1
    · match r, h8.1, hP with
      | [x1, x2, x3, x4, x5, x6, x7], _, hP =>
        exact spec_fin s w ⟨1, jrd x1 x2 x3 x4 x5 x6 x7, 0, 0, 0, 0⟩ (by rw [hP]; unfold rdC; rw [if_pos ⟨rfl, h8.2⟩]; rfl)
          (fun he ht => specTextCmd_j_eq s hs x0 x1 x2 x3 x4 x5 x6 x7 hP h8.2 he ht w) (fun he ht => specTextCmd_j_ne s hs x0 x1 x2 x3 x4 x5 x6 x7 hP h8.2 he ht w) (fun he => by have := hnil _ hP he; simp at this)
    · by_cases h2 : r.length = 1
      · match r, h2, hP with
        | [x1], _, hP =>
          have h0 : s.data.toList = [] → False := fun he => by have := hnil _ hP he; simp at this
          by_cases h6 : kdN x0 = 6
          · exact spec_fin s w ⟨6, jb0, 0, (tvR x1).1.1, (tvR x1).1.2.1, (tvR x1).1.2.2⟩ (by rw [hP]; unfold rdC; rw [if_neg (fun t => by have := t.1; simp at this), if_pos ⟨rfl, h6⟩]; rfl)
              (fun he ht => specTextCmd_l_eq s hs x0 x1 hP h6 he ht w) (fun he ht => specTextCmd_l_ne s hs x0 x1 hP h6 he ht w) (fun he => (h0 he).elim)
          · have e : rdC [x0, x1] = ⟨kdN x0, jb0, (tnR x1).1, 0, 0, 0⟩ := by unfold rdC; rw [if_neg (fun t => by have := t.1; simp at this), if_neg (fun t => h6 t.2), if_pos (show [x0, x1].length = 2 from rfl)]; rfl
            by_cases h1 : kdN x0 = 1
            · exact spec_fin s w ⟨1, jb0, (tnR x1).1, 0, 0, 0⟩ (by rw [hP, e, h1]; rfl)
                (fun he ht => specTextCmd_o_eq s hs x0 x1 hP h1 he ht w) (fun he ht => specTextCmd_o_ne s hs x0 x1 hP h1 he ht w) (fun he => (h0 he).elim)
            · exact spec_fin s w ⟨kdN x0, jb0, (tnR x1).1, 0, 0, 0⟩ (by rw [hP, e])
                (fun he ht => specTextCmd_n_eq s hs x0 x1 hP (kdN x0) rfl h1 h6 he ht w) (fun he ht => specTextCmd_n_ne s hs x0 x1 hP (kdN x0) rfl h1 h6 he ht w) (fun he => (h0 he).elim)
      · have e : rdC (x0 :: r) = ⟨kdN x0, jb0, 0, 0, 0, 0⟩ := by
          unfold rdC
          rw [if_neg (fun t => h8 ⟨by have := t.1; simp at this; exact this, t.2⟩), if_neg (fun t => h2 (by have := t.1; simp at this; simp [this])), if_neg (fun t => h2 (by simp at t; simp [t]))]
          rfl
        have hPx : Hid ((x0 :: r)[0]? = some x0) := rfl
        have hPl : 0 < (x0 :: r).length := by simp
        have hP2 : (x0 :: r).length ≠ 2 := by simp; omega
        by_cases h1 : kdN x0 = 1
        · exact spec_fin s w ⟨1, jb0, 0, 0, 0, 0⟩ (by rw [hP, e, h1]; rfl)
            (fun he ht => specTextCmd_d1_eq s hs x0 _ hP hPx hPl hP2 h1 (by simp; exact fun t => h8 ⟨t, h1⟩) he ht w) (fun he ht => specTextCmd_d1_ne s hs x0 _ hP hPx hPl hP2 h1 (by simp; exact fun t => h8 ⟨t, h1⟩) he ht w)
            (fun he => by have := hnil _ hP he; simp at this; rw [this.1] at h1; exact absurd h1 (by decide))
        · by_cases h6 : kdN x0 = 6
          · exact spec_fin s w ⟨6, jb0, 0, 0, 0, 0⟩ (by rw [hP, e, h6]; rfl)
              (fun he ht => specTextCmd_d6_eq s hs x0 _ hP hPx hPl hP2 h6 he ht w) (fun he ht => specTextCmd_d6_ne s hs x0 _ hP hPx hPl hP2 h6 he ht w)
              (fun he => by have := hnil _ hP he; simp at this; rw [this.1] at h6; exact absurd h6 (by decide))
          · exact spec_fin s w ⟨kdN x0, jb0, 0, 0, 0, 0⟩ (by rw [hP, e])
              (fun he ht => specTextCmd_d0_eq s hs x0 _ hP hPx hPl hP2 (kdN x0) rfl h1 h6 he ht w) (fun he ht => specTextCmd_d0_ne s hs x0 _ hP hPx hPl hP2 (kdN x0) rfl h1 h6 he ht w)
              (fun he => specTextCmd_d0_em s hs x0 _ hP hPx hPl hP2 (kdN x0) rfl h1 h6 he w)
end Go.Proofs.YtejleghdgdbbnaaGreatDoor

namespace Go.Proofs.YtejleghdgdbbnaaGreatDoor
open Go.ChangeShapes Go.WideShapes Go.ChangeAt Go.RowKit

theorem sz_list (s : ByteArray) : s.data.toList.length = s.size := by rw [Array.length_toList]; rfl
theorem cut_lenH (b : UInt8) (l : List UInt8) : (Lib.cut l [b]).1.length ≤ l.length ∧ (Lib.cut l [b]).2.1.length ≤ l.length := by
  rcases pcs_cutS b l with ⟨_, _, h⟩ | ⟨_, _, h, h2⟩
  · have := congrArg List.length h
    simp only [List.length_append, List.length_cons] at this
    omega
  · rw [h, h2]; simp
/-- What the specification takes a text for. -/
def rdT (l : List UInt8) : Sp :=
  if sdN (Lib.cut l [32]).1 = 1 then ⟨1, (tcR (Lib.cut l [32]).2.1).1, 0⟩
  else if sdN (Lib.cut l [32]).1 = 2 then
    (if 2 < (pcs 32 l).length then ⟨2, (tcR (Lib.cut (Lib.cut l [32]).2.1 [32]).2.1).1, (tnR (Lib.cut (Lib.cut l [32]).2.1 [32]).1).1⟩ else ⟨2, cm0, 0⟩)
  else ⟨sdN (Lib.cut l [32]).1, cm0, 0⟩
theorem cut_short {l : List UInt8} (h : ¬ 2 < (pcs 32 l).length) : (Lib.cut (Lib.cut l [32]).2.1 [32]).2.1 = [] := by
  rcases pcs_cutS 32 l with ⟨_, h2, _⟩ | ⟨_, _, _, h4⟩
  · rw [h2] at h
    rcases pcs_cutS 32 (Lib.cut l [32]).2.1 with ⟨_, g2, _⟩ | ⟨_, _, _, g4⟩
    · exfalso
      rw [g2] at h
      have := List.length_pos_iff.2 (pcs_ne 32 (Lib.cut (Lib.cut l [32]).2.1 [32]).2.1)
      simp only [List.length_cons] at h
      omega
    · exact g4
  · rw [h4]; simp [Lib.cut, Lib.index]
theorem rdT_no {l : List UInt8} (_ : l ≠ []) (h : stL (rdT l).k (rdT l).x (rdT l).p ≠ l) : tsR l = (⟨0, cm0, 0⟩, false) := by
  unfold rdT at h
  by_cases h1 : sdN (Lib.cut l [32]).1 = 1
  · rw [if_pos h1] at h
    refine tsR_ne ?_
    unfold rdS
    rw [if_pos h1]
    exact h
  · rw [if_neg h1] at h
    by_cases h2 : sdN (Lib.cut l [32]).1 = 2
    · rw [if_pos h2] at h
      by_cases h3 : 2 < (pcs 32 l).length
      · rw [if_pos h3] at h
        refine tsR_ne ?_
        unfold rdS
        rw [if_neg h1, if_pos h2]
        exact h
      · refine tsR_no ?_
        unfold rdS
        rw [if_neg h1, if_pos h2, cut_short h3, tcR_nil']
        exact st_cm0 _
    · rw [if_neg h2] at h
      refine tsR_ne ?_
      unfold rdS
      rw [if_neg h1, if_neg h2]
      exact h
theorem rdT_yes {l : List UInt8} (hne : l ≠ []) (h : stL (rdT l).k (rdT l).x (rdT l).p = l) : tsR l = (rdT l, true) := by
  have e : rdS l = rdT l := by
    unfold rdT at h ⊢
    unfold rdS
    by_cases h1 : sdN (Lib.cut l [32]).1 = 1
    · rw [if_pos h1, if_pos h1]
    · rw [if_neg h1] at h
      rw [if_neg h1, if_neg h1]
      by_cases h2 : sdN (Lib.cut l [32]).1 = 2
      · rw [if_pos h2] at h
        rw [if_pos h2, if_pos h2]
        by_cases h3 : 2 < (pcs 32 l).length
        · rw [if_pos h3]
        · rw [if_neg h3] at h
          exfalso
          rw [st_no (st_cm0 0)] at h
          exact hne h.symm
      · rw [if_neg h2, if_neg h2]
  rw [← e] at h ⊢
  exact ts_fit hne h
theorem rdT_nil : tsR [] = (⟨0, cm0, 0⟩, false) := by
  refine tsR_no ?_
  unfold rdS
  have e : sdN (Lib.cut [] [32]).1 = 0 := by simp [Lib.cut, Lib.index, sdN]
  rw [e]
  rfl
/-- What is told of a text that is taken for a step. -/
def stRes (l : List UInt8) (k : Int) (x : Cm) (p : Int) : Value := if l ≠ [] ∧ stL k x p = l then .tuple #[.agg #[.int .i64 k, .int .i64 x.s, .int .i64 x.j.id, .int .i64 x.j.pr, .int .i64 x.j.nd, .int .i64 x.j.na, .int .i64 x.j.nb, .int .i64 x.j.nc, .int .i64 x.j.la, .int .i64 x.j.lb, .int .i64 x.j.lc, .int .i64 x.j.wl, .int .i64 x.j.lv, .int .i64 x.n, .int .i64 x.a, .int .i64 x.b, .int .i64 x.c, .int .i64 p], .bool true] else .tuple #[.agg #[.int .i64 0, .int .i64 0, .int .i64 0, .int .i64 0, .int .i64 0, .int .i64 0, .int .i64 0, .int .i64 0, .int .i64 0, .int .i64 0, .int .i64 0, .int .i64 0, .int .i64 0, .int .i64 0, .int .i64 0, .int .i64 0, .int .i64 0, .int .i64 0], .bool false]

set_option maxHeartbeats 4000000 in
set_option maxRecDepth 100000 in
theorem specTextStep_3 (s : ByteArray) (hs : s.size ≤ 1048576) (w : World) (hw : (Lib.cut s.data.toList [32]).1 = [99, 114, 97, 115, 104]) (hne : s.data.toList ≠ []) :
    Calls Tryz.prog 9 #[.string s] w fun e w' => e = .returned (stRes s.data.toList 3 cm0 0) ∧ Below w.heap.size w w' := by
  have CP : Hid (∀ W : World, Calls Tryz.prog 20 #[.string s, .int .u8 32] W fun e w' => ∃ g cap, e = .returned (.slice (some ⟨g, 0, none⟩) (pcs 32 s.data.toList).length cap) ∧ W.heap.size ≤ g ∧ Row w' g (strs (pcs 32 s.data.toList)) ∧ Below W.heap.size W w') := fun W => specParts_c s 32 hs W
  have hP0 : (strs (pcs 32 s.data.toList))[0]? = some (.string ⟨(Lib.cut s.data.toList [32]).1.toArray⟩) := by
    rw [strs_get]
    rcases pcs_cutS 32 s.data.toList with ⟨_, h2, _⟩ | ⟨_, h2, h3, _⟩
    · rw [h2]; rfl
    · rw [h2, h3]; rfl
  have hPl : 0 < (pcs 32 s.data.toList).length := List.length_pos_iff.2 (pcs_ne _ _)
  obtain ⟨D, hDe, hD⟩ : ∃ D : ByteArray, (⟨(Lib.cut s.data.toList [32]).1.toArray⟩ : ByteArray) = D ∧ D.toList = (Lib.cut s.data.toList [32]).1 := ⟨_, rfl, by rw [ByteArray.toList_eq]⟩
  rw [hDe] at hP0
  rw [hw] at hD
  have e1 : (D.toList == [100, 111]) = false := by rw [hD]; rfl
  have f1 : (([100, 111] : List UInt8) == D.toList) = false := by rw [hD]; rfl
  have e2 : (D.toList == [116, 111, 114, 110]) = false := by rw [hD]; rfl
  have f2 : (([116, 111, 114, 110] : List UInt8) == D.toList) = false := by rw [hD]; rfl
  have e3 : (D.toList == [99, 114, 97, 115, 104]) = true := by rw [hD]; rfl
  have f3 : (([99, 114, 97, 115, 104] : List UInt8) == D.toList) = true := by rw [hD]; rfl
  have e4 : (D.toList == [115, 116, 97, 114, 116]) = false := by rw [hD]; rfl
  have f4 : (([115, 116, 97, 114, 116] : List UInt8) == D.toList) = false := by rw [hD]; rfl
  clear hDe hD hw
  have m1 : s.toList.isEmpty = false := by rw [ByteArray.toList_eq]; cases hh : s.data.toList with | nil => exact absurd hh hne | cons _ _ => rfl
  have m2 : (s.toList == []) = false := by rw [ByteArray.toList_eq, beq_eq_false_iff_ne]; exact hne
  generalize pcs 32 s.data.toList = P at CP hP0 hPl
  have HP0 : Hid ((strs P)[0]? = _) := hP0
  have hPi : (0 : Int) < (P.length : Int) := by omega
  clear hP0 hs

  have HST : Hid (∀ W : World, Calls Tryz.prog 7 #[.agg #[.int .i64 3, .int .i64 0, .int .i64 0, .int .i64 0, .int .i64 0, .int .i64 0, .int .i64 0, .int .i64 0, .int .i64 0, .int .i64 0, .int .i64 0, .int .i64 0, .int .i64 0, .int .i64 0, .int .i64 0, .int .i64 0, .int .i64 0, .int .i64 0]] W fun e w' => e = .returned (.string ⟨(stL 3 cm0 0).toArray⟩) ∧ Below W.heap.size W w') := fun W => specStepText_c 3 cm0 0 W
  obtain ⟨y, hy, hyl⟩ : ∃ y : ByteArray, (⟨(stL 3 cm0 0).toArray⟩ : ByteArray) = y ∧ y.toList = stL 3 cm0 0 := ⟨_, rfl, by rw [ByteArray.toList_eq]⟩
  rw [hy] at HST
  clear hy
  have HRs : Hid (stRes s.data.toList 3 cm0 0 = if s.data.toList ≠ [] ∧ y.toList = s.toList then .tuple #[.agg #[.int .i64 3, .int .i64 0, .int .i64 0, .int .i64 0, .int .i64 0, .int .i64 0, .int .i64 0, .int .i64 0, .int .i64 0, .int .i64 0, .int .i64 0, .int .i64 0, .int .i64 0, .int .i64 0, .int .i64 0, .int .i64 0, .int .i64 0, .int .i64 0], .bool true] else .tuple #[.agg #[.int .i64 0, .int .i64 0, .int .i64 0, .int .i64 0, .int .i64 0, .int .i64 0, .int .i64 0, .int .i64 0, .int .i64 0, .int .i64 0, .int .i64 0, .int .i64 0, .int .i64 0, .int .i64 0, .int .i64 0, .int .i64 0, .int .i64 0, .int .i64 0], .bool false]) := by show _ = _; unfold stRes; rw [hyl, ByteArray.toList_eq]; try rfl
  clear hyl
  go_enter Tryz.func9, Tryz.ntmps9
  go_wp2_with fail
  have HR : Hid (Row (w.alloc (.cells #[.int .i64 0, .int .i64 0, .int .i64 0, .int .i64 0, .int .i64 0, .int .i64 0, .int .i64 0, .int .i64 0, .int .i64 0, .int .i64 0, .int .i64 0, .int .i64 0, .int .i64 0, .int .i64 0, .int .i64 0, .int .i64 0, .int .i64 0, .int .i64 0] 30)) w.heap.size [.int .i64 0, .int .i64 0, .int .i64 0, .int .i64 0, .int .i64 0, .int .i64 0, .int .i64 0, .int .i64 0, .int .i64 0, .int .i64 0, .int .i64 0, .int .i64 0, .int .i64 0, .int .i64 0, .int .i64 0, .int .i64 0, .int .i64 0, .int .i64 0]) := row_fresh w [.int .i64 0, .int .i64 0, .int .i64 0, .int .i64 0, .int .i64 0, .int .i64 0, .int .i64 0, .int .i64 0, .int .i64 0, .int .i64 0, .int .i64 0, .int .i64 0, .int .i64 0, .int .i64 0, .int .i64 0, .int .i64 0, .int .i64 0, .int .i64 0] 30
  have HB : Hid (Below w.heap.size w (w.alloc (.cells #[.int .i64 0, .int .i64 0, .int .i64 0, .int .i64 0, .int .i64 0, .int .i64 0, .int .i64 0, .int .i64 0, .int .i64 0, .int .i64 0, .int .i64 0, .int .i64 0, .int .i64 0, .int .i64 0, .int .i64 0, .int .i64 0, .int .i64 0, .int .i64 0] 30))) := low_alloc _ _
  generalize w.alloc (.cells #[.int .i64 0, .int .i64 0, .int .i64 0, .int .i64 0, .int .i64 0, .int .i64 0, .int .i64 0, .int .i64 0, .int .i64 0, .int .i64 0, .int .i64 0, .int .i64 0, .int .i64 0, .int .i64 0, .int .i64 0, .int .i64 0, .int .i64 0, .int .i64 0] 30) = u0 at HR HB ⊢
  refine (CP.out _).mono ?_
  rintro e w1 ⟨g, cap, rfl, _, hr, hb⟩
  replace HR : Hid (Row w1 w.heap.size [.int .i64 0, .int .i64 0, .int .i64 0, .int .i64 0, .int .i64 0, .int .i64 0, .int .i64 0, .int .i64 0, .int .i64 0, .int .i64 0, .int .i64 0, .int .i64 0, .int .i64 0, .int .i64 0, .int .i64 0, .int .i64 0, .int .i64 0, .int .i64 0]) := HR.out.below hb
  replace HB : Hid (Below w.heap.size w w1) := below_then HB.out hb
  have HP : Hid (Row w1 g (strs P)) := hr
  clear hr hb CP
  have s0 := HP.out.cell 0 _ HP0.out
  have hgl := HP.out.lt
  have hgn : g ≠ w1.heap.size := by omega
  have hq0 := HR.out.lt
  have hqr : ¬ w.heap.size = w1.heap.size := by omega
  go_wp2_with (refine stay_load 30 ?_)
  refine ⟨?_⟩
  have HJ : Hid (Row (w1.alloc (.cells #[.int .i64 3, .int .i64 0, .int .i64 0, .int .i64 0, .int .i64 0, .int .i64 0, .int .i64 0, .int .i64 0, .int .i64 0, .int .i64 0, .int .i64 0, .int .i64 0, .int .i64 0, .int .i64 0, .int .i64 0, .int .i64 0, .int .i64 0, .int .i64 0] 30)) w1.heap.size [.int .i64 3, .int .i64 0, .int .i64 0, .int .i64 0, .int .i64 0, .int .i64 0, .int .i64 0, .int .i64 0, .int .i64 0, .int .i64 0, .int .i64 0, .int .i64 0, .int .i64 0, .int .i64 0, .int .i64 0, .int .i64 0, .int .i64 0, .int .i64 0]) := row_fresh w1 [.int .i64 3, .int .i64 0, .int .i64 0, .int .i64 0, .int .i64 0, .int .i64 0, .int .i64 0, .int .i64 0, .int .i64 0, .int .i64 0, .int .i64 0, .int .i64 0, .int .i64 0, .int .i64 0, .int .i64 0, .int .i64 0, .int .i64 0, .int .i64 0] 30
  replace HR : Hid (Row (w1.alloc (.cells #[.int .i64 3, .int .i64 0, .int .i64 0, .int .i64 0, .int .i64 0, .int .i64 0, .int .i64 0, .int .i64 0, .int .i64 0, .int .i64 0, .int .i64 0, .int .i64 0, .int .i64 0, .int .i64 0, .int .i64 0, .int .i64 0, .int .i64 0, .int .i64 0] 30)) w.heap.size [.int .i64 0, .int .i64 0, .int .i64 0, .int .i64 0, .int .i64 0, .int .i64 0, .int .i64 0, .int .i64 0, .int .i64 0, .int .i64 0, .int .i64 0, .int .i64 0, .int .i64 0, .int .i64 0, .int .i64 0, .int .i64 0, .int .i64 0, .int .i64 0]) := HR.out.below (low_alloc _ _)
  replace HB : Hid (Below w.heap.size w (w1.alloc (.cells #[.int .i64 3, .int .i64 0, .int .i64 0, .int .i64 0, .int .i64 0, .int .i64 0, .int .i64 0, .int .i64 0, .int .i64 0, .int .i64 0, .int .i64 0, .int .i64 0, .int .i64 0, .int .i64 0, .int .i64 0, .int .i64 0, .int .i64 0, .int .i64 0] 30))) := behind_alloc HB.out _
  generalize w1.alloc (.cells #[.int .i64 3, .int .i64 0, .int .i64 0, .int .i64 0, .int .i64 0, .int .i64 0, .int .i64 0, .int .i64 0, .int .i64 0, .int .i64 0, .int .i64 0, .int .i64 0, .int .i64 0, .int .i64 0, .int .i64 0, .int .i64 0, .int .i64 0, .int .i64 0] 30) = u1 at HR HB HJ ⊢
  generalize w1.heap.size = q at *
  clear HP s0

  refine wpList_load_mid_w rfl 30 _ rfl q 0 rfl [.int .i64 3, .int .i64 0, .int .i64 0, .int .i64 0, .int .i64 0, .int .i64 0, .int .i64 0, .int .i64 0, .int .i64 0, .int .i64 0, .int .i64 0, .int .i64 0, .int .i64 0, .int .i64 0, .int .i64 0, .int .i64 0, .int .i64 0, .int .i64 0] _ HJ.out.all Tryz.underlying30 rfl szStep ?_
  go_wp2_with fail
  refine (HST.out _).mono ?_
  rintro e v1 ⟨rfl, hb⟩
  replace HR : Hid (Row v1 w.heap.size [.int .i64 0, .int .i64 0, .int .i64 0, .int .i64 0, .int .i64 0, .int .i64 0, .int .i64 0, .int .i64 0, .int .i64 0, .int .i64 0, .int .i64 0, .int .i64 0, .int .i64 0, .int .i64 0, .int .i64 0, .int .i64 0, .int .i64 0, .int .i64 0]) := HR.out.below hb
  replace HJ : Hid (Row v1 q [.int .i64 3, .int .i64 0, .int .i64 0, .int .i64 0, .int .i64 0, .int .i64 0, .int .i64 0, .int .i64 0, .int .i64 0, .int .i64 0, .int .i64 0, .int .i64 0, .int .i64 0, .int .i64 0, .int .i64 0, .int .i64 0, .int .i64 0, .int .i64 0]) := HJ.out.below hb
  replace HB : Hid (Below w.heap.size w v1) := below_then HB.out hb
  clear hb HST
  by_cases ht : y.toList = s.toList
  · have q1 : (y.toList == s.toList) = true := by rw [ht]; simp
    have q2 : (s.toList == y.toList) = true := by rw [ht]; simp
    rw [if_pos ⟨hne, ht⟩] at HRs
    clear ht
    go_wp2_with (refine stay_load 30 ?_)
    refine ⟨?_⟩
    refine wpList_load_mid rfl 30 _ rfl q 0 rfl [.int .i64 3, .int .i64 0, .int .i64 0, .int .i64 0, .int .i64 0, .int .i64 0, .int .i64 0, .int .i64 0, .int .i64 0, .int .i64 0, .int .i64 0, .int .i64 0, .int .i64 0, .int .i64 0, .int .i64 0, .int .i64 0, .int .i64 0, .int .i64 0] _ HJ.out.all Tryz.underlying30 rfl szStep ?_
    go_wp2_with (refine stay_store 30 ?_)
    refine ⟨?_⟩
    refine wpList_store_mid rfl 30 _ _ rfl w.heap.size 0 (#[.int .i64 3, .int .i64 0, .int .i64 0, .int .i64 0, .int .i64 0, .int .i64 0, .int .i64 0, .int .i64 0, .int .i64 0, .int .i64 0, .int .i64 0, .int .i64 0, .int .i64 0, .int .i64 0, .int .i64 0, .int .i64 0, .int .i64 0, .int .i64 0]) rfl rfl (HR.out.room 0 18 (by simp)) szStep (by simp [Value.oneCell']) ?_
    replace HR : Hid (Row (v1.setCells w.heap.size 0 (#[.int .i64 3, .int .i64 0, .int .i64 0, .int .i64 0, .int .i64 0, .int .i64 0, .int .i64 0, .int .i64 0, .int .i64 0, .int .i64 0, .int .i64 0, .int .i64 0, .int .i64 0, .int .i64 0, .int .i64 0, .int .i64 0, .int .i64 0, .int .i64 0] : Array Value).toList) w.heap.size [.int .i64 3, .int .i64 0, .int .i64 0, .int .i64 0, .int .i64 0, .int .i64 0, .int .i64 0, .int .i64 0, .int .i64 0, .int .i64 0, .int .i64 0, .int .i64 0, .int .i64 0, .int .i64 0, .int .i64 0, .int .i64 0, .int .i64 0, .int .i64 0]) := Row.setCs _ 0 HR.out (by simp)
    replace HB : Hid (Below w.heap.size w (v1.setCells w.heap.size 0 (#[.int .i64 3, .int .i64 0, .int .i64 0, .int .i64 0, .int .i64 0, .int .i64 0, .int .i64 0, .int .i64 0, .int .i64 0, .int .i64 0, .int .i64 0, .int .i64 0, .int .i64 0, .int .i64 0, .int .i64 0, .int .i64 0, .int .i64 0, .int .i64 0] : Array Value).toList)) := below_setCs (Nat.le_refl _) _ _ HB.out
    generalize v1.setCells w.heap.size 0 _ = u8 at HR HB ⊢
    clear HJ
    go_wp2_with fail
    have hv := run_loadVar_mid (P := Tryz.prog) u8 w.heap.size 0 30 [.int .i64 3, .int .i64 0, .int .i64 0, .int .i64 0, .int .i64 0, .int .i64 0, .int .i64 0, .int .i64 0, .int .i64 0, .int .i64 0, .int .i64 0, .int .i64 0, .int .i64 0, .int .i64 0, .int .i64 0, .int .i64 0, .int .i64 0, .int .i64 0] _ HR.out.all Tryz.underlying30 rfl szStep
    exact bodyPost_ret (results_mix Tryz.results9 rfl hv) rfl ⟨by rw [HRs.out]; rfl, HB.out⟩
  · have q1 : (y.toList == s.toList) = false := by rw [beq_eq_false_iff_ne]; exact ht
    have q2 : (s.toList == y.toList) = false := by rw [beq_eq_false_iff_ne]; exact fun e => ht e.symm
    rw [if_neg (fun t => ht t.2)] at HRs
    clear ht
    go_wp2_with (refine stay_store 30 ?_)
    refine ⟨?_⟩
    refine wpList_store_mid rfl 30 _ _ rfl w.heap.size 0 (#[.int .i64 0, .int .i64 0, .int .i64 0, .int .i64 0, .int .i64 0, .int .i64 0, .int .i64 0, .int .i64 0, .int .i64 0, .int .i64 0, .int .i64 0, .int .i64 0, .int .i64 0, .int .i64 0, .int .i64 0, .int .i64 0, .int .i64 0, .int .i64 0]) rfl rfl (HR.out.room 0 18 (by simp)) szStep (by simp [Value.oneCell']) ?_
    replace HR : Hid (Row (v1.setCells w.heap.size 0 (#[.int .i64 0, .int .i64 0, .int .i64 0, .int .i64 0, .int .i64 0, .int .i64 0, .int .i64 0, .int .i64 0, .int .i64 0, .int .i64 0, .int .i64 0, .int .i64 0, .int .i64 0, .int .i64 0, .int .i64 0, .int .i64 0, .int .i64 0, .int .i64 0] : Array Value).toList) w.heap.size [.int .i64 0, .int .i64 0, .int .i64 0, .int .i64 0, .int .i64 0, .int .i64 0, .int .i64 0, .int .i64 0, .int .i64 0, .int .i64 0, .int .i64 0, .int .i64 0, .int .i64 0, .int .i64 0, .int .i64 0, .int .i64 0, .int .i64 0, .int .i64 0]) := Row.setCs _ 0 HR.out (by simp)
    replace HB : Hid (Below w.heap.size w (v1.setCells w.heap.size 0 (#[.int .i64 0, .int .i64 0, .int .i64 0, .int .i64 0, .int .i64 0, .int .i64 0, .int .i64 0, .int .i64 0, .int .i64 0, .int .i64 0, .int .i64 0, .int .i64 0, .int .i64 0, .int .i64 0, .int .i64 0, .int .i64 0, .int .i64 0, .int .i64 0] : Array Value).toList)) := below_setCs (Nat.le_refl _) _ _ HB.out
    generalize v1.setCells w.heap.size 0 _ = u8 at HR HB ⊢
    clear HJ
    go_wp2_with fail
    have hv := run_loadVar_mid (P := Tryz.prog) u8 w.heap.size 0 30 [.int .i64 0, .int .i64 0, .int .i64 0, .int .i64 0, .int .i64 0, .int .i64 0, .int .i64 0, .int .i64 0, .int .i64 0, .int .i64 0, .int .i64 0, .int .i64 0, .int .i64 0, .int .i64 0, .int .i64 0, .int .i64 0, .int .i64 0, .int .i64 0] _ HR.out.all Tryz.underlying30 rfl szStep
    exact bodyPost_ret (results_mix Tryz.results9 rfl hv) rfl ⟨by rw [HRs.out]; rfl, HB.out⟩
set_option maxHeartbeats 4000000 in
set_option maxRecDepth 100000 in
theorem specTextStep_4 (s : ByteArray) (hs : s.size ≤ 1048576) (w : World) (hw : (Lib.cut s.data.toList [32]).1 = [115, 116, 97, 114, 116]) (hne : s.data.toList ≠ []) :
    Calls Tryz.prog 9 #[.string s] w fun e w' => e = .returned (stRes s.data.toList 4 cm0 0) ∧ Below w.heap.size w w' := by
  have CP : Hid (∀ W : World, Calls Tryz.prog 20 #[.string s, .int .u8 32] W fun e w' => ∃ g cap, e = .returned (.slice (some ⟨g, 0, none⟩) (pcs 32 s.data.toList).length cap) ∧ W.heap.size ≤ g ∧ Row w' g (strs (pcs 32 s.data.toList)) ∧ Below W.heap.size W w') := fun W => specParts_c s 32 hs W
  have hP0 : (strs (pcs 32 s.data.toList))[0]? = some (.string ⟨(Lib.cut s.data.toList [32]).1.toArray⟩) := by
    rw [strs_get]
    rcases pcs_cutS 32 s.data.toList with ⟨_, h2, _⟩ | ⟨_, h2, h3, _⟩
    · rw [h2]; rfl
    · rw [h2, h3]; rfl
  have hPl : 0 < (pcs 32 s.data.toList).length := List.length_pos_iff.2 (pcs_ne _ _)
  obtain ⟨D, hDe, hD⟩ : ∃ D : ByteArray, (⟨(Lib.cut s.data.toList [32]).1.toArray⟩ : ByteArray) = D ∧ D.toList = (Lib.cut s.data.toList [32]).1 := ⟨_, rfl, by rw [ByteArray.toList_eq]⟩
  rw [hDe] at hP0
  rw [hw] at hD
  have e1 : (D.toList == [100, 111]) = false := by rw [hD]; rfl
  have f1 : (([100, 111] : List UInt8) == D.toList) = false := by rw [hD]; rfl
  have e2 : (D.toList == [116, 111, 114, 110]) = false := by rw [hD]; rfl
  have f2 : (([116, 111, 114, 110] : List UInt8) == D.toList) = false := by rw [hD]; rfl
  have e3 : (D.toList == [99, 114, 97, 115, 104]) = false := by rw [hD]; rfl
  have f3 : (([99, 114, 97, 115, 104] : List UInt8) == D.toList) = false := by rw [hD]; rfl
  have e4 : (D.toList == [115, 116, 97, 114, 116]) = true := by rw [hD]; rfl
  have f4 : (([115, 116, 97, 114, 116] : List UInt8) == D.toList) = true := by rw [hD]; rfl
  clear hDe hD hw
  have m1 : s.toList.isEmpty = false := by rw [ByteArray.toList_eq]; cases hh : s.data.toList with | nil => exact absurd hh hne | cons _ _ => rfl
  have m2 : (s.toList == []) = false := by rw [ByteArray.toList_eq, beq_eq_false_iff_ne]; exact hne
  generalize pcs 32 s.data.toList = P at CP hP0 hPl
  have HP0 : Hid ((strs P)[0]? = _) := hP0
  have hPi : (0 : Int) < (P.length : Int) := by omega
  clear hP0 hs

  have HST : Hid (∀ W : World, Calls Tryz.prog 7 #[.agg #[.int .i64 4, .int .i64 0, .int .i64 0, .int .i64 0, .int .i64 0, .int .i64 0, .int .i64 0, .int .i64 0, .int .i64 0, .int .i64 0, .int .i64 0, .int .i64 0, .int .i64 0, .int .i64 0, .int .i64 0, .int .i64 0, .int .i64 0, .int .i64 0]] W fun e w' => e = .returned (.string ⟨(stL 4 cm0 0).toArray⟩) ∧ Below W.heap.size W w') := fun W => specStepText_c 4 cm0 0 W
  obtain ⟨y, hy, hyl⟩ : ∃ y : ByteArray, (⟨(stL 4 cm0 0).toArray⟩ : ByteArray) = y ∧ y.toList = stL 4 cm0 0 := ⟨_, rfl, by rw [ByteArray.toList_eq]⟩
  rw [hy] at HST
  clear hy
  have HRs : Hid (stRes s.data.toList 4 cm0 0 = if s.data.toList ≠ [] ∧ y.toList = s.toList then .tuple #[.agg #[.int .i64 4, .int .i64 0, .int .i64 0, .int .i64 0, .int .i64 0, .int .i64 0, .int .i64 0, .int .i64 0, .int .i64 0, .int .i64 0, .int .i64 0, .int .i64 0, .int .i64 0, .int .i64 0, .int .i64 0, .int .i64 0, .int .i64 0, .int .i64 0], .bool true] else .tuple #[.agg #[.int .i64 0, .int .i64 0, .int .i64 0, .int .i64 0, .int .i64 0, .int .i64 0, .int .i64 0, .int .i64 0, .int .i64 0, .int .i64 0, .int .i64 0, .int .i64 0, .int .i64 0, .int .i64 0, .int .i64 0, .int .i64 0, .int .i64 0, .int .i64 0], .bool false]) := by show _ = _; unfold stRes; rw [hyl, ByteArray.toList_eq]; try rfl
  clear hyl
  go_enter Tryz.func9, Tryz.ntmps9
  go_wp2_with fail
  have HR : Hid (Row (w.alloc (.cells #[.int .i64 0, .int .i64 0, .int .i64 0, .int .i64 0, .int .i64 0, .int .i64 0, .int .i64 0, .int .i64 0, .int .i64 0, .int .i64 0, .int .i64 0, .int .i64 0, .int .i64 0, .int .i64 0, .int .i64 0, .int .i64 0, .int .i64 0, .int .i64 0] 30)) w.heap.size [.int .i64 0, .int .i64 0, .int .i64 0, .int .i64 0, .int .i64 0, .int .i64 0, .int .i64 0, .int .i64 0, .int .i64 0, .int .i64 0, .int .i64 0, .int .i64 0, .int .i64 0, .int .i64 0, .int .i64 0, .int .i64 0, .int .i64 0, .int .i64 0]) := row_fresh w [.int .i64 0, .int .i64 0, .int .i64 0, .int .i64 0, .int .i64 0, .int .i64 0, .int .i64 0, .int .i64 0, .int .i64 0, .int .i64 0, .int .i64 0, .int .i64 0, .int .i64 0, .int .i64 0, .int .i64 0, .int .i64 0, .int .i64 0, .int .i64 0] 30
  have HB : Hid (Below w.heap.size w (w.alloc (.cells #[.int .i64 0, .int .i64 0, .int .i64 0, .int .i64 0, .int .i64 0, .int .i64 0, .int .i64 0, .int .i64 0, .int .i64 0, .int .i64 0, .int .i64 0, .int .i64 0, .int .i64 0, .int .i64 0, .int .i64 0, .int .i64 0, .int .i64 0, .int .i64 0] 30))) := low_alloc _ _
  generalize w.alloc (.cells #[.int .i64 0, .int .i64 0, .int .i64 0, .int .i64 0, .int .i64 0, .int .i64 0, .int .i64 0, .int .i64 0, .int .i64 0, .int .i64 0, .int .i64 0, .int .i64 0, .int .i64 0, .int .i64 0, .int .i64 0, .int .i64 0, .int .i64 0, .int .i64 0] 30) = u0 at HR HB ⊢
  refine (CP.out _).mono ?_
  rintro e w1 ⟨g, cap, rfl, _, hr, hb⟩
  replace HR : Hid (Row w1 w.heap.size [.int .i64 0, .int .i64 0, .int .i64 0, .int .i64 0, .int .i64 0, .int .i64 0, .int .i64 0, .int .i64 0, .int .i64 0, .int .i64 0, .int .i64 0, .int .i64 0, .int .i64 0, .int .i64 0, .int .i64 0, .int .i64 0, .int .i64 0, .int .i64 0]) := HR.out.below hb
  replace HB : Hid (Below w.heap.size w w1) := below_then HB.out hb
  have HP : Hid (Row w1 g (strs P)) := hr
  clear hr hb CP
  have s0 := HP.out.cell 0 _ HP0.out
  have hgl := HP.out.lt
  have hgn : g ≠ w1.heap.size := by omega
  have hq0 := HR.out.lt
  have hqr : ¬ w.heap.size = w1.heap.size := by omega
  go_wp2_with (refine stay_load 30 ?_)
  refine ⟨?_⟩
  have HJ : Hid (Row (w1.alloc (.cells #[.int .i64 4, .int .i64 0, .int .i64 0, .int .i64 0, .int .i64 0, .int .i64 0, .int .i64 0, .int .i64 0, .int .i64 0, .int .i64 0, .int .i64 0, .int .i64 0, .int .i64 0, .int .i64 0, .int .i64 0, .int .i64 0, .int .i64 0, .int .i64 0] 30)) w1.heap.size [.int .i64 4, .int .i64 0, .int .i64 0, .int .i64 0, .int .i64 0, .int .i64 0, .int .i64 0, .int .i64 0, .int .i64 0, .int .i64 0, .int .i64 0, .int .i64 0, .int .i64 0, .int .i64 0, .int .i64 0, .int .i64 0, .int .i64 0, .int .i64 0]) := row_fresh w1 [.int .i64 4, .int .i64 0, .int .i64 0, .int .i64 0, .int .i64 0, .int .i64 0, .int .i64 0, .int .i64 0, .int .i64 0, .int .i64 0, .int .i64 0, .int .i64 0, .int .i64 0, .int .i64 0, .int .i64 0, .int .i64 0, .int .i64 0, .int .i64 0] 30
  replace HR : Hid (Row (w1.alloc (.cells #[.int .i64 4, .int .i64 0, .int .i64 0, .int .i64 0, .int .i64 0, .int .i64 0, .int .i64 0, .int .i64 0, .int .i64 0, .int .i64 0, .int .i64 0, .int .i64 0, .int .i64 0, .int .i64 0, .int .i64 0, .int .i64 0, .int .i64 0, .int .i64 0] 30)) w.heap.size [.int .i64 0, .int .i64 0, .int .i64 0, .int .i64 0, .int .i64 0, .int .i64 0, .int .i64 0, .int .i64 0, .int .i64 0, .int .i64 0, .int .i64 0, .int .i64 0, .int .i64 0, .int .i64 0, .int .i64 0, .int .i64 0, .int .i64 0, .int .i64 0]) := HR.out.below (low_alloc _ _)
  replace HB : Hid (Below w.heap.size w (w1.alloc (.cells #[.int .i64 4, .int .i64 0, .int .i64 0, .int .i64 0, .int .i64 0, .int .i64 0, .int .i64 0, .int .i64 0, .int .i64 0, .int .i64 0, .int .i64 0, .int .i64 0, .int .i64 0, .int .i64 0, .int .i64 0, .int .i64 0, .int .i64 0, .int .i64 0] 30))) := behind_alloc HB.out _
  generalize w1.alloc (.cells #[.int .i64 4, .int .i64 0, .int .i64 0, .int .i64 0, .int .i64 0, .int .i64 0, .int .i64 0, .int .i64 0, .int .i64 0, .int .i64 0, .int .i64 0, .int .i64 0, .int .i64 0, .int .i64 0, .int .i64 0, .int .i64 0, .int .i64 0, .int .i64 0] 30) = u1 at HR HB HJ ⊢
  generalize w1.heap.size = q at *
  clear HP s0

  refine wpList_load_mid_w rfl 30 _ rfl q 0 rfl [.int .i64 4, .int .i64 0, .int .i64 0, .int .i64 0, .int .i64 0, .int .i64 0, .int .i64 0, .int .i64 0, .int .i64 0, .int .i64 0, .int .i64 0, .int .i64 0, .int .i64 0, .int .i64 0, .int .i64 0, .int .i64 0, .int .i64 0, .int .i64 0] _ HJ.out.all Tryz.underlying30 rfl szStep ?_
  go_wp2_with fail
  refine (HST.out _).mono ?_
  rintro e v1 ⟨rfl, hb⟩
  replace HR : Hid (Row v1 w.heap.size [.int .i64 0, .int .i64 0, .int .i64 0, .int .i64 0, .int .i64 0, .int .i64 0, .int .i64 0, .int .i64 0, .int .i64 0, .int .i64 0, .int .i64 0, .int .i64 0, .int .i64 0, .int .i64 0, .int .i64 0, .int .i64 0, .int .i64 0, .int .i64 0]) := HR.out.below hb
  replace HJ : Hid (Row v1 q [.int .i64 4, .int .i64 0, .int .i64 0, .int .i64 0, .int .i64 0, .int .i64 0, .int .i64 0, .int .i64 0, .int .i64 0, .int .i64 0, .int .i64 0, .int .i64 0, .int .i64 0, .int .i64 0, .int .i64 0, .int .i64 0, .int .i64 0, .int .i64 0]) := HJ.out.below hb
  replace HB : Hid (Below w.heap.size w v1) := below_then HB.out hb
  clear hb HST
  by_cases ht : y.toList = s.toList
  · have q1 : (y.toList == s.toList) = true := by rw [ht]; simp
    have q2 : (s.toList == y.toList) = true := by rw [ht]; simp
    rw [if_pos ⟨hne, ht⟩] at HRs
    clear ht
    go_wp2_with (refine stay_load 30 ?_)
    refine ⟨?_⟩
    refine wpList_load_mid rfl 30 _ rfl q 0 rfl [.int .i64 4, .int .i64 0, .int .i64 0, .int .i64 0, .int .i64 0, .int .i64 0, .int .i64 0, .int .i64 0, .int .i64 0, .int .i64 0, .int .i64 0, .int .i64 0, .int .i64 0, .int .i64 0, .int .i64 0, .int .i64 0, .int .i64 0, .int .i64 0] _ HJ.out.all Tryz.underlying30 rfl szStep ?_
    go_wp2_with (refine stay_store 30 ?_)
    refine ⟨?_⟩
    refine wpList_store_mid rfl 30 _ _ rfl w.heap.size 0 (#[.int .i64 4, .int .i64 0, .int .i64 0, .int .i64 0, .int .i64 0, .int .i64 0, .int .i64 0, .int .i64 0, .int .i64 0, .int .i64 0, .int .i64 0, .int .i64 0, .int .i64 0, .int .i64 0, .int .i64 0, .int .i64 0, .int .i64 0, .int .i64 0]) rfl rfl (HR.out.room 0 18 (by simp)) szStep (by simp [Value.oneCell']) ?_
    replace HR : Hid (Row (v1.setCells w.heap.size 0 (#[.int .i64 4, .int .i64 0, .int .i64 0, .int .i64 0, .int .i64 0, .int .i64 0, .int .i64 0, .int .i64 0, .int .i64 0, .int .i64 0, .int .i64 0, .int .i64 0, .int .i64 0, .int .i64 0, .int .i64 0, .int .i64 0, .int .i64 0, .int .i64 0] : Array Value).toList) w.heap.size [.int .i64 4, .int .i64 0, .int .i64 0, .int .i64 0, .int .i64 0, .int .i64 0, .int .i64 0, .int .i64 0, .int .i64 0, .int .i64 0, .int .i64 0, .int .i64 0, .int .i64 0, .int .i64 0, .int .i64 0, .int .i64 0, .int .i64 0, .int .i64 0]) := Row.setCs _ 0 HR.out (by simp)
    replace HB : Hid (Below w.heap.size w (v1.setCells w.heap.size 0 (#[.int .i64 4, .int .i64 0, .int .i64 0, .int .i64 0, .int .i64 0, .int .i64 0, .int .i64 0, .int .i64 0, .int .i64 0, .int .i64 0, .int .i64 0, .int .i64 0, .int .i64 0, .int .i64 0, .int .i64 0, .int .i64 0, .int .i64 0, .int .i64 0] : Array Value).toList)) := below_setCs (Nat.le_refl _) _ _ HB.out
    generalize v1.setCells w.heap.size 0 _ = u8 at HR HB ⊢
    clear HJ
    go_wp2_with fail
    have hv := run_loadVar_mid (P := Tryz.prog) u8 w.heap.size 0 30 [.int .i64 4, .int .i64 0, .int .i64 0, .int .i64 0, .int .i64 0, .int .i64 0, .int .i64 0, .int .i64 0, .int .i64 0, .int .i64 0, .int .i64 0, .int .i64 0, .int .i64 0, .int .i64 0, .int .i64 0, .int .i64 0, .int .i64 0, .int .i64 0] _ HR.out.all Tryz.underlying30 rfl szStep
    exact bodyPost_ret (results_mix Tryz.results9 rfl hv) rfl ⟨by rw [HRs.out]; rfl, HB.out⟩
  · have q1 : (y.toList == s.toList) = false := by rw [beq_eq_false_iff_ne]; exact ht
    have q2 : (s.toList == y.toList) = false := by rw [beq_eq_false_iff_ne]; exact fun e => ht e.symm
    rw [if_neg (fun t => ht t.2)] at HRs
    clear ht
    go_wp2_with (refine stay_store 30 ?_)
    refine ⟨?_⟩
    refine wpList_store_mid rfl 30 _ _ rfl w.heap.size 0 (#[.int .i64 0, .int .i64 0, .int .i64 0, .int .i64 0, .int .i64 0, .int .i64 0, .int .i64 0, .int .i64 0, .int .i64 0, .int .i64 0, .int .i64 0, .int .i64 0, .int .i64 0, .int .i64 0, .int .i64 0, .int .i64 0, .int .i64 0, .int .i64 0]) rfl rfl (HR.out.room 0 18 (by simp)) szStep (by simp [Value.oneCell']) ?_
    replace HR : Hid (Row (v1.setCells w.heap.size 0 (#[.int .i64 0, .int .i64 0, .int .i64 0, .int .i64 0, .int .i64 0, .int .i64 0, .int .i64 0, .int .i64 0, .int .i64 0, .int .i64 0, .int .i64 0, .int .i64 0, .int .i64 0, .int .i64 0, .int .i64 0, .int .i64 0, .int .i64 0, .int .i64 0] : Array Value).toList) w.heap.size [.int .i64 0, .int .i64 0, .int .i64 0, .int .i64 0, .int .i64 0, .int .i64 0, .int .i64 0, .int .i64 0, .int .i64 0, .int .i64 0, .int .i64 0, .int .i64 0, .int .i64 0, .int .i64 0, .int .i64 0, .int .i64 0, .int .i64 0, .int .i64 0]) := Row.setCs _ 0 HR.out (by simp)
    replace HB : Hid (Below w.heap.size w (v1.setCells w.heap.size 0 (#[.int .i64 0, .int .i64 0, .int .i64 0, .int .i64 0, .int .i64 0, .int .i64 0, .int .i64 0, .int .i64 0, .int .i64 0, .int .i64 0, .int .i64 0, .int .i64 0, .int .i64 0, .int .i64 0, .int .i64 0, .int .i64 0, .int .i64 0, .int .i64 0] : Array Value).toList)) := below_setCs (Nat.le_refl _) _ _ HB.out
    generalize v1.setCells w.heap.size 0 _ = u8 at HR HB ⊢
    clear HJ
    go_wp2_with fail
    have hv := run_loadVar_mid (P := Tryz.prog) u8 w.heap.size 0 30 [.int .i64 0, .int .i64 0, .int .i64 0, .int .i64 0, .int .i64 0, .int .i64 0, .int .i64 0, .int .i64 0, .int .i64 0, .int .i64 0, .int .i64 0, .int .i64 0, .int .i64 0, .int .i64 0, .int .i64 0, .int .i64 0, .int .i64 0, .int .i64 0] _ HR.out.all Tryz.underlying30 rfl szStep
    exact bodyPost_ret (results_mix Tryz.results9 rfl hv) rfl ⟨by rw [HRs.out]; rfl, HB.out⟩
set_option maxHeartbeats 4000000 in
set_option maxRecDepth 100000 in
theorem specTextStep_1b (s : ByteArray) (hs : s.size ≤ 1048576) (w : World) (hw : (Lib.cut s.data.toList [32]).1 = [100, 111]) (h3 : ¬ 3 < s.size) (hne : s.data.toList ≠ []) :
    Calls Tryz.prog 9 #[.string s] w fun e w' => e = .returned (stRes s.data.toList 1 cm0 0) ∧ Below w.heap.size w w' := by
  have CP : Hid (∀ W : World, Calls Tryz.prog 20 #[.string s, .int .u8 32] W fun e w' => ∃ g cap, e = .returned (.slice (some ⟨g, 0, none⟩) (pcs 32 s.data.toList).length cap) ∧ W.heap.size ≤ g ∧ Row w' g (strs (pcs 32 s.data.toList)) ∧ Below W.heap.size W w') := fun W => specParts_c s 32 hs W
  have hP0 : (strs (pcs 32 s.data.toList))[0]? = some (.string ⟨(Lib.cut s.data.toList [32]).1.toArray⟩) := by
    rw [strs_get]
    rcases pcs_cutS 32 s.data.toList with ⟨_, h2, _⟩ | ⟨_, h2, h3, _⟩
    · rw [h2]; rfl
    · rw [h2, h3]; rfl
  have hPl : 0 < (pcs 32 s.data.toList).length := List.length_pos_iff.2 (pcs_ne _ _)
  obtain ⟨D, hDe, hD⟩ : ∃ D : ByteArray, (⟨(Lib.cut s.data.toList [32]).1.toArray⟩ : ByteArray) = D ∧ D.toList = (Lib.cut s.data.toList [32]).1 := ⟨_, rfl, by rw [ByteArray.toList_eq]⟩
  rw [hDe] at hP0
  rw [hw] at hD
  have e1 : (D.toList == [100, 111]) = true := by rw [hD]; rfl
  have f1 : (([100, 111] : List UInt8) == D.toList) = true := by rw [hD]; rfl
  have e2 : (D.toList == [116, 111, 114, 110]) = false := by rw [hD]; rfl
  have f2 : (([116, 111, 114, 110] : List UInt8) == D.toList) = false := by rw [hD]; rfl
  have e3 : (D.toList == [99, 114, 97, 115, 104]) = false := by rw [hD]; rfl
  have f3 : (([99, 114, 97, 115, 104] : List UInt8) == D.toList) = false := by rw [hD]; rfl
  have e4 : (D.toList == [115, 116, 97, 114, 116]) = false := by rw [hD]; rfl
  have f4 : (([115, 116, 97, 114, 116] : List UInt8) == D.toList) = false := by rw [hD]; rfl
  clear hDe hD hw
  have h3i : ¬ (3 : Int) < (s.size : Int) := by omega
  have m1 : s.toList.isEmpty = false := by rw [ByteArray.toList_eq]; cases hh : s.data.toList with | nil => exact absurd hh hne | cons _ _ => rfl
  have m2 : (s.toList == []) = false := by rw [ByteArray.toList_eq, beq_eq_false_iff_ne]; exact hne
  generalize pcs 32 s.data.toList = P at CP hP0 hPl
  have HP0 : Hid ((strs P)[0]? = _) := hP0
  have hPi : (0 : Int) < (P.length : Int) := by omega
  clear hP0 hs

  have HST : Hid (∀ W : World, Calls Tryz.prog 7 #[.agg #[.int .i64 1, .int .i64 0, .int .i64 0, .int .i64 0, .int .i64 0, .int .i64 0, .int .i64 0, .int .i64 0, .int .i64 0, .int .i64 0, .int .i64 0, .int .i64 0, .int .i64 0, .int .i64 0, .int .i64 0, .int .i64 0, .int .i64 0, .int .i64 0]] W fun e w' => e = .returned (.string ⟨(stL 1 cm0 0).toArray⟩) ∧ Below W.heap.size W w') := fun W => specStepText_c 1 cm0 0 W
  obtain ⟨y, hy, hyl⟩ : ∃ y : ByteArray, (⟨(stL 1 cm0 0).toArray⟩ : ByteArray) = y ∧ y.toList = stL 1 cm0 0 := ⟨_, rfl, by rw [ByteArray.toList_eq]⟩
  rw [hy] at HST
  clear hy
  have HRs : Hid (stRes s.data.toList 1 cm0 0 = if s.data.toList ≠ [] ∧ y.toList = s.toList then .tuple #[.agg #[.int .i64 1, .int .i64 0, .int .i64 0, .int .i64 0, .int .i64 0, .int .i64 0, .int .i64 0, .int .i64 0, .int .i64 0, .int .i64 0, .int .i64 0, .int .i64 0, .int .i64 0, .int .i64 0, .int .i64 0, .int .i64 0, .int .i64 0, .int .i64 0], .bool true] else .tuple #[.agg #[.int .i64 0, .int .i64 0, .int .i64 0, .int .i64 0, .int .i64 0, .int .i64 0, .int .i64 0, .int .i64 0, .int .i64 0, .int .i64 0, .int .i64 0, .int .i64 0, .int .i64 0, .int .i64 0, .int .i64 0, .int .i64 0, .int .i64 0, .int .i64 0], .bool false]) := by show _ = _; unfold stRes; rw [hyl, ByteArray.toList_eq]; try rfl
  clear hyl
  go_enter Tryz.func9, Tryz.ntmps9
  go_wp2_with fail
  have HR : Hid (Row (w.alloc (.cells #[.int .i64 0, .int .i64 0, .int .i64 0, .int .i64 0, .int .i64 0, .int .i64 0, .int .i64 0, .int .i64 0, .int .i64 0, .int .i64 0, .int .i64 0, .int .i64 0, .int .i64 0, .int .i64 0, .int .i64 0, .int .i64 0, .int .i64 0, .int .i64 0] 30)) w.heap.size [.int .i64 0, .int .i64 0, .int .i64 0, .int .i64 0, .int .i64 0, .int .i64 0, .int .i64 0, .int .i64 0, .int .i64 0, .int .i64 0, .int .i64 0, .int .i64 0, .int .i64 0, .int .i64 0, .int .i64 0, .int .i64 0, .int .i64 0, .int .i64 0]) := row_fresh w [.int .i64 0, .int .i64 0, .int .i64 0, .int .i64 0, .int .i64 0, .int .i64 0, .int .i64 0, .int .i64 0, .int .i64 0, .int .i64 0, .int .i64 0, .int .i64 0, .int .i64 0, .int .i64 0, .int .i64 0, .int .i64 0, .int .i64 0, .int .i64 0] 30
  have HB : Hid (Below w.heap.size w (w.alloc (.cells #[.int .i64 0, .int .i64 0, .int .i64 0, .int .i64 0, .int .i64 0, .int .i64 0, .int .i64 0, .int .i64 0, .int .i64 0, .int .i64 0, .int .i64 0, .int .i64 0, .int .i64 0, .int .i64 0, .int .i64 0, .int .i64 0, .int .i64 0, .int .i64 0] 30))) := low_alloc _ _
  generalize w.alloc (.cells #[.int .i64 0, .int .i64 0, .int .i64 0, .int .i64 0, .int .i64 0, .int .i64 0, .int .i64 0, .int .i64 0, .int .i64 0, .int .i64 0, .int .i64 0, .int .i64 0, .int .i64 0, .int .i64 0, .int .i64 0, .int .i64 0, .int .i64 0, .int .i64 0] 30) = u0 at HR HB ⊢
  refine (CP.out _).mono ?_
  rintro e w1 ⟨g, cap, rfl, _, hr, hb⟩
  replace HR : Hid (Row w1 w.heap.size [.int .i64 0, .int .i64 0, .int .i64 0, .int .i64 0, .int .i64 0, .int .i64 0, .int .i64 0, .int .i64 0, .int .i64 0, .int .i64 0, .int .i64 0, .int .i64 0, .int .i64 0, .int .i64 0, .int .i64 0, .int .i64 0, .int .i64 0, .int .i64 0]) := HR.out.below hb
  replace HB : Hid (Below w.heap.size w w1) := below_then HB.out hb
  have HP : Hid (Row w1 g (strs P)) := hr
  clear hr hb CP
  have s0 := HP.out.cell 0 _ HP0.out
  have hgl := HP.out.lt
  have hgn : g ≠ w1.heap.size := by omega
  have hq0 := HR.out.lt
  have hqr : ¬ w.heap.size = w1.heap.size := by omega
  go_wp2_with (refine stay_load 30 ?_)
  refine ⟨?_⟩
  have HJ : Hid (Row (w1.alloc (.cells #[.int .i64 1, .int .i64 0, .int .i64 0, .int .i64 0, .int .i64 0, .int .i64 0, .int .i64 0, .int .i64 0, .int .i64 0, .int .i64 0, .int .i64 0, .int .i64 0, .int .i64 0, .int .i64 0, .int .i64 0, .int .i64 0, .int .i64 0, .int .i64 0] 30)) w1.heap.size [.int .i64 1, .int .i64 0, .int .i64 0, .int .i64 0, .int .i64 0, .int .i64 0, .int .i64 0, .int .i64 0, .int .i64 0, .int .i64 0, .int .i64 0, .int .i64 0, .int .i64 0, .int .i64 0, .int .i64 0, .int .i64 0, .int .i64 0, .int .i64 0]) := row_fresh w1 [.int .i64 1, .int .i64 0, .int .i64 0, .int .i64 0, .int .i64 0, .int .i64 0, .int .i64 0, .int .i64 0, .int .i64 0, .int .i64 0, .int .i64 0, .int .i64 0, .int .i64 0, .int .i64 0, .int .i64 0, .int .i64 0, .int .i64 0, .int .i64 0] 30
  replace HR : Hid (Row (w1.alloc (.cells #[.int .i64 1, .int .i64 0, .int .i64 0, .int .i64 0, .int .i64 0, .int .i64 0, .int .i64 0, .int .i64 0, .int .i64 0, .int .i64 0, .int .i64 0, .int .i64 0, .int .i64 0, .int .i64 0, .int .i64 0, .int .i64 0, .int .i64 0, .int .i64 0] 30)) w.heap.size [.int .i64 0, .int .i64 0, .int .i64 0, .int .i64 0, .int .i64 0, .int .i64 0, .int .i64 0, .int .i64 0, .int .i64 0, .int .i64 0, .int .i64 0, .int .i64 0, .int .i64 0, .int .i64 0, .int .i64 0, .int .i64 0, .int .i64 0, .int .i64 0]) := HR.out.below (low_alloc _ _)
  replace HB : Hid (Below w.heap.size w (w1.alloc (.cells #[.int .i64 1, .int .i64 0, .int .i64 0, .int .i64 0, .int .i64 0, .int .i64 0, .int .i64 0, .int .i64 0, .int .i64 0, .int .i64 0, .int .i64 0, .int .i64 0, .int .i64 0, .int .i64 0, .int .i64 0, .int .i64 0, .int .i64 0, .int .i64 0] 30))) := behind_alloc HB.out _
  generalize w1.alloc (.cells #[.int .i64 1, .int .i64 0, .int .i64 0, .int .i64 0, .int .i64 0, .int .i64 0, .int .i64 0, .int .i64 0, .int .i64 0, .int .i64 0, .int .i64 0, .int .i64 0, .int .i64 0, .int .i64 0, .int .i64 0, .int .i64 0, .int .i64 0, .int .i64 0] 30) = u1 at HR HB HJ ⊢
  generalize w1.heap.size = q at *
  clear HP s0

  refine wpList_load_mid_w rfl 30 _ rfl q 0 rfl [.int .i64 1, .int .i64 0, .int .i64 0, .int .i64 0, .int .i64 0, .int .i64 0, .int .i64 0, .int .i64 0, .int .i64 0, .int .i64 0, .int .i64 0, .int .i64 0, .int .i64 0, .int .i64 0, .int .i64 0, .int .i64 0, .int .i64 0, .int .i64 0] _ HJ.out.all Tryz.underlying30 rfl szStep ?_
  go_wp2_with fail
  refine (HST.out _).mono ?_
  rintro e v1 ⟨rfl, hb⟩
  replace HR : Hid (Row v1 w.heap.size [.int .i64 0, .int .i64 0, .int .i64 0, .int .i64 0, .int .i64 0, .int .i64 0, .int .i64 0, .int .i64 0, .int .i64 0, .int .i64 0, .int .i64 0, .int .i64 0, .int .i64 0, .int .i64 0, .int .i64 0, .int .i64 0, .int .i64 0, .int .i64 0]) := HR.out.below hb
  replace HJ : Hid (Row v1 q [.int .i64 1, .int .i64 0, .int .i64 0, .int .i64 0, .int .i64 0, .int .i64 0, .int .i64 0, .int .i64 0, .int .i64 0, .int .i64 0, .int .i64 0, .int .i64 0, .int .i64 0, .int .i64 0, .int .i64 0, .int .i64 0, .int .i64 0, .int .i64 0]) := HJ.out.below hb
  replace HB : Hid (Below w.heap.size w v1) := below_then HB.out hb
  clear hb HST
  by_cases ht : y.toList = s.toList
  · have q1 : (y.toList == s.toList) = true := by rw [ht]; simp
    have q2 : (s.toList == y.toList) = true := by rw [ht]; simp
    rw [if_pos ⟨hne, ht⟩] at HRs
    clear ht
    go_wp2_with (refine stay_load 30 ?_)
    refine ⟨?_⟩
    refine wpList_load_mid rfl 30 _ rfl q 0 rfl [.int .i64 1, .int .i64 0, .int .i64 0, .int .i64 0, .int .i64 0, .int .i64 0, .int .i64 0, .int .i64 0, .int .i64 0, .int .i64 0, .int .i64 0, .int .i64 0, .int .i64 0, .int .i64 0, .int .i64 0, .int .i64 0, .int .i64 0, .int .i64 0] _ HJ.out.all Tryz.underlying30 rfl szStep ?_
    go_wp2_with (refine stay_store 30 ?_)
    refine ⟨?_⟩
    refine wpList_store_mid rfl 30 _ _ rfl w.heap.size 0 (#[.int .i64 1, .int .i64 0, .int .i64 0, .int .i64 0, .int .i64 0, .int .i64 0, .int .i64 0, .int .i64 0, .int .i64 0, .int .i64 0, .int .i64 0, .int .i64 0, .int .i64 0, .int .i64 0, .int .i64 0, .int .i64 0, .int .i64 0, .int .i64 0]) rfl rfl (HR.out.room 0 18 (by simp)) szStep (by simp [Value.oneCell']) ?_
    replace HR : Hid (Row (v1.setCells w.heap.size 0 (#[.int .i64 1, .int .i64 0, .int .i64 0, .int .i64 0, .int .i64 0, .int .i64 0, .int .i64 0, .int .i64 0, .int .i64 0, .int .i64 0, .int .i64 0, .int .i64 0, .int .i64 0, .int .i64 0, .int .i64 0, .int .i64 0, .int .i64 0, .int .i64 0] : Array Value).toList) w.heap.size [.int .i64 1, .int .i64 0, .int .i64 0, .int .i64 0, .int .i64 0, .int .i64 0, .int .i64 0, .int .i64 0, .int .i64 0, .int .i64 0, .int .i64 0, .int .i64 0, .int .i64 0, .int .i64 0, .int .i64 0, .int .i64 0, .int .i64 0, .int .i64 0]) := Row.setCs _ 0 HR.out (by simp)
    replace HB : Hid (Below w.heap.size w (v1.setCells w.heap.size 0 (#[.int .i64 1, .int .i64 0, .int .i64 0, .int .i64 0, .int .i64 0, .int .i64 0, .int .i64 0, .int .i64 0, .int .i64 0, .int .i64 0, .int .i64 0, .int .i64 0, .int .i64 0, .int .i64 0, .int .i64 0, .int .i64 0, .int .i64 0, .int .i64 0] : Array Value).toList)) := below_setCs (Nat.le_refl _) _ _ HB.out
    generalize v1.setCells w.heap.size 0 _ = u8 at HR HB ⊢
    clear HJ
    go_wp2_with fail
    have hv := run_loadVar_mid (P := Tryz.prog) u8 w.heap.size 0 30 [.int .i64 1, .int .i64 0, .int .i64 0, .int .i64 0, .int .i64 0, .int .i64 0, .int .i64 0, .int .i64 0, .int .i64 0, .int .i64 0, .int .i64 0, .int .i64 0, .int .i64 0, .int .i64 0, .int .i64 0, .int .i64 0, .int .i64 0, .int .i64 0] _ HR.out.all Tryz.underlying30 rfl szStep
    exact bodyPost_ret (results_mix Tryz.results9 rfl hv) rfl ⟨by rw [HRs.out]; rfl, HB.out⟩
  · have q1 : (y.toList == s.toList) = false := by rw [beq_eq_false_iff_ne]; exact ht
    have q2 : (s.toList == y.toList) = false := by rw [beq_eq_false_iff_ne]; exact fun e => ht e.symm
    rw [if_neg (fun t => ht t.2)] at HRs
    clear ht
    go_wp2_with (refine stay_store 30 ?_)
    refine ⟨?_⟩
    refine wpList_store_mid rfl 30 _ _ rfl w.heap.size 0 (#[.int .i64 0, .int .i64 0, .int .i64 0, .int .i64 0, .int .i64 0, .int .i64 0, .int .i64 0, .int .i64 0, .int .i64 0, .int .i64 0, .int .i64 0, .int .i64 0, .int .i64 0, .int .i64 0, .int .i64 0, .int .i64 0, .int .i64 0, .int .i64 0]) rfl rfl (HR.out.room 0 18 (by simp)) szStep (by simp [Value.oneCell']) ?_
    replace HR : Hid (Row (v1.setCells w.heap.size 0 (#[.int .i64 0, .int .i64 0, .int .i64 0, .int .i64 0, .int .i64 0, .int .i64 0, .int .i64 0, .int .i64 0, .int .i64 0, .int .i64 0, .int .i64 0, .int .i64 0, .int .i64 0, .int .i64 0, .int .i64 0, .int .i64 0, .int .i64 0, .int .i64 0] : Array Value).toList) w.heap.size [.int .i64 0, .int .i64 0, .int .i64 0, .int .i64 0, .int .i64 0, .int .i64 0, .int .i64 0, .int .i64 0, .int .i64 0, .int .i64 0, .int .i64 0, .int .i64 0, .int .i64 0, .int .i64 0, .int .i64 0, .int .i64 0, .int .i64 0, .int .i64 0]) := Row.setCs _ 0 HR.out (by simp)
    replace HB : Hid (Below w.heap.size w (v1.setCells w.heap.size 0 (#[.int .i64 0, .int .i64 0, .int .i64 0, .int .i64 0, .int .i64 0, .int .i64 0, .int .i64 0, .int .i64 0, .int .i64 0, .int .i64 0, .int .i64 0, .int .i64 0, .int .i64 0, .int .i64 0, .int .i64 0, .int .i64 0, .int .i64 0, .int .i64 0] : Array Value).toList)) := below_setCs (Nat.le_refl _) _ _ HB.out
    generalize v1.setCells w.heap.size 0 _ = u8 at HR HB ⊢
    clear HJ
    go_wp2_with fail
    have hv := run_loadVar_mid (P := Tryz.prog) u8 w.heap.size 0 30 [.int .i64 0, .int .i64 0, .int .i64 0, .int .i64 0, .int .i64 0, .int .i64 0, .int .i64 0, .int .i64 0, .int .i64 0, .int .i64 0, .int .i64 0, .int .i64 0, .int .i64 0, .int .i64 0, .int .i64 0, .int .i64 0, .int .i64 0, .int .i64 0] _ HR.out.all Tryz.underlying30 rfl szStep
    exact bodyPost_ret (results_mix Tryz.results9 rfl hv) rfl ⟨by rw [HRs.out]; rfl, HB.out⟩
set_option maxHeartbeats 4000000 in
set_option maxRecDepth 100000 in
theorem specTextStep_2b (s : ByteArray) (hs : s.size ≤ 1048576) (w : World) (hw : (Lib.cut s.data.toList [32]).1 = [116, 111, 114, 110]) (h3 : ¬ 2 < (pcs 32 s.data.toList).length) (hne : s.data.toList ≠ []) :
    Calls Tryz.prog 9 #[.string s] w fun e w' => e = .returned (stRes s.data.toList 2 cm0 0) ∧ Below w.heap.size w w' := by
  have CP : Hid (∀ W : World, Calls Tryz.prog 20 #[.string s, .int .u8 32] W fun e w' => ∃ g cap, e = .returned (.slice (some ⟨g, 0, none⟩) (pcs 32 s.data.toList).length cap) ∧ W.heap.size ≤ g ∧ Row w' g (strs (pcs 32 s.data.toList)) ∧ Below W.heap.size W w') := fun W => specParts_c s 32 hs W
  have hP0 : (strs (pcs 32 s.data.toList))[0]? = some (.string ⟨(Lib.cut s.data.toList [32]).1.toArray⟩) := by
    rw [strs_get]
    rcases pcs_cutS 32 s.data.toList with ⟨_, h2, _⟩ | ⟨_, h2, h3, _⟩
    · rw [h2]; rfl
    · rw [h2, h3]; rfl
  have hPl : 0 < (pcs 32 s.data.toList).length := List.length_pos_iff.2 (pcs_ne _ _)
  obtain ⟨D, hDe, hD⟩ : ∃ D : ByteArray, (⟨(Lib.cut s.data.toList [32]).1.toArray⟩ : ByteArray) = D ∧ D.toList = (Lib.cut s.data.toList [32]).1 := ⟨_, rfl, by rw [ByteArray.toList_eq]⟩
  rw [hDe] at hP0
  rw [hw] at hD
  have e1 : (D.toList == [100, 111]) = false := by rw [hD]; rfl
  have f1 : (([100, 111] : List UInt8) == D.toList) = false := by rw [hD]; rfl
  have e2 : (D.toList == [116, 111, 114, 110]) = true := by rw [hD]; rfl
  have f2 : (([116, 111, 114, 110] : List UInt8) == D.toList) = true := by rw [hD]; rfl
  have e3 : (D.toList == [99, 114, 97, 115, 104]) = false := by rw [hD]; rfl
  have f3 : (([99, 114, 97, 115, 104] : List UInt8) == D.toList) = false := by rw [hD]; rfl
  have e4 : (D.toList == [115, 116, 97, 114, 116]) = false := by rw [hD]; rfl
  have f4 : (([115, 116, 97, 114, 116] : List UInt8) == D.toList) = false := by rw [hD]; rfl
  clear hDe hD hw
  have m1 : s.toList.isEmpty = false := by rw [ByteArray.toList_eq]; cases hh : s.data.toList with | nil => exact absurd hh hne | cons _ _ => rfl
  have m2 : (s.toList == []) = false := by rw [ByteArray.toList_eq, beq_eq_false_iff_ne]; exact hne
  generalize pcs 32 s.data.toList = P at CP hP0 hPl h3
  have h3i : ¬ (2 : Int) < (P.length : Int) := by omega
  have HP0 : Hid ((strs P)[0]? = _) := hP0
  have hPi : (0 : Int) < (P.length : Int) := by omega
  clear hP0 hs

  have HST : Hid (∀ W : World, Calls Tryz.prog 7 #[.agg #[.int .i64 2, .int .i64 0, .int .i64 0, .int .i64 0, .int .i64 0, .int .i64 0, .int .i64 0, .int .i64 0, .int .i64 0, .int .i64 0, .int .i64 0, .int .i64 0, .int .i64 0, .int .i64 0, .int .i64 0, .int .i64 0, .int .i64 0, .int .i64 0]] W fun e w' => e = .returned (.string ⟨(stL 2 cm0 0).toArray⟩) ∧ Below W.heap.size W w') := fun W => specStepText_c 2 cm0 0 W
  obtain ⟨y, hy, hyl⟩ : ∃ y : ByteArray, (⟨(stL 2 cm0 0).toArray⟩ : ByteArray) = y ∧ y.toList = stL 2 cm0 0 := ⟨_, rfl, by rw [ByteArray.toList_eq]⟩
  rw [hy] at HST
  clear hy
  have HRs : Hid (stRes s.data.toList 2 cm0 0 = if s.data.toList ≠ [] ∧ y.toList = s.toList then .tuple #[.agg #[.int .i64 2, .int .i64 0, .int .i64 0, .int .i64 0, .int .i64 0, .int .i64 0, .int .i64 0, .int .i64 0, .int .i64 0, .int .i64 0, .int .i64 0, .int .i64 0, .int .i64 0, .int .i64 0, .int .i64 0, .int .i64 0, .int .i64 0, .int .i64 0], .bool true] else .tuple #[.agg #[.int .i64 0, .int .i64 0, .int .i64 0, .int .i64 0, .int .i64 0, .int .i64 0, .int .i64 0, .int .i64 0, .int .i64 0, .int .i64 0, .int .i64 0, .int .i64 0, .int .i64 0, .int .i64 0, .int .i64 0, .int .i64 0, .int .i64 0, .int .i64 0], .bool false]) := by show _ = _; unfold stRes; rw [hyl, ByteArray.toList_eq]; try rfl
  clear hyl
  go_enter Tryz.func9, Tryz.ntmps9
  go_wp2_with fail
  have HR : Hid (Row (w.alloc (.cells #[.int .i64 0, .int .i64 0, .int .i64 0, .int .i64 0, .int .i64 0, .int .i64 0, .int .i64 0, .int .i64 0, .int .i64 0, .int .i64 0, .int .i64 0, .int .i64 0, .int .i64 0, .int .i64 0, .int .i64 0, .int .i64 0, .int .i64 0, .int .i64 0] 30)) w.heap.size [.int .i64 0, .int .i64 0, .int .i64 0, .int .i64 0, .int .i64 0, .int .i64 0, .int .i64 0, .int .i64 0, .int .i64 0, .int .i64 0, .int .i64 0, .int .i64 0, .int .i64 0, .int .i64 0, .int .i64 0, .int .i64 0, .int .i64 0, .int .i64 0]) := row_fresh w [.int .i64 0, .int .i64 0, .int .i64 0, .int .i64 0, .int .i64 0, .int .i64 0, .int .i64 0, .int .i64 0, .int .i64 0, .int .i64 0, .int .i64 0, .int .i64 0, .int .i64 0, .int .i64 0, .int .i64 0, .int .i64 0, .int .i64 0, .int .i64 0] 30
  have HB : Hid (Below w.heap.size w (w.alloc (.cells #[.int .i64 0, .int .i64 0, .int .i64 0, .int .i64 0, .int .i64 0, .int .i64 0, .int .i64 0, .int .i64 0, .int .i64 0, .int .i64 0, .int .i64 0, .int .i64 0, .int .i64 0, .int .i64 0, .int .i64 0, .int .i64 0, .int .i64 0, .int .i64 0] 30))) := low_alloc _ _
  generalize w.alloc (.cells #[.int .i64 0, .int .i64 0, .int .i64 0, .int .i64 0, .int .i64 0, .int .i64 0, .int .i64 0, .int .i64 0, .int .i64 0, .int .i64 0, .int .i64 0, .int .i64 0, .int .i64 0, .int .i64 0, .int .i64 0, .int .i64 0, .int .i64 0, .int .i64 0] 30) = u0 at HR HB ⊢
  refine (CP.out _).mono ?_
  rintro e w1 ⟨g, cap, rfl, _, hr, hb⟩
  replace HR : Hid (Row w1 w.heap.size [.int .i64 0, .int .i64 0, .int .i64 0, .int .i64 0, .int .i64 0, .int .i64 0, .int .i64 0, .int .i64 0, .int .i64 0, .int .i64 0, .int .i64 0, .int .i64 0, .int .i64 0, .int .i64 0, .int .i64 0, .int .i64 0, .int .i64 0, .int .i64 0]) := HR.out.below hb
  replace HB : Hid (Below w.heap.size w w1) := below_then HB.out hb
  have HP : Hid (Row w1 g (strs P)) := hr
  clear hr hb CP
  have s0 := HP.out.cell 0 _ HP0.out
  have hgl := HP.out.lt
  have hgn : g ≠ w1.heap.size := by omega
  have hq0 := HR.out.lt
  have hqr : ¬ w.heap.size = w1.heap.size := by omega
  go_wp2_with (refine stay_load 30 ?_)
  refine ⟨?_⟩
  have HJ : Hid (Row (w1.alloc (.cells #[.int .i64 2, .int .i64 0, .int .i64 0, .int .i64 0, .int .i64 0, .int .i64 0, .int .i64 0, .int .i64 0, .int .i64 0, .int .i64 0, .int .i64 0, .int .i64 0, .int .i64 0, .int .i64 0, .int .i64 0, .int .i64 0, .int .i64 0, .int .i64 0] 30)) w1.heap.size [.int .i64 2, .int .i64 0, .int .i64 0, .int .i64 0, .int .i64 0, .int .i64 0, .int .i64 0, .int .i64 0, .int .i64 0, .int .i64 0, .int .i64 0, .int .i64 0, .int .i64 0, .int .i64 0, .int .i64 0, .int .i64 0, .int .i64 0, .int .i64 0]) := row_fresh w1 [.int .i64 2, .int .i64 0, .int .i64 0, .int .i64 0, .int .i64 0, .int .i64 0, .int .i64 0, .int .i64 0, .int .i64 0, .int .i64 0, .int .i64 0, .int .i64 0, .int .i64 0, .int .i64 0, .int .i64 0, .int .i64 0, .int .i64 0, .int .i64 0] 30
  replace HR : Hid (Row (w1.alloc (.cells #[.int .i64 2, .int .i64 0, .int .i64 0, .int .i64 0, .int .i64 0, .int .i64 0, .int .i64 0, .int .i64 0, .int .i64 0, .int .i64 0, .int .i64 0, .int .i64 0, .int .i64 0, .int .i64 0, .int .i64 0, .int .i64 0, .int .i64 0, .int .i64 0] 30)) w.heap.size [.int .i64 0, .int .i64 0, .int .i64 0, .int .i64 0, .int .i64 0, .int .i64 0, .int .i64 0, .int .i64 0, .int .i64 0, .int .i64 0, .int .i64 0, .int .i64 0, .int .i64 0, .int .i64 0, .int .i64 0, .int .i64 0, .int .i64 0, .int .i64 0]) := HR.out.below (low_alloc _ _)
  replace HB : Hid (Below w.heap.size w (w1.alloc (.cells #[.int .i64 2, .int .i64 0, .int .i64 0, .int .i64 0, .int .i64 0, .int .i64 0, .int .i64 0, .int .i64 0, .int .i64 0, .int .i64 0, .int .i64 0, .int .i64 0, .int .i64 0, .int .i64 0, .int .i64 0, .int .i64 0, .int .i64 0, .int .i64 0] 30))) := behind_alloc HB.out _
  generalize w1.alloc (.cells #[.int .i64 2, .int .i64 0, .int .i64 0, .int .i64 0, .int .i64 0, .int .i64 0, .int .i64 0, .int .i64 0, .int .i64 0, .int .i64 0, .int .i64 0, .int .i64 0, .int .i64 0, .int .i64 0, .int .i64 0, .int .i64 0, .int .i64 0, .int .i64 0] 30) = u1 at HR HB HJ ⊢
  generalize w1.heap.size = q at *
  clear HP s0

  refine wpList_load_mid_w rfl 30 _ rfl q 0 rfl [.int .i64 2, .int .i64 0, .int .i64 0, .int .i64 0, .int .i64 0, .int .i64 0, .int .i64 0, .int .i64 0, .int .i64 0, .int .i64 0, .int .i64 0, .int .i64 0, .int .i64 0, .int .i64 0, .int .i64 0, .int .i64 0, .int .i64 0, .int .i64 0] _ HJ.out.all Tryz.underlying30 rfl szStep ?_
  go_wp2_with fail
  refine (HST.out _).mono ?_
  rintro e v1 ⟨rfl, hb⟩
  replace HR : Hid (Row v1 w.heap.size [.int .i64 0, .int .i64 0, .int .i64 0, .int .i64 0, .int .i64 0, .int .i64 0, .int .i64 0, .int .i64 0, .int .i64 0, .int .i64 0, .int .i64 0, .int .i64 0, .int .i64 0, .int .i64 0, .int .i64 0, .int .i64 0, .int .i64 0, .int .i64 0]) := HR.out.below hb
  replace HJ : Hid (Row v1 q [.int .i64 2, .int .i64 0, .int .i64 0, .int .i64 0, .int .i64 0, .int .i64 0, .int .i64 0, .int .i64 0, .int .i64 0, .int .i64 0, .int .i64 0, .int .i64 0, .int .i64 0, .int .i64 0, .int .i64 0, .int .i64 0, .int .i64 0, .int .i64 0]) := HJ.out.below hb
  replace HB : Hid (Below w.heap.size w v1) := below_then HB.out hb
  clear hb HST
  by_cases ht : y.toList = s.toList
  · have q1 : (y.toList == s.toList) = true := by rw [ht]; simp
    have q2 : (s.toList == y.toList) = true := by rw [ht]; simp
    rw [if_pos ⟨hne, ht⟩] at HRs
    clear ht
    go_wp2_with (refine stay_load 30 ?_)
    refine ⟨?_⟩
    refine wpList_load_mid rfl 30 _ rfl q 0 rfl [.int .i64 2, .int .i64 0, .int .i64 0, .int .i64 0, .int .i64 0, .int .i64 0, .int .i64 0, .int .i64 0, .int .i64 0, .int .i64 0, .int .i64 0, .int .i64 0, .int .i64 0, .int .i64 0, .int .i64 0, .int .i64 0, .int .i64 0, .int .i64 0] _ HJ.out.all Tryz.underlying30 rfl szStep ?_
    go_wp2_with (refine stay_store 30 ?_)
    refine ⟨?_⟩
    refine wpList_store_mid rfl 30 _ _ rfl w.heap.size 0 (#[.int .i64 2, .int .i64 0, .int .i64 0, .int .i64 0, .int .i64 0, .int .i64 0, .int .i64 0, .int .i64 0, .int .i64 0, .int .i64 0, .int .i64 0, .int .i64 0, .int .i64 0, .int .i64 0, .int .i64 0, .int .i64 0, .int .i64 0, .int .i64 0]) rfl rfl (HR.out.room 0 18 (by simp)) szStep (by simp [Value.oneCell']) ?_
    replace HR : Hid (Row (v1.setCells w.heap.size 0 (#[.int .i64 2, .int .i64 0, .int .i64 0, .int .i64 0, .int .i64 0, .int .i64 0, .int .i64 0, .int .i64 0, .int .i64 0, .int .i64 0, .int .i64 0, .int .i64 0, .int .i64 0, .int .i64 0, .int .i64 0, .int .i64 0, .int .i64 0, .int .i64 0] : Array Value).toList) w.heap.size [.int .i64 2, .int .i64 0, .int .i64 0, .int .i64 0, .int .i64 0, .int .i64 0, .int .i64 0, .int .i64 0, .int .i64 0, .int .i64 0, .int .i64 0, .int .i64 0, .int .i64 0, .int .i64 0, .int .i64 0, .int .i64 0, .int .i64 0, .int .i64 0]) := Row.setCs _ 0 HR.out (by simp)
    replace HB : Hid (Below w.heap.size w (v1.setCells w.heap.size 0 (#[.int .i64 2, .int .i64 0, .int .i64 0, .int .i64 0, .int .i64 0, .int .i64 0, .int .i64 0, .int .i64 0, .int .i64 0, .int .i64 0, .int .i64 0, .int .i64 0, .int .i64 0, .int .i64 0, .int .i64 0, .int .i64 0, .int .i64 0, .int .i64 0] : Array Value).toList)) := below_setCs (Nat.le_refl _) _ _ HB.out
    generalize v1.setCells w.heap.size 0 _ = u8 at HR HB ⊢
    clear HJ
    go_wp2_with fail
    have hv := run_loadVar_mid (P := Tryz.prog) u8 w.heap.size 0 30 [.int .i64 2, .int .i64 0, .int .i64 0, .int .i64 0, .int .i64 0, .int .i64 0, .int .i64 0, .int .i64 0, .int .i64 0, .int .i64 0, .int .i64 0, .int .i64 0, .int .i64 0, .int .i64 0, .int .i64 0, .int .i64 0, .int .i64 0, .int .i64 0] _ HR.out.all Tryz.underlying30 rfl szStep
    exact bodyPost_ret (results_mix Tryz.results9 rfl hv) rfl ⟨by rw [HRs.out]; rfl, HB.out⟩
  · have q1 : (y.toList == s.toList) = false := by rw [beq_eq_false_iff_ne]; exact ht
    have q2 : (s.toList == y.toList) = false := by rw [beq_eq_false_iff_ne]; exact fun e => ht e.symm
    rw [if_neg (fun t => ht t.2)] at HRs
    clear ht
    go_wp2_with (refine stay_store 30 ?_)
    refine ⟨?_⟩
    refine wpList_store_mid rfl 30 _ _ rfl w.heap.size 0 (#[.int .i64 0, .int .i64 0, .int .i64 0, .int .i64 0, .int .i64 0, .int .i64 0, .int .i64 0, .int .i64 0, .int .i64 0, .int .i64 0, .int .i64 0, .int .i64 0, .int .i64 0, .int .i64 0, .int .i64 0, .int .i64 0, .int .i64 0, .int .i64 0]) rfl rfl (HR.out.room 0 18 (by simp)) szStep (by simp [Value.oneCell']) ?_
    replace HR : Hid (Row (v1.setCells w.heap.size 0 (#[.int .i64 0, .int .i64 0, .int .i64 0, .int .i64 0, .int .i64 0, .int .i64 0, .int .i64 0, .int .i64 0, .int .i64 0, .int .i64 0, .int .i64 0, .int .i64 0, .int .i64 0, .int .i64 0, .int .i64 0, .int .i64 0, .int .i64 0, .int .i64 0] : Array Value).toList) w.heap.size [.int .i64 0, .int .i64 0, .int .i64 0, .int .i64 0, .int .i64 0, .int .i64 0, .int .i64 0, .int .i64 0, .int .i64 0, .int .i64 0, .int .i64 0, .int .i64 0, .int .i64 0, .int .i64 0, .int .i64 0, .int .i64 0, .int .i64 0, .int .i64 0]) := Row.setCs _ 0 HR.out (by simp)
    replace HB : Hid (Below w.heap.size w (v1.setCells w.heap.size 0 (#[.int .i64 0, .int .i64 0, .int .i64 0, .int .i64 0, .int .i64 0, .int .i64 0, .int .i64 0, .int .i64 0, .int .i64 0, .int .i64 0, .int .i64 0, .int .i64 0, .int .i64 0, .int .i64 0, .int .i64 0, .int .i64 0, .int .i64 0, .int .i64 0] : Array Value).toList)) := below_setCs (Nat.le_refl _) _ _ HB.out
    generalize v1.setCells w.heap.size 0 _ = u8 at HR HB ⊢
    clear HJ
    go_wp2_with fail
    have hv := run_loadVar_mid (P := Tryz.prog) u8 w.heap.size 0 30 [.int .i64 0, .int .i64 0, .int .i64 0, .int .i64 0, .int .i64 0, .int .i64 0, .int .i64 0, .int .i64 0, .int .i64 0, .int .i64 0, .int .i64 0, .int .i64 0, .int .i64 0, .int .i64 0, .int .i64 0, .int .i64 0, .int .i64 0, .int .i64 0] _ HR.out.all Tryz.underlying30 rfl szStep
    exact bodyPost_ret (results_mix Tryz.results9 rfl hv) rfl ⟨by rw [HRs.out]; rfl, HB.out⟩
set_option maxHeartbeats 4000000 in
set_option maxRecDepth 100000 in
theorem specTextStep_0 (s : ByteArray) (hs : s.size ≤ 1048576) (w : World) (n1 : (Lib.cut s.data.toList [32]).1 ≠ [100, 111]) (n2 : (Lib.cut s.data.toList [32]).1 ≠ [116, 111, 114, 110]) (n3 : (Lib.cut s.data.toList [32]).1 ≠ [99, 114, 97, 115, 104]) (n4 : (Lib.cut s.data.toList [32]).1 ≠ [115, 116, 97, 114, 116]) (hne : s.data.toList ≠ []) :
    Calls Tryz.prog 9 #[.string s] w fun e w' => e = .returned (stRes s.data.toList 0 cm0 0) ∧ Below w.heap.size w w' := by
  have CP : Hid (∀ W : World, Calls Tryz.prog 20 #[.string s, .int .u8 32] W fun e w' => ∃ g cap, e = .returned (.slice (some ⟨g, 0, none⟩) (pcs 32 s.data.toList).length cap) ∧ W.heap.size ≤ g ∧ Row w' g (strs (pcs 32 s.data.toList)) ∧ Below W.heap.size W w') := fun W => specParts_c s 32 hs W
  have hP0 : (strs (pcs 32 s.data.toList))[0]? = some (.string ⟨(Lib.cut s.data.toList [32]).1.toArray⟩) := by
    rw [strs_get]
    rcases pcs_cutS 32 s.data.toList with ⟨_, h2, _⟩ | ⟨_, h2, h3, _⟩
    · rw [h2]; rfl
    · rw [h2, h3]; rfl
  have hPl : 0 < (pcs 32 s.data.toList).length := List.length_pos_iff.2 (pcs_ne _ _)
  obtain ⟨D, hDe, hD⟩ : ∃ D : ByteArray, (⟨(Lib.cut s.data.toList [32]).1.toArray⟩ : ByteArray) = D ∧ D.toList = (Lib.cut s.data.toList [32]).1 := ⟨_, rfl, by rw [ByteArray.toList_eq]⟩
  rw [hDe] at hP0
  have e1 : (D.toList == [100, 111]) = false := by rw [beq_eq_false_iff_ne, hD]; exact n1
  have f1 : (([100, 111] : List UInt8) == D.toList) = false := by rw [beq_eq_false_iff_ne, hD]; exact fun e => n1 e.symm
  have e2 : (D.toList == [116, 111, 114, 110]) = false := by rw [beq_eq_false_iff_ne, hD]; exact n2
  have f2 : (([116, 111, 114, 110] : List UInt8) == D.toList) = false := by rw [beq_eq_false_iff_ne, hD]; exact fun e => n2 e.symm
  have e3 : (D.toList == [99, 114, 97, 115, 104]) = false := by rw [beq_eq_false_iff_ne, hD]; exact n3
  have f3 : (([99, 114, 97, 115, 104] : List UInt8) == D.toList) = false := by rw [beq_eq_false_iff_ne, hD]; exact fun e => n3 e.symm
  have e4 : (D.toList == [115, 116, 97, 114, 116]) = false := by rw [beq_eq_false_iff_ne, hD]; exact n4
  have f4 : (([115, 116, 97, 114, 116] : List UInt8) == D.toList) = false := by rw [beq_eq_false_iff_ne, hD]; exact fun e => n4 e.symm
  clear hDe hD n1 n2 n3 n4
  have m1 : s.toList.isEmpty = false := by rw [ByteArray.toList_eq]; cases hh : s.data.toList with | nil => exact absurd hh hne | cons _ _ => rfl
  have m2 : (s.toList == []) = false := by rw [ByteArray.toList_eq, beq_eq_false_iff_ne]; exact hne
  generalize pcs 32 s.data.toList = P at CP hP0 hPl
  have HP0 : Hid ((strs P)[0]? = _) := hP0
  have hPi : (0 : Int) < (P.length : Int) := by omega
  clear hP0 hs

  have HST : Hid (∀ W : World, Calls Tryz.prog 7 #[.agg #[.int .i64 0, .int .i64 0, .int .i64 0, .int .i64 0, .int .i64 0, .int .i64 0, .int .i64 0, .int .i64 0, .int .i64 0, .int .i64 0, .int .i64 0, .int .i64 0, .int .i64 0, .int .i64 0, .int .i64 0, .int .i64 0, .int .i64 0, .int .i64 0]] W fun e w' => e = .returned (.string ⟨(stL 0 cm0 0).toArray⟩) ∧ Below W.heap.size W w') := fun W => specStepText_c 0 cm0 0 W
  obtain ⟨y, hy, hyl⟩ : ∃ y : ByteArray, (⟨(stL 0 cm0 0).toArray⟩ : ByteArray) = y ∧ y.toList = stL 0 cm0 0 := ⟨_, rfl, by rw [ByteArray.toList_eq]⟩
  rw [hy] at HST
  clear hy
  have HRs : Hid (stRes s.data.toList 0 cm0 0 = if s.data.toList ≠ [] ∧ y.toList = s.toList then .tuple #[.agg #[.int .i64 0, .int .i64 0, .int .i64 0, .int .i64 0, .int .i64 0, .int .i64 0, .int .i64 0, .int .i64 0, .int .i64 0, .int .i64 0, .int .i64 0, .int .i64 0, .int .i64 0, .int .i64 0, .int .i64 0, .int .i64 0, .int .i64 0, .int .i64 0], .bool true] else .tuple #[.agg #[.int .i64 0, .int .i64 0, .int .i64 0, .int .i64 0, .int .i64 0, .int .i64 0, .int .i64 0, .int .i64 0, .int .i64 0, .int .i64 0, .int .i64 0, .int .i64 0, .int .i64 0, .int .i64 0, .int .i64 0, .int .i64 0, .int .i64 0, .int .i64 0], .bool false]) := by show _ = _; unfold stRes; rw [hyl, ByteArray.toList_eq]; try rfl
  clear hyl
  go_enter Tryz.func9, Tryz.ntmps9
  go_wp2_with fail
  have HR : Hid (Row (w.alloc (.cells #[.int .i64 0, .int .i64 0, .int .i64 0, .int .i64 0, .int .i64 0, .int .i64 0, .int .i64 0, .int .i64 0, .int .i64 0, .int .i64 0, .int .i64 0, .int .i64 0, .int .i64 0, .int .i64 0, .int .i64 0, .int .i64 0, .int .i64 0, .int .i64 0] 30)) w.heap.size [.int .i64 0, .int .i64 0, .int .i64 0, .int .i64 0, .int .i64 0, .int .i64 0, .int .i64 0, .int .i64 0, .int .i64 0, .int .i64 0, .int .i64 0, .int .i64 0, .int .i64 0, .int .i64 0, .int .i64 0, .int .i64 0, .int .i64 0, .int .i64 0]) := row_fresh w [.int .i64 0, .int .i64 0, .int .i64 0, .int .i64 0, .int .i64 0, .int .i64 0, .int .i64 0, .int .i64 0, .int .i64 0, .int .i64 0, .int .i64 0, .int .i64 0, .int .i64 0, .int .i64 0, .int .i64 0, .int .i64 0, .int .i64 0, .int .i64 0] 30
  have HB : Hid (Below w.heap.size w (w.alloc (.cells #[.int .i64 0, .int .i64 0, .int .i64 0, .int .i64 0, .int .i64 0, .int .i64 0, .int .i64 0, .int .i64 0, .int .i64 0, .int .i64 0, .int .i64 0, .int .i64 0, .int .i64 0, .int .i64 0, .int .i64 0, .int .i64 0, .int .i64 0, .int .i64 0] 30))) := low_alloc _ _
  generalize w.alloc (.cells #[.int .i64 0, .int .i64 0, .int .i64 0, .int .i64 0, .int .i64 0, .int .i64 0, .int .i64 0, .int .i64 0, .int .i64 0, .int .i64 0, .int .i64 0, .int .i64 0, .int .i64 0, .int .i64 0, .int .i64 0, .int .i64 0, .int .i64 0, .int .i64 0] 30) = u0 at HR HB ⊢
  refine (CP.out _).mono ?_
  rintro e w1 ⟨g, cap, rfl, _, hr, hb⟩
  replace HR : Hid (Row w1 w.heap.size [.int .i64 0, .int .i64 0, .int .i64 0, .int .i64 0, .int .i64 0, .int .i64 0, .int .i64 0, .int .i64 0, .int .i64 0, .int .i64 0, .int .i64 0, .int .i64 0, .int .i64 0, .int .i64 0, .int .i64 0, .int .i64 0, .int .i64 0, .int .i64 0]) := HR.out.below hb
  replace HB : Hid (Below w.heap.size w w1) := below_then HB.out hb
  have HP : Hid (Row w1 g (strs P)) := hr
  clear hr hb CP
  have s0 := HP.out.cell 0 _ HP0.out
  have hgl := HP.out.lt
  have hgn : g ≠ w1.heap.size := by omega
  have hq0 := HR.out.lt
  have hqr : ¬ w.heap.size = w1.heap.size := by omega
  go_wp2_with (refine stay_load 30 ?_)
  refine ⟨?_⟩
  have HJ : Hid (Row (w1.alloc (.cells #[.int .i64 0, .int .i64 0, .int .i64 0, .int .i64 0, .int .i64 0, .int .i64 0, .int .i64 0, .int .i64 0, .int .i64 0, .int .i64 0, .int .i64 0, .int .i64 0, .int .i64 0, .int .i64 0, .int .i64 0, .int .i64 0, .int .i64 0, .int .i64 0] 30)) w1.heap.size [.int .i64 0, .int .i64 0, .int .i64 0, .int .i64 0, .int .i64 0, .int .i64 0, .int .i64 0, .int .i64 0, .int .i64 0, .int .i64 0, .int .i64 0, .int .i64 0, .int .i64 0, .int .i64 0, .int .i64 0, .int .i64 0, .int .i64 0, .int .i64 0]) := row_fresh w1 [.int .i64 0, .int .i64 0, .int .i64 0, .int .i64 0, .int .i64 0, .int .i64 0, .int .i64 0, .int .i64 0, .int .i64 0, .int .i64 0, .int .i64 0, .int .i64 0, .int .i64 0, .int .i64 0, .int .i64 0, .int .i64 0, .int .i64 0, .int .i64 0] 30
  replace HR : Hid (Row (w1.alloc (.cells #[.int .i64 0, .int .i64 0, .int .i64 0, .int .i64 0, .int .i64 0, .int .i64 0, .int .i64 0, .int .i64 0, .int .i64 0, .int .i64 0, .int .i64 0, .int .i64 0, .int .i64 0, .int .i64 0, .int .i64 0, .int .i64 0, .int .i64 0, .int .i64 0] 30)) w.heap.size [.int .i64 0, .int .i64 0, .int .i64 0, .int .i64 0, .int .i64 0, .int .i64 0, .int .i64 0, .int .i64 0, .int .i64 0, .int .i64 0, .int .i64 0, .int .i64 0, .int .i64 0, .int .i64 0, .int .i64 0, .int .i64 0, .int .i64 0, .int .i64 0]) := HR.out.below (low_alloc _ _)
  replace HB : Hid (Below w.heap.size w (w1.alloc (.cells #[.int .i64 0, .int .i64 0, .int .i64 0, .int .i64 0, .int .i64 0, .int .i64 0, .int .i64 0, .int .i64 0, .int .i64 0, .int .i64 0, .int .i64 0, .int .i64 0, .int .i64 0, .int .i64 0, .int .i64 0, .int .i64 0, .int .i64 0, .int .i64 0] 30))) := behind_alloc HB.out _
  generalize w1.alloc (.cells #[.int .i64 0, .int .i64 0, .int .i64 0, .int .i64 0, .int .i64 0, .int .i64 0, .int .i64 0, .int .i64 0, .int .i64 0, .int .i64 0, .int .i64 0, .int .i64 0, .int .i64 0, .int .i64 0, .int .i64 0, .int .i64 0, .int .i64 0, .int .i64 0] 30) = u1 at HR HB HJ ⊢
  generalize w1.heap.size = q at *
  clear HP s0

  refine wpList_load_mid_w rfl 30 _ rfl q 0 rfl [.int .i64 0, .int .i64 0, .int .i64 0, .int .i64 0, .int .i64 0, .int .i64 0, .int .i64 0, .int .i64 0, .int .i64 0, .int .i64 0, .int .i64 0, .int .i64 0, .int .i64 0, .int .i64 0, .int .i64 0, .int .i64 0, .int .i64 0, .int .i64 0] _ HJ.out.all Tryz.underlying30 rfl szStep ?_
  go_wp2_with fail
  refine (HST.out _).mono ?_
  rintro e v1 ⟨rfl, hb⟩
  replace HR : Hid (Row v1 w.heap.size [.int .i64 0, .int .i64 0, .int .i64 0, .int .i64 0, .int .i64 0, .int .i64 0, .int .i64 0, .int .i64 0, .int .i64 0, .int .i64 0, .int .i64 0, .int .i64 0, .int .i64 0, .int .i64 0, .int .i64 0, .int .i64 0, .int .i64 0, .int .i64 0]) := HR.out.below hb
  replace HJ : Hid (Row v1 q [.int .i64 0, .int .i64 0, .int .i64 0, .int .i64 0, .int .i64 0, .int .i64 0, .int .i64 0, .int .i64 0, .int .i64 0, .int .i64 0, .int .i64 0, .int .i64 0, .int .i64 0, .int .i64 0, .int .i64 0, .int .i64 0, .int .i64 0, .int .i64 0]) := HJ.out.below hb
  replace HB : Hid (Below w.heap.size w v1) := below_then HB.out hb
  clear hb HST
  by_cases ht : y.toList = s.toList
  · have q1 : (y.toList == s.toList) = true := by rw [ht]; simp
    have q2 : (s.toList == y.toList) = true := by rw [ht]; simp
    rw [if_pos ⟨hne, ht⟩] at HRs
    clear ht
    go_wp2_with (refine stay_load 30 ?_)
    refine ⟨?_⟩
    refine wpList_load_mid rfl 30 _ rfl q 0 rfl [.int .i64 0, .int .i64 0, .int .i64 0, .int .i64 0, .int .i64 0, .int .i64 0, .int .i64 0, .int .i64 0, .int .i64 0, .int .i64 0, .int .i64 0, .int .i64 0, .int .i64 0, .int .i64 0, .int .i64 0, .int .i64 0, .int .i64 0, .int .i64 0] _ HJ.out.all Tryz.underlying30 rfl szStep ?_
    go_wp2_with (refine stay_store 30 ?_)
    refine ⟨?_⟩
    refine wpList_store_mid rfl 30 _ _ rfl w.heap.size 0 (#[.int .i64 0, .int .i64 0, .int .i64 0, .int .i64 0, .int .i64 0, .int .i64 0, .int .i64 0, .int .i64 0, .int .i64 0, .int .i64 0, .int .i64 0, .int .i64 0, .int .i64 0, .int .i64 0, .int .i64 0, .int .i64 0, .int .i64 0, .int .i64 0]) rfl rfl (HR.out.room 0 18 (by simp)) szStep (by simp [Value.oneCell']) ?_
    replace HR : Hid (Row (v1.setCells w.heap.size 0 (#[.int .i64 0, .int .i64 0, .int .i64 0, .int .i64 0, .int .i64 0, .int .i64 0, .int .i64 0, .int .i64 0, .int .i64 0, .int .i64 0, .int .i64 0, .int .i64 0, .int .i64 0, .int .i64 0, .int .i64 0, .int .i64 0, .int .i64 0, .int .i64 0] : Array Value).toList) w.heap.size [.int .i64 0, .int .i64 0, .int .i64 0, .int .i64 0, .int .i64 0, .int .i64 0, .int .i64 0, .int .i64 0, .int .i64 0, .int .i64 0, .int .i64 0, .int .i64 0, .int .i64 0, .int .i64 0, .int .i64 0, .int .i64 0, .int .i64 0, .int .i64 0]) := Row.setCs _ 0 HR.out (by simp)
    replace HB : Hid (Below w.heap.size w (v1.setCells w.heap.size 0 (#[.int .i64 0, .int .i64 0, .int .i64 0, .int .i64 0, .int .i64 0, .int .i64 0, .int .i64 0, .int .i64 0, .int .i64 0, .int .i64 0, .int .i64 0, .int .i64 0, .int .i64 0, .int .i64 0, .int .i64 0, .int .i64 0, .int .i64 0, .int .i64 0] : Array Value).toList)) := below_setCs (Nat.le_refl _) _ _ HB.out
    generalize v1.setCells w.heap.size 0 _ = u8 at HR HB ⊢
    clear HJ
    go_wp2_with fail
    have hv := run_loadVar_mid (P := Tryz.prog) u8 w.heap.size 0 30 [.int .i64 0, .int .i64 0, .int .i64 0, .int .i64 0, .int .i64 0, .int .i64 0, .int .i64 0, .int .i64 0, .int .i64 0, .int .i64 0, .int .i64 0, .int .i64 0, .int .i64 0, .int .i64 0, .int .i64 0, .int .i64 0, .int .i64 0, .int .i64 0] _ HR.out.all Tryz.underlying30 rfl szStep
    exact bodyPost_ret (results_mix Tryz.results9 rfl hv) rfl ⟨by rw [HRs.out]; rfl, HB.out⟩
  · have q1 : (y.toList == s.toList) = false := by rw [beq_eq_false_iff_ne]; exact ht
    have q2 : (s.toList == y.toList) = false := by rw [beq_eq_false_iff_ne]; exact fun e => ht e.symm
    rw [if_neg (fun t => ht t.2)] at HRs
    clear ht
    go_wp2_with (refine stay_store 30 ?_)
    refine ⟨?_⟩
    refine wpList_store_mid rfl 30 _ _ rfl w.heap.size 0 (#[.int .i64 0, .int .i64 0, .int .i64 0, .int .i64 0, .int .i64 0, .int .i64 0, .int .i64 0, .int .i64 0, .int .i64 0, .int .i64 0, .int .i64 0, .int .i64 0, .int .i64 0, .int .i64 0, .int .i64 0, .int .i64 0, .int .i64 0, .int .i64 0]) rfl rfl (HR.out.room 0 18 (by simp)) szStep (by simp [Value.oneCell']) ?_
    replace HR : Hid (Row (v1.setCells w.heap.size 0 (#[.int .i64 0, .int .i64 0, .int .i64 0, .int .i64 0, .int .i64 0, .int .i64 0, .int .i64 0, .int .i64 0, .int .i64 0, .int .i64 0, .int .i64 0, .int .i64 0, .int .i64 0, .int .i64 0, .int .i64 0, .int .i64 0, .int .i64 0, .int .i64 0] : Array Value).toList) w.heap.size [.int .i64 0, .int .i64 0, .int .i64 0, .int .i64 0, .int .i64 0, .int .i64 0, .int .i64 0, .int .i64 0, .int .i64 0, .int .i64 0, .int .i64 0, .int .i64 0, .int .i64 0, .int .i64 0, .int .i64 0, .int .i64 0, .int .i64 0, .int .i64 0]) := Row.setCs _ 0 HR.out (by simp)
    replace HB : Hid (Below w.heap.size w (v1.setCells w.heap.size 0 (#[.int .i64 0, .int .i64 0, .int .i64 0, .int .i64 0, .int .i64 0, .int .i64 0, .int .i64 0, .int .i64 0, .int .i64 0, .int .i64 0, .int .i64 0, .int .i64 0, .int .i64 0, .int .i64 0, .int .i64 0, .int .i64 0, .int .i64 0, .int .i64 0] : Array Value).toList)) := below_setCs (Nat.le_refl _) _ _ HB.out
    generalize v1.setCells w.heap.size 0 _ = u8 at HR HB ⊢
    clear HJ
    go_wp2_with fail
    have hv := run_loadVar_mid (P := Tryz.prog) u8 w.heap.size 0 30 [.int .i64 0, .int .i64 0, .int .i64 0, .int .i64 0, .int .i64 0, .int .i64 0, .int .i64 0, .int .i64 0, .int .i64 0, .int .i64 0, .int .i64 0, .int .i64 0, .int .i64 0, .int .i64 0, .int .i64 0, .int .i64 0, .int .i64 0, .int .i64 0] _ HR.out.all Tryz.underlying30 rfl szStep
    exact bodyPost_ret (results_mix Tryz.results9 rfl hv) rfl ⟨by rw [HRs.out]; rfl, HB.out⟩
theorem drop_of (s : ByteArray) (k : Nat) : (s.extract k s.size).data.toList = s.data.toList.drop k := by
  rw [extract_list, List.take_of_length_le (by rw [sz_list]; exact Nat.le_refl _)]
set_option maxHeartbeats 4000000 in
set_option maxRecDepth 100000 in
theorem specTextStep_1a (s : ByteArray) (hs : s.size ≤ 1048576) (w : World) (hw : (Lib.cut s.data.toList [32]).1 = [100, 111]) (h3 : 3 < s.size) (hne : s.data.toList ≠ []) (x : Cm) (hx : (tcR (Lib.cut s.data.toList [32]).2.1).1 = x) :
    Calls Tryz.prog 9 #[.string s] w fun e w' => e = .returned (stRes s.data.toList 1 x 0) ∧ Below w.heap.size w w' := by
  have CP : Hid (∀ W : World, Calls Tryz.prog 20 #[.string s, .int .u8 32] W fun e w' => ∃ g cap, e = .returned (.slice (some ⟨g, 0, none⟩) (pcs 32 s.data.toList).length cap) ∧ W.heap.size ≤ g ∧ Row w' g (strs (pcs 32 s.data.toList)) ∧ Below W.heap.size W w') := fun W => specParts_c s 32 hs W
  have hP0 : (strs (pcs 32 s.data.toList))[0]? = some (.string ⟨(Lib.cut s.data.toList [32]).1.toArray⟩) := by
    rw [strs_get]
    rcases pcs_cutS 32 s.data.toList with ⟨_, h2, _⟩ | ⟨_, h2, h3, _⟩
    · rw [h2]; rfl
    · rw [h2, h3]; rfl
  have hPl : 0 < (pcs 32 s.data.toList).length := List.length_pos_iff.2 (pcs_ne _ _)
  obtain ⟨D, hDe, hD⟩ : ∃ D : ByteArray, (⟨(Lib.cut s.data.toList [32]).1.toArray⟩ : ByteArray) = D ∧ D.toList = (Lib.cut s.data.toList [32]).1 := ⟨_, rfl, by rw [ByteArray.toList_eq]⟩
  rw [hDe] at hP0
  have h3i : (3 : Int) < (s.size : Int) := by omega
  obtain ⟨Y, hsl, hYl⟩ : ∃ Y : ByteArray, (∀ W : World, (Instr.slice 9 (.string s) (some (.int .i64 3)) none none).run Tryz.prog W = .ok (.string Y) W) ∧ Y.data.toList = (Lib.cut s.data.toList [32]).2.1 := by
    refine ⟨s.extract (3 : Int).toNat s.size, fun W => run_slice_string_l W 9 s Tryz.underlying9 .i64 3 (by omega) (by omega), ?_⟩
    rw [drop_of]
    have e3 : (3 : Int).toNat = 3 := rfl
    rw [e3]
    rcases pcs_cutS 32 s.data.toList with ⟨_, _, h⟩ | ⟨_, _, h, _⟩
    · rw [hw] at h
      have h' := congrArg (List.drop 3) h
      exact h'
    · exfalso
      rw [hw] at h
      have h4 := sz_list s
      rw [← h] at h4
      simp at h4
      omega
  have hYs : Y.size ≤ 1048576 := by
    have : Y.size = Y.data.toList.length := (sz_list Y).symm
    rw [this, hYl]
    have h1 := (cut_lenH 32 s.data.toList).2
    skip
    have h3 := sz_list s
    omega
  have hct := fun W => specTextCmd_c Y hYs W
  rw [hYl] at hct
  simp only [hx] at hct
  generalize (tcR (Lib.cut s.data.toList [32]).2.1).2 = cb at hct
  have HCT : Hid (∀ W : World, Calls Tryz.prog 21 #[.string Y] W fun e w' => e = .returned (.tuple #[.agg #[.int .i64 x.s, .int .i64 x.j.id, .int .i64 x.j.pr, .int .i64 x.j.nd, .int .i64 x.j.na, .int .i64 x.j.nb, .int .i64 x.j.nc, .int .i64 x.j.la, .int .i64 x.j.lb, .int .i64 x.j.lc, .int .i64 x.j.wl, .int .i64 x.j.lv, .int .i64 x.n, .int .i64 x.a, .int .i64 x.b, .int .i64 x.c], .bool cb]) ∧ Below W.heap.size W w') := hct
  clear hct hYl hYs
  rw [hw] at hD
  have e1 : (D.toList == [100, 111]) = true := by rw [hD]; rfl
  have f1 : (([100, 111] : List UInt8) == D.toList) = true := by rw [hD]; rfl
  have e2 : (D.toList == [116, 111, 114, 110]) = false := by rw [hD]; rfl
  have f2 : (([116, 111, 114, 110] : List UInt8) == D.toList) = false := by rw [hD]; rfl
  have e3 : (D.toList == [99, 114, 97, 115, 104]) = false := by rw [hD]; rfl
  have f3 : (([99, 114, 97, 115, 104] : List UInt8) == D.toList) = false := by rw [hD]; rfl
  have e4 : (D.toList == [115, 116, 97, 114, 116]) = false := by rw [hD]; rfl
  have f4 : (([115, 116, 97, 114, 116] : List UInt8) == D.toList) = false := by rw [hD]; rfl
  clear hDe hD hw hx h3
  have m1 : s.toList.isEmpty = false := by rw [ByteArray.toList_eq]; cases hh : s.data.toList with | nil => exact absurd hh hne | cons _ _ => rfl
  have m2 : (s.toList == []) = false := by rw [ByteArray.toList_eq, beq_eq_false_iff_ne]; exact hne
  generalize pcs 32 s.data.toList = P at CP hP0 hPl
  have HP0 : Hid ((strs P)[0]? = _) := hP0
  have hPi : (0 : Int) < (P.length : Int) := by omega
  clear hP0 hs

  have HST : Hid (∀ W : World, Calls Tryz.prog 7 #[.agg #[.int .i64 1, .int .i64 x.s, .int .i64 x.j.id, .int .i64 x.j.pr, .int .i64 x.j.nd, .int .i64 x.j.na, .int .i64 x.j.nb, .int .i64 x.j.nc, .int .i64 x.j.la, .int .i64 x.j.lb, .int .i64 x.j.lc, .int .i64 x.j.wl, .int .i64 x.j.lv, .int .i64 x.n, .int .i64 x.a, .int .i64 x.b, .int .i64 x.c, .int .i64 0]] W fun e w' => e = .returned (.string ⟨(stL 1 x 0).toArray⟩) ∧ Below W.heap.size W w') := fun W => specStepText_c 1 x 0 W
  obtain ⟨y, hy, hyl⟩ : ∃ y : ByteArray, (⟨(stL 1 x 0).toArray⟩ : ByteArray) = y ∧ y.toList = stL 1 x 0 := ⟨_, rfl, by rw [ByteArray.toList_eq]⟩
  rw [hy] at HST
  clear hy
  have HRs : Hid (stRes s.data.toList 1 x 0 = if s.data.toList ≠ [] ∧ y.toList = s.toList then .tuple #[.agg #[.int .i64 1, .int .i64 x.s, .int .i64 x.j.id, .int .i64 x.j.pr, .int .i64 x.j.nd, .int .i64 x.j.na, .int .i64 x.j.nb, .int .i64 x.j.nc, .int .i64 x.j.la, .int .i64 x.j.lb, .int .i64 x.j.lc, .int .i64 x.j.wl, .int .i64 x.j.lv, .int .i64 x.n, .int .i64 x.a, .int .i64 x.b, .int .i64 x.c, .int .i64 0], .bool true] else .tuple #[.agg #[.int .i64 0, .int .i64 0, .int .i64 0, .int .i64 0, .int .i64 0, .int .i64 0, .int .i64 0, .int .i64 0, .int .i64 0, .int .i64 0, .int .i64 0, .int .i64 0, .int .i64 0, .int .i64 0, .int .i64 0, .int .i64 0, .int .i64 0, .int .i64 0], .bool false]) := by show _ = _; unfold stRes; rw [hyl, ByteArray.toList_eq]; try rfl
  clear hyl
  go_enter Tryz.func9, Tryz.ntmps9
  go_wp2_with fail
  have HR : Hid (Row (w.alloc (.cells #[.int .i64 0, .int .i64 0, .int .i64 0, .int .i64 0, .int .i64 0, .int .i64 0, .int .i64 0, .int .i64 0, .int .i64 0, .int .i64 0, .int .i64 0, .int .i64 0, .int .i64 0, .int .i64 0, .int .i64 0, .int .i64 0, .int .i64 0, .int .i64 0] 30)) w.heap.size [.int .i64 0, .int .i64 0, .int .i64 0, .int .i64 0, .int .i64 0, .int .i64 0, .int .i64 0, .int .i64 0, .int .i64 0, .int .i64 0, .int .i64 0, .int .i64 0, .int .i64 0, .int .i64 0, .int .i64 0, .int .i64 0, .int .i64 0, .int .i64 0]) := row_fresh w [.int .i64 0, .int .i64 0, .int .i64 0, .int .i64 0, .int .i64 0, .int .i64 0, .int .i64 0, .int .i64 0, .int .i64 0, .int .i64 0, .int .i64 0, .int .i64 0, .int .i64 0, .int .i64 0, .int .i64 0, .int .i64 0, .int .i64 0, .int .i64 0] 30
  have HB : Hid (Below w.heap.size w (w.alloc (.cells #[.int .i64 0, .int .i64 0, .int .i64 0, .int .i64 0, .int .i64 0, .int .i64 0, .int .i64 0, .int .i64 0, .int .i64 0, .int .i64 0, .int .i64 0, .int .i64 0, .int .i64 0, .int .i64 0, .int .i64 0, .int .i64 0, .int .i64 0, .int .i64 0] 30))) := low_alloc _ _
  generalize w.alloc (.cells #[.int .i64 0, .int .i64 0, .int .i64 0, .int .i64 0, .int .i64 0, .int .i64 0, .int .i64 0, .int .i64 0, .int .i64 0, .int .i64 0, .int .i64 0, .int .i64 0, .int .i64 0, .int .i64 0, .int .i64 0, .int .i64 0, .int .i64 0, .int .i64 0] 30) = u0 at HR HB ⊢
  refine (CP.out _).mono ?_
  rintro e w1 ⟨g, cap, rfl, _, hr, hb⟩
  replace HR : Hid (Row w1 w.heap.size [.int .i64 0, .int .i64 0, .int .i64 0, .int .i64 0, .int .i64 0, .int .i64 0, .int .i64 0, .int .i64 0, .int .i64 0, .int .i64 0, .int .i64 0, .int .i64 0, .int .i64 0, .int .i64 0, .int .i64 0, .int .i64 0, .int .i64 0, .int .i64 0]) := HR.out.below hb
  replace HB : Hid (Below w.heap.size w w1) := below_then HB.out hb
  have HP : Hid (Row w1 g (strs P)) := hr
  clear hr hb CP
  have s0 := HP.out.cell 0 _ HP0.out
  have hgl := HP.out.lt
  have hgn : g ≠ w1.heap.size := by omega
  have hq0 := HR.out.lt
  have hqr : ¬ w.heap.size = w1.heap.size := by omega
  go_wp2_with fail
  have HJ : Hid (Row (w1.alloc (.cells #[.int .i64 1, .int .i64 0, .int .i64 0, .int .i64 0, .int .i64 0, .int .i64 0, .int .i64 0, .int .i64 0, .int .i64 0, .int .i64 0, .int .i64 0, .int .i64 0, .int .i64 0, .int .i64 0, .int .i64 0, .int .i64 0, .int .i64 0, .int .i64 0] 30)) w1.heap.size [.int .i64 1, .int .i64 0, .int .i64 0, .int .i64 0, .int .i64 0, .int .i64 0, .int .i64 0, .int .i64 0, .int .i64 0, .int .i64 0, .int .i64 0, .int .i64 0, .int .i64 0, .int .i64 0, .int .i64 0, .int .i64 0, .int .i64 0, .int .i64 0]) := row_fresh w1 [.int .i64 1, .int .i64 0, .int .i64 0, .int .i64 0, .int .i64 0, .int .i64 0, .int .i64 0, .int .i64 0, .int .i64 0, .int .i64 0, .int .i64 0, .int .i64 0, .int .i64 0, .int .i64 0, .int .i64 0, .int .i64 0, .int .i64 0, .int .i64 0] 30
  replace HR : Hid (Row (w1.alloc (.cells #[.int .i64 1, .int .i64 0, .int .i64 0, .int .i64 0, .int .i64 0, .int .i64 0, .int .i64 0, .int .i64 0, .int .i64 0, .int .i64 0, .int .i64 0, .int .i64 0, .int .i64 0, .int .i64 0, .int .i64 0, .int .i64 0, .int .i64 0, .int .i64 0] 30)) w.heap.size [.int .i64 0, .int .i64 0, .int .i64 0, .int .i64 0, .int .i64 0, .int .i64 0, .int .i64 0, .int .i64 0, .int .i64 0, .int .i64 0, .int .i64 0, .int .i64 0, .int .i64 0, .int .i64 0, .int .i64 0, .int .i64 0, .int .i64 0, .int .i64 0]) := HR.out.below (low_alloc _ _)
  replace HB : Hid (Below w.heap.size w (w1.alloc (.cells #[.int .i64 1, .int .i64 0, .int .i64 0, .int .i64 0, .int .i64 0, .int .i64 0, .int .i64 0, .int .i64 0, .int .i64 0, .int .i64 0, .int .i64 0, .int .i64 0, .int .i64 0, .int .i64 0, .int .i64 0, .int .i64 0, .int .i64 0, .int .i64 0] 30))) := behind_alloc HB.out _
  generalize w1.alloc (.cells #[.int .i64 1, .int .i64 0, .int .i64 0, .int .i64 0, .int .i64 0, .int .i64 0, .int .i64 0, .int .i64 0, .int .i64 0, .int .i64 0, .int .i64 0, .int .i64 0, .int .i64 0, .int .i64 0, .int .i64 0, .int .i64 0, .int .i64 0, .int .i64 0] 30) = u1 at HR HB HJ ⊢
  generalize w1.heap.size = q at *
  clear HP s0
  refine (HCT.out _).mono ?_
  rintro e w2 ⟨rfl, hb⟩
  replace HR : Hid (Row w2 w.heap.size [.int .i64 0, .int .i64 0, .int .i64 0, .int .i64 0, .int .i64 0, .int .i64 0, .int .i64 0, .int .i64 0, .int .i64 0, .int .i64 0, .int .i64 0, .int .i64 0, .int .i64 0, .int .i64 0, .int .i64 0, .int .i64 0, .int .i64 0, .int .i64 0]) := HR.out.below hb
  replace HJ : Hid (Row w2 q [.int .i64 1, .int .i64 0, .int .i64 0, .int .i64 0, .int .i64 0, .int .i64 0, .int .i64 0, .int .i64 0, .int .i64 0, .int .i64 0, .int .i64 0, .int .i64 0, .int .i64 0, .int .i64 0, .int .i64 0, .int .i64 0, .int .i64 0, .int .i64 0]) := HJ.out.below hb
  replace HB : Hid (Below w.heap.size w w2) := below_then HB.out hb
  clear hb HCT
  go_wp2_with (refine stay_store 28 ?_)
  refine ⟨?_⟩
  refine wpList_store_mid rfl 28 _ _ rfl q 1 (#[.int .i64 x.s, .int .i64 x.j.id, .int .i64 x.j.pr, .int .i64 x.j.nd, .int .i64 x.j.na, .int .i64 x.j.nb, .int .i64 x.j.nc, .int .i64 x.j.la, .int .i64 x.j.lb, .int .i64 x.j.lc, .int .i64 x.j.wl, .int .i64 x.j.lv, .int .i64 x.n, .int .i64 x.a, .int .i64 x.b, .int .i64 x.c]) rfl rfl (HJ.out.room 1 16 (by simp)) szCmdC (by simp [Value.oneCell']) ?_
  replace HJ : Hid (Row (w2.setCells q 1 (#[.int .i64 x.s, .int .i64 x.j.id, .int .i64 x.j.pr, .int .i64 x.j.nd, .int .i64 x.j.na, .int .i64 x.j.nb, .int .i64 x.j.nc, .int .i64 x.j.la, .int .i64 x.j.lb, .int .i64 x.j.lc, .int .i64 x.j.wl, .int .i64 x.j.lv, .int .i64 x.n, .int .i64 x.a, .int .i64 x.b, .int .i64 x.c] : Array Value).toList) q [.int .i64 1, .int .i64 x.s, .int .i64 x.j.id, .int .i64 x.j.pr, .int .i64 x.j.nd, .int .i64 x.j.na, .int .i64 x.j.nb, .int .i64 x.j.nc, .int .i64 x.j.la, .int .i64 x.j.lb, .int .i64 x.j.lc, .int .i64 x.j.wl, .int .i64 x.j.lv, .int .i64 x.n, .int .i64 x.a, .int .i64 x.b, .int .i64 x.c, .int .i64 0]) := Row.setCs _ 1 HJ.out (by simp)
  replace HR : Hid (Row (w2.setCells q 1 (#[.int .i64 x.s, .int .i64 x.j.id, .int .i64 x.j.pr, .int .i64 x.j.nd, .int .i64 x.j.na, .int .i64 x.j.nb, .int .i64 x.j.nc, .int .i64 x.j.la, .int .i64 x.j.lb, .int .i64 x.j.lc, .int .i64 x.j.wl, .int .i64 x.j.lv, .int .i64 x.n, .int .i64 x.a, .int .i64 x.b, .int .i64 x.c] : Array Value).toList) w.heap.size [.int .i64 0, .int .i64 0, .int .i64 0, .int .i64 0, .int .i64 0, .int .i64 0, .int .i64 0, .int .i64 0, .int .i64 0, .int .i64 0, .int .i64 0, .int .i64 0, .int .i64 0, .int .i64 0, .int .i64 0, .int .i64 0, .int .i64 0, .int .i64 0]) := HR.out.apartCs hqr _ 1
  replace HB : Hid (Below w.heap.size w (w2.setCells q 1 (#[.int .i64 x.s, .int .i64 x.j.id, .int .i64 x.j.pr, .int .i64 x.j.nd, .int .i64 x.j.na, .int .i64 x.j.nb, .int .i64 x.j.nc, .int .i64 x.j.la, .int .i64 x.j.lb, .int .i64 x.j.lc, .int .i64 x.j.wl, .int .i64 x.j.lv, .int .i64 x.n, .int .i64 x.a, .int .i64 x.b, .int .i64 x.c] : Array Value).toList)) := below_setCs (by omega) _ _ HB.out
  generalize w2.setCells q 1 _ = u2 at HR HB HJ ⊢

  go_wp2_with (refine stay_load 30 ?_)
  refine ⟨?_⟩
  refine wpList_load_mid_w rfl 30 _ rfl q 0 rfl [.int .i64 1, .int .i64 x.s, .int .i64 x.j.id, .int .i64 x.j.pr, .int .i64 x.j.nd, .int .i64 x.j.na, .int .i64 x.j.nb, .int .i64 x.j.nc, .int .i64 x.j.la, .int .i64 x.j.lb, .int .i64 x.j.lc, .int .i64 x.j.wl, .int .i64 x.j.lv, .int .i64 x.n, .int .i64 x.a, .int .i64 x.b, .int .i64 x.c, .int .i64 0] _ HJ.out.all Tryz.underlying30 rfl szStep ?_
  go_wp2_with fail
  refine (HST.out _).mono ?_
  rintro e v1 ⟨rfl, hb⟩
  replace HR : Hid (Row v1 w.heap.size [.int .i64 0, .int .i64 0, .int .i64 0, .int .i64 0, .int .i64 0, .int .i64 0, .int .i64 0, .int .i64 0, .int .i64 0, .int .i64 0, .int .i64 0, .int .i64 0, .int .i64 0, .int .i64 0, .int .i64 0, .int .i64 0, .int .i64 0, .int .i64 0]) := HR.out.below hb
  replace HJ : Hid (Row v1 q [.int .i64 1, .int .i64 x.s, .int .i64 x.j.id, .int .i64 x.j.pr, .int .i64 x.j.nd, .int .i64 x.j.na, .int .i64 x.j.nb, .int .i64 x.j.nc, .int .i64 x.j.la, .int .i64 x.j.lb, .int .i64 x.j.lc, .int .i64 x.j.wl, .int .i64 x.j.lv, .int .i64 x.n, .int .i64 x.a, .int .i64 x.b, .int .i64 x.c, .int .i64 0]) := HJ.out.below hb
  replace HB : Hid (Below w.heap.size w v1) := below_then HB.out hb
  clear hb HST
  by_cases ht : y.toList = s.toList
  · have q1 : (y.toList == s.toList) = true := by rw [ht]; simp
    have q2 : (s.toList == y.toList) = true := by rw [ht]; simp
    rw [if_pos ⟨hne, ht⟩] at HRs
    clear ht
    go_wp2_with (refine stay_load 30 ?_)
    refine ⟨?_⟩
    refine wpList_load_mid rfl 30 _ rfl q 0 rfl [.int .i64 1, .int .i64 x.s, .int .i64 x.j.id, .int .i64 x.j.pr, .int .i64 x.j.nd, .int .i64 x.j.na, .int .i64 x.j.nb, .int .i64 x.j.nc, .int .i64 x.j.la, .int .i64 x.j.lb, .int .i64 x.j.lc, .int .i64 x.j.wl, .int .i64 x.j.lv, .int .i64 x.n, .int .i64 x.a, .int .i64 x.b, .int .i64 x.c, .int .i64 0] _ HJ.out.all Tryz.underlying30 rfl szStep ?_
    go_wp2_with (refine stay_store 30 ?_)
    refine ⟨?_⟩
    refine wpList_store_mid rfl 30 _ _ rfl w.heap.size 0 (#[.int .i64 1, .int .i64 x.s, .int .i64 x.j.id, .int .i64 x.j.pr, .int .i64 x.j.nd, .int .i64 x.j.na, .int .i64 x.j.nb, .int .i64 x.j.nc, .int .i64 x.j.la, .int .i64 x.j.lb, .int .i64 x.j.lc, .int .i64 x.j.wl, .int .i64 x.j.lv, .int .i64 x.n, .int .i64 x.a, .int .i64 x.b, .int .i64 x.c, .int .i64 0]) rfl rfl (HR.out.room 0 18 (by simp)) szStep (by simp [Value.oneCell']) ?_
    replace HR : Hid (Row (v1.setCells w.heap.size 0 (#[.int .i64 1, .int .i64 x.s, .int .i64 x.j.id, .int .i64 x.j.pr, .int .i64 x.j.nd, .int .i64 x.j.na, .int .i64 x.j.nb, .int .i64 x.j.nc, .int .i64 x.j.la, .int .i64 x.j.lb, .int .i64 x.j.lc, .int .i64 x.j.wl, .int .i64 x.j.lv, .int .i64 x.n, .int .i64 x.a, .int .i64 x.b, .int .i64 x.c, .int .i64 0] : Array Value).toList) w.heap.size [.int .i64 1, .int .i64 x.s, .int .i64 x.j.id, .int .i64 x.j.pr, .int .i64 x.j.nd, .int .i64 x.j.na, .int .i64 x.j.nb, .int .i64 x.j.nc, .int .i64 x.j.la, .int .i64 x.j.lb, .int .i64 x.j.lc, .int .i64 x.j.wl, .int .i64 x.j.lv, .int .i64 x.n, .int .i64 x.a, .int .i64 x.b, .int .i64 x.c, .int .i64 0]) := Row.setCs _ 0 HR.out (by simp)
    replace HB : Hid (Below w.heap.size w (v1.setCells w.heap.size 0 (#[.int .i64 1, .int .i64 x.s, .int .i64 x.j.id, .int .i64 x.j.pr, .int .i64 x.j.nd, .int .i64 x.j.na, .int .i64 x.j.nb, .int .i64 x.j.nc, .int .i64 x.j.la, .int .i64 x.j.lb, .int .i64 x.j.lc, .int .i64 x.j.wl, .int .i64 x.j.lv, .int .i64 x.n, .int .i64 x.a, .int .i64 x.b, .int .i64 x.c, .int .i64 0] : Array Value).toList)) := below_setCs (Nat.le_refl _) _ _ HB.out
    generalize v1.setCells w.heap.size 0 _ = u8 at HR HB ⊢
    clear HJ
    go_wp2_with fail
    have hv := run_loadVar_mid (P := Tryz.prog) u8 w.heap.size 0 30 [.int .i64 1, .int .i64 x.s, .int .i64 x.j.id, .int .i64 x.j.pr, .int .i64 x.j.nd, .int .i64 x.j.na, .int .i64 x.j.nb, .int .i64 x.j.nc, .int .i64 x.j.la, .int .i64 x.j.lb, .int .i64 x.j.lc, .int .i64 x.j.wl, .int .i64 x.j.lv, .int .i64 x.n, .int .i64 x.a, .int .i64 x.b, .int .i64 x.c, .int .i64 0] _ HR.out.all Tryz.underlying30 rfl szStep
    exact bodyPost_ret (results_mix Tryz.results9 rfl hv) rfl ⟨by rw [HRs.out]; rfl, HB.out⟩
  · have q1 : (y.toList == s.toList) = false := by rw [beq_eq_false_iff_ne]; exact ht
    have q2 : (s.toList == y.toList) = false := by rw [beq_eq_false_iff_ne]; exact fun e => ht e.symm
    rw [if_neg (fun t => ht t.2)] at HRs
    clear ht
    go_wp2_with (refine stay_store 30 ?_)
    refine ⟨?_⟩
    refine wpList_store_mid rfl 30 _ _ rfl w.heap.size 0 (#[.int .i64 0, .int .i64 0, .int .i64 0, .int .i64 0, .int .i64 0, .int .i64 0, .int .i64 0, .int .i64 0, .int .i64 0, .int .i64 0, .int .i64 0, .int .i64 0, .int .i64 0, .int .i64 0, .int .i64 0, .int .i64 0, .int .i64 0, .int .i64 0]) rfl rfl (HR.out.room 0 18 (by simp)) szStep (by simp [Value.oneCell']) ?_
    replace HR : Hid (Row (v1.setCells w.heap.size 0 (#[.int .i64 0, .int .i64 0, .int .i64 0, .int .i64 0, .int .i64 0, .int .i64 0, .int .i64 0, .int .i64 0, .int .i64 0, .int .i64 0, .int .i64 0, .int .i64 0, .int .i64 0, .int .i64 0, .int .i64 0, .int .i64 0, .int .i64 0, .int .i64 0] : Array Value).toList) w.heap.size [.int .i64 0, .int .i64 0, .int .i64 0, .int .i64 0, .int .i64 0, .int .i64 0, .int .i64 0, .int .i64 0, .int .i64 0, .int .i64 0, .int .i64 0, .int .i64 0, .int .i64 0, .int .i64 0, .int .i64 0, .int .i64 0, .int .i64 0, .int .i64 0]) := Row.setCs _ 0 HR.out (by simp)
    replace HB : Hid (Below w.heap.size w (v1.setCells w.heap.size 0 (#[.int .i64 0, .int .i64 0, .int .i64 0, .int .i64 0, .int .i64 0, .int .i64 0, .int .i64 0, .int .i64 0, .int .i64 0, .int .i64 0, .int .i64 0, .int .i64 0, .int .i64 0, .int .i64 0, .int .i64 0, .int .i64 0, .int .i64 0, .int .i64 0] : Array Value).toList)) := below_setCs (Nat.le_refl _) _ _ HB.out
    generalize v1.setCells w.heap.size 0 _ = u8 at HR HB ⊢
    clear HJ
    go_wp2_with fail
    have hv := run_loadVar_mid (P := Tryz.prog) u8 w.heap.size 0 30 [.int .i64 0, .int .i64 0, .int .i64 0, .int .i64 0, .int .i64 0, .int .i64 0, .int .i64 0, .int .i64 0, .int .i64 0, .int .i64 0, .int .i64 0, .int .i64 0, .int .i64 0, .int .i64 0, .int .i64 0, .int .i64 0, .int .i64 0, .int .i64 0] _ HR.out.all Tryz.underlying30 rfl szStep
    exact bodyPost_ret (results_mix Tryz.results9 rfl hv) rfl ⟨by rw [HRs.out]; rfl, HB.out⟩
set_option maxHeartbeats 4000000 in
set_option maxRecDepth 100000 in
theorem specTextStep_nil (s : ByteArray) (hs : s.size ≤ 1048576) (w : World) (he : s.data.toList = []) :
    Calls Tryz.prog 9 #[.string s] w fun e w' => e = .returned (.tuple #[.agg #[.int .i64 0, .int .i64 0, .int .i64 0, .int .i64 0, .int .i64 0, .int .i64 0, .int .i64 0, .int .i64 0, .int .i64 0, .int .i64 0, .int .i64 0, .int .i64 0, .int .i64 0, .int .i64 0, .int .i64 0, .int .i64 0, .int .i64 0, .int .i64 0], .bool false]) ∧ Below w.heap.size w w' := by
  have CP : Hid (∀ W : World, Calls Tryz.prog 20 #[.string s, .int .u8 32] W fun e w' => ∃ g cap, e = .returned (.slice (some ⟨g, 0, none⟩) (pcs 32 s.data.toList).length cap) ∧ W.heap.size ≤ g ∧ Row w' g (strs (pcs 32 s.data.toList)) ∧ Below W.heap.size W w') := fun W => specParts_c s 32 hs W
  have hP0 : (strs (pcs 32 s.data.toList))[0]? = some (.string ⟨(Lib.cut s.data.toList [32]).1.toArray⟩) := by
    rw [strs_get]
    rcases pcs_cutS 32 s.data.toList with ⟨_, h2, _⟩ | ⟨_, h2, h3, _⟩
    · rw [h2]; rfl
    · rw [h2, h3]; rfl
  have hPl : 0 < (pcs 32 s.data.toList).length := List.length_pos_iff.2 (pcs_ne _ _)
  have hcut : (Lib.cut s.data.toList [32]).1 = [] := by rw [he]; simp [Lib.cut, Lib.index]
  have e1 : (([] : List UInt8) == [100, 111]) = false := rfl
  rw [hcut] at hP0
  have m1 : s.toList.isEmpty = true := by rw [ByteArray.toList_eq, he]; rfl
  have m2 : (s.toList == []) = true := by rw [ByteArray.toList_eq, he]; rfl
  clear hcut he
  generalize pcs 32 s.data.toList = P at CP hP0 hPl
  have HP0 : Hid ((strs P)[0]? = _) := hP0
  have hPi : (0 : Int) < (P.length : Int) := by omega
  clear hP0 hs
  go_enter Tryz.func9, Tryz.ntmps9
  go_wp2_with fail
  have HR : Hid (Row (w.alloc (.cells #[.int .i64 0, .int .i64 0, .int .i64 0, .int .i64 0, .int .i64 0, .int .i64 0, .int .i64 0, .int .i64 0, .int .i64 0, .int .i64 0, .int .i64 0, .int .i64 0, .int .i64 0, .int .i64 0, .int .i64 0, .int .i64 0, .int .i64 0, .int .i64 0] 30)) w.heap.size [.int .i64 0, .int .i64 0, .int .i64 0, .int .i64 0, .int .i64 0, .int .i64 0, .int .i64 0, .int .i64 0, .int .i64 0, .int .i64 0, .int .i64 0, .int .i64 0, .int .i64 0, .int .i64 0, .int .i64 0, .int .i64 0, .int .i64 0, .int .i64 0]) := row_fresh w [.int .i64 0, .int .i64 0, .int .i64 0, .int .i64 0, .int .i64 0, .int .i64 0, .int .i64 0, .int .i64 0, .int .i64 0, .int .i64 0, .int .i64 0, .int .i64 0, .int .i64 0, .int .i64 0, .int .i64 0, .int .i64 0, .int .i64 0, .int .i64 0] 30
  have HB : Hid (Below w.heap.size w (w.alloc (.cells #[.int .i64 0, .int .i64 0, .int .i64 0, .int .i64 0, .int .i64 0, .int .i64 0, .int .i64 0, .int .i64 0, .int .i64 0, .int .i64 0, .int .i64 0, .int .i64 0, .int .i64 0, .int .i64 0, .int .i64 0, .int .i64 0, .int .i64 0, .int .i64 0] 30))) := low_alloc _ _
  generalize w.alloc (.cells #[.int .i64 0, .int .i64 0, .int .i64 0, .int .i64 0, .int .i64 0, .int .i64 0, .int .i64 0, .int .i64 0, .int .i64 0, .int .i64 0, .int .i64 0, .int .i64 0, .int .i64 0, .int .i64 0, .int .i64 0, .int .i64 0, .int .i64 0, .int .i64 0] 30) = u0 at HR HB ⊢
  refine (CP.out _).mono ?_
  rintro e w1 ⟨g, cap, rfl, _, hr, hb⟩
  replace HR : Hid (Row w1 w.heap.size [.int .i64 0, .int .i64 0, .int .i64 0, .int .i64 0, .int .i64 0, .int .i64 0, .int .i64 0, .int .i64 0, .int .i64 0, .int .i64 0, .int .i64 0, .int .i64 0, .int .i64 0, .int .i64 0, .int .i64 0, .int .i64 0, .int .i64 0, .int .i64 0]) := HR.out.below hb
  replace HB : Hid (Below w.heap.size w w1) := below_then HB.out hb
  have HP : Hid (Row w1 g (strs P)) := hr
  clear hr hb CP
  have s0 := HP.out.cell 0 _ HP0.out
  have hgl := HP.out.lt
  have hgn : g ≠ w1.heap.size := by omega
  clear s0
  have hqr : ¬ w.heap.size = w1.heap.size := by have := HR.out.lt; omega
  have HQ : Hid (Row (w1.alloc (.cells #[.int .i64 0, .int .i64 0, .int .i64 0, .int .i64 0, .int .i64 0, .int .i64 0, .int .i64 0, .int .i64 0, .int .i64 0, .int .i64 0, .int .i64 0, .int .i64 0, .int .i64 0, .int .i64 0, .int .i64 0, .int .i64 0, .int .i64 0, .int .i64 0] 30)) w1.heap.size [.int .i64 0, .int .i64 0, .int .i64 0, .int .i64 0, .int .i64 0, .int .i64 0, .int .i64 0, .int .i64 0, .int .i64 0, .int .i64 0, .int .i64 0, .int .i64 0, .int .i64 0, .int .i64 0, .int .i64 0, .int .i64 0, .int .i64 0, .int .i64 0]) := row_fresh w1 [.int .i64 0, .int .i64 0, .int .i64 0, .int .i64 0, .int .i64 0, .int .i64 0, .int .i64 0, .int .i64 0, .int .i64 0, .int .i64 0, .int .i64 0, .int .i64 0, .int .i64 0, .int .i64 0, .int .i64 0, .int .i64 0, .int .i64 0, .int .i64 0] 30
  have hwq := HB.out.size
  go_wp2_with (refine stay_store 30 ?_)
  refine ⟨?_⟩
  replace HR : Hid (Row (w1.alloc (.cells #[.int .i64 0, .int .i64 0, .int .i64 0, .int .i64 0, .int .i64 0, .int .i64 0, .int .i64 0, .int .i64 0, .int .i64 0, .int .i64 0, .int .i64 0, .int .i64 0, .int .i64 0, .int .i64 0, .int .i64 0, .int .i64 0, .int .i64 0, .int .i64 0] 30)) w.heap.size [.int .i64 0, .int .i64 0, .int .i64 0, .int .i64 0, .int .i64 0, .int .i64 0, .int .i64 0, .int .i64 0, .int .i64 0, .int .i64 0, .int .i64 0, .int .i64 0, .int .i64 0, .int .i64 0, .int .i64 0, .int .i64 0, .int .i64 0, .int .i64 0]) := HR.out.below (low_alloc _ _)
  replace HP : Hid (Row (w1.alloc (.cells #[.int .i64 0, .int .i64 0, .int .i64 0, .int .i64 0, .int .i64 0, .int .i64 0, .int .i64 0, .int .i64 0, .int .i64 0, .int .i64 0, .int .i64 0, .int .i64 0, .int .i64 0, .int .i64 0, .int .i64 0, .int .i64 0, .int .i64 0, .int .i64 0] 30)) g (strs P)) := HP.out.below (low_alloc _ _)
  replace HB : Hid (Below w.heap.size w (w1.alloc (.cells #[.int .i64 0, .int .i64 0, .int .i64 0, .int .i64 0, .int .i64 0, .int .i64 0, .int .i64 0, .int .i64 0, .int .i64 0, .int .i64 0, .int .i64 0, .int .i64 0, .int .i64 0, .int .i64 0, .int .i64 0, .int .i64 0, .int .i64 0, .int .i64 0] 30))) := behind_alloc HB.out _
  generalize w1.alloc (.cells #[.int .i64 0, .int .i64 0, .int .i64 0, .int .i64 0, .int .i64 0, .int .i64 0, .int .i64 0, .int .i64 0, .int .i64 0, .int .i64 0, .int .i64 0, .int .i64 0, .int .i64 0, .int .i64 0, .int .i64 0, .int .i64 0, .int .i64 0, .int .i64 0] 30) = u0 at HR HB HP HQ ⊢
  generalize w1.heap.size = q at *
  refine wpList_store_mid rfl 30 _ _ rfl q 0 (#[.int .i64 0, .int .i64 0, .int .i64 0, .int .i64 0, .int .i64 0, .int .i64 0, .int .i64 0, .int .i64 0, .int .i64 0, .int .i64 0, .int .i64 0, .int .i64 0, .int .i64 0, .int .i64 0, .int .i64 0, .int .i64 0, .int .i64 0, .int .i64 0]) rfl rfl (HQ.out.room 0 18 (by simp)) szStep (by simp [Value.oneCell']) ?_
  replace HR : Hid (Row (u0.setCells q 0 (#[.int .i64 0, .int .i64 0, .int .i64 0, .int .i64 0, .int .i64 0, .int .i64 0, .int .i64 0, .int .i64 0, .int .i64 0, .int .i64 0, .int .i64 0, .int .i64 0, .int .i64 0, .int .i64 0, .int .i64 0, .int .i64 0, .int .i64 0, .int .i64 0] : Array Value).toList) w.heap.size [.int .i64 0, .int .i64 0, .int .i64 0, .int .i64 0, .int .i64 0, .int .i64 0, .int .i64 0, .int .i64 0, .int .i64 0, .int .i64 0, .int .i64 0, .int .i64 0, .int .i64 0, .int .i64 0, .int .i64 0, .int .i64 0, .int .i64 0, .int .i64 0]) := HR.out.apartCs hqr _ 0
  replace HP : Hid (Row (u0.setCells q 0 (#[.int .i64 0, .int .i64 0, .int .i64 0, .int .i64 0, .int .i64 0, .int .i64 0, .int .i64 0, .int .i64 0, .int .i64 0, .int .i64 0, .int .i64 0, .int .i64 0, .int .i64 0, .int .i64 0, .int .i64 0, .int .i64 0, .int .i64 0, .int .i64 0] : Array Value).toList) g (strs P)) := HP.out.apartCs hgn _ 0
  replace HB : Hid (Below w.heap.size w (u0.setCells q 0 (#[.int .i64 0, .int .i64 0, .int .i64 0, .int .i64 0, .int .i64 0, .int .i64 0, .int .i64 0, .int .i64 0, .int .i64 0, .int .i64 0, .int .i64 0, .int .i64 0, .int .i64 0, .int .i64 0, .int .i64 0, .int .i64 0, .int .i64 0, .int .i64 0] : Array Value).toList)) := below_setCs hwq _ _ HB.out
  generalize u0.setCells q 0 _ = u1 at HR HB HP ⊢
  clear HQ
  have s0 := HP.out.cell 0 _ HP0.out
  go_wp2_with (refine stay_store 30 ?_)
  refine ⟨?_⟩
  refine wpList_store_mid rfl 30 _ _ rfl w.heap.size 0 (#[.int .i64 0, .int .i64 0, .int .i64 0, .int .i64 0, .int .i64 0, .int .i64 0, .int .i64 0, .int .i64 0, .int .i64 0, .int .i64 0, .int .i64 0, .int .i64 0, .int .i64 0, .int .i64 0, .int .i64 0, .int .i64 0, .int .i64 0, .int .i64 0]) rfl rfl (HR.out.room 0 18 (by simp)) szStep (by simp [Value.oneCell']) ?_
  replace HR : Hid (Row (u1.setCells w.heap.size 0 (#[.int .i64 0, .int .i64 0, .int .i64 0, .int .i64 0, .int .i64 0, .int .i64 0, .int .i64 0, .int .i64 0, .int .i64 0, .int .i64 0, .int .i64 0, .int .i64 0, .int .i64 0, .int .i64 0, .int .i64 0, .int .i64 0, .int .i64 0, .int .i64 0] : Array Value).toList) w.heap.size [.int .i64 0, .int .i64 0, .int .i64 0, .int .i64 0, .int .i64 0, .int .i64 0, .int .i64 0, .int .i64 0, .int .i64 0, .int .i64 0, .int .i64 0, .int .i64 0, .int .i64 0, .int .i64 0, .int .i64 0, .int .i64 0, .int .i64 0, .int .i64 0]) := Row.setCs _ 0 HR.out (by simp)
  replace HB : Hid (Below w.heap.size w (u1.setCells w.heap.size 0 (#[.int .i64 0, .int .i64 0, .int .i64 0, .int .i64 0, .int .i64 0, .int .i64 0, .int .i64 0, .int .i64 0, .int .i64 0, .int .i64 0, .int .i64 0, .int .i64 0, .int .i64 0, .int .i64 0, .int .i64 0, .int .i64 0, .int .i64 0, .int .i64 0] : Array Value).toList)) := below_setCs (Nat.le_refl _) _ _ HB.out
  generalize u1.setCells w.heap.size 0 _ = u8 at HR HB ⊢
  go_wp2_with fail
  have hv := run_loadVar_mid (P := Tryz.prog) u8 w.heap.size 0 30 [.int .i64 0, .int .i64 0, .int .i64 0, .int .i64 0, .int .i64 0, .int .i64 0, .int .i64 0, .int .i64 0, .int .i64 0, .int .i64 0, .int .i64 0, .int .i64 0, .int .i64 0, .int .i64 0, .int .i64 0, .int .i64 0, .int .i64 0, .int .i64 0] _ HR.out.all Tryz.underlying30 rfl szStep
  exact bodyPost_ret (results_mix Tryz.results9 rfl hv) rfl ⟨rfl, HB.out⟩

end Go.Proofs.YtejleghdgdbbnaaGreatDoor
