/- TextVec: the program's. -/
import Derived.Test.YtejleghdgdbbnaaGreatDoorMgUk
namespace Go.Proofs.YtejleghdgdbbnaaGreatDoor
open Go.ChangeShapes Go.WideShapes Go.ChangeAt Go.RowKit

/-- What the program asks of the library's variables. -/
def Env (w : World) : Prop := Tab w ∧ Errs w ∧ MaxL w
theorem Env.on {w w' : World} (h : Env w) (hb : Below w.heap.size w w') : Env w' := ⟨h.1.on hb, h.2.1.on hb, h.2.2.on hb⟩

theorem ba_size (p : List UInt8) : (⟨p.toArray⟩ : ByteArray).size = p.length := by simp [ByteArray.size]

theorem implTextNum_p (p : List UInt8) (w : World) (hs : (⟨p.toArray⟩ : ByteArray).size ≤ 281474976710656) (ht : Tab w) (he : Errs w) :
    Calls Tryz.prog 39 #[.string ⟨p.toArray⟩] w fun e w' => e = .returned (.tuple #[.int .i64 (tnR p).1, .bool (tnR p).2]) ∧ Below w.heap.size w w' := implTextNum_all ⟨p.toArray⟩ w hs ht he


set_option maxHeartbeats 2000000 in
theorem implTextVec_c (s : ByteArray) (hs : s.size ≤ 1048576) (w : World) (env : Env w) :
    Calls Tryz.prog 74 #[.string s] w fun e w' => e = .returned (.tuple #[.agg #[.int .i64 (tvR s.data.toList).1.1, .int .i64 (tvR s.data.toList).1.2.1, .int .i64 (tvR s.data.toList).1.2.2], .bool (tvR s.data.toList).2]) ∧ Below w.heap.size w w' := by
  have HE : Hid (Env w) := env
  have HP : Hid (∀ p, p ∈ pcs 47 s.data.toList → p.length ≤ s.size) := fun p hp => pcs_size 47 s.data.toList p hp
  have hcnt : (pcs 47 s.data.toList).length ≤ s.size + 1 := pcs_count 47 s.data.toList
  clear env
  go_enter Tryz.func74, Tryz.ntmps74
  go_wp2_with fail
  refine (implParts_c s 47 hs _ (HE.out.on (by go_grown)).2.2).mono ?_
  rintro e V ⟨gp, cp, rfl, hgp, hrp, hbv⟩
  have HBV : Hid (Below w.heap.size w V) := below_then (by go_grown) hbv
  have HRP : Hid (Row V gp (strs (pcs 47 s.data.toList))) := hrp
  have HR0 : Hid (Row V w.heap.size [.int .i64 0, .int .i64 0, .int .i64 0]) := by
    have h0 : Row (w.alloc (.cells #[.int .i64 0, .int .i64 0, .int .i64 0] 24)) w.heap.size [.int .i64 0, .int .i64 0, .int .i64 0] := row_alloc w _ _
    exact h0.below hbv
  have hV : w.heap.size < V.heap.size := HR0.out.lt
  clear hbv hrp hgp
  by_cases h3 : (pcs 47 s.data.toList).length = 3
  · obtain ⟨p0, p1, p2, hP⟩ : ∃ p0 p1 p2, pcs 47 s.data.toList = [p0, p1, p2] := by
      match hq : pcs 47 s.data.toList, h3 with
      | [p0, p1, p2], _ => exact ⟨p0, p1, p2, rfl⟩
    have HQ : Hid (pcs 47 s.data.toList = [p0, p1, p2]) := hP
    rw [hP] at HRP HP
    have z0 : (⟨p0.toArray⟩ : ByteArray).size ≤ 281474976710656 := by rw [ba_size]; have h := HP.out p0 (by simp); omega
    have z1 : (⟨p1.toArray⟩ : ByteArray).size ≤ 281474976710656 := by rw [ba_size]; have h := HP.out p1 (by simp); omega
    have z2 : (⟨p2.toArray⟩ : ByteArray).size ≤ 281474976710656 := by rw [ba_size]; have h := HP.out p2 (by simp); omega
    have Z : Hid ((⟨p0.toArray⟩ : ByteArray).size ≤ 281474976710656 ∧ (⟨p1.toArray⟩ : ByteArray).size ≤ 281474976710656 ∧ (⟨p2.toArray⟩ : ByteArray).size ≤ 281474976710656) := ⟨z0, z1, z2⟩
    clear z0 z1 z2 HP
    have hz := HBV.out.size
    rw [h3]
    clear h3 hcnt
    go_wp2_with fail
    -- the array lies behind what the pieces took
    have HU : Hid (Below V.heap.size V (V.alloc (.cells #[.int .i64 0, .int .i64 0, .int .i64 0] 92))) := by show Below _ _ _; go_grown
    have RA : Hid (Row (V.alloc (.cells #[.int .i64 0, .int .i64 0, .int .i64 0] 92)) V.heap.size [.int .i64 0, .int .i64 0, .int .i64 0]) := row_alloc V _ _
    have RP : Hid (Row (V.alloc (.cells #[.int .i64 0, .int .i64 0, .int .i64 0] 92)) gp (strs [p0, p1, p2])) := HRP.out.below HU.out
    have R0 : Hid (Row (V.alloc (.cells #[.int .i64 0, .int .i64 0, .int .i64 0] 92)) w.heap.size [.int .i64 0, .int .i64 0, .int .i64 0]) := HR0.out.below HU.out
    have BU : Hid (Below w.heap.size w (V.alloc (.cells #[.int .i64 0, .int .i64 0, .int .i64 0] 92))) := below_then HBV.out HU.out
    have hgp : gp < V.heap.size := HRP.out.lt
    generalize hA : V.heap.size = A at *
    generalize V.alloc (.cells #[.int .i64 0, .int .i64 0, .int .i64 0] 92) = U at *
    clear HRP HR0 HBV HU hA
    have c0 : U.cell? ⟨gp, 0, none⟩ = some (.string ⟨p0.toArray⟩) := RP.out.cell 0 _ rfl
    refine wp_loop_rounds 4 ?_
    rw [rounds_succ]
    go_wp2_with fail
    refine (implTextNum_p p0 _ Z.out.1 (HE.out.on BU.out).1 (HE.out.on BU.out).2.1).mono ?_
    rintro e X0 ⟨rfl, hb⟩
    replace RA : Hid (Row X0 A [.int .i64 0, .int .i64 0, .int .i64 0]) := RA.out.below hb
    replace RP : Hid (Row X0 gp (strs [p0, p1, p2])) := RP.out.below hb
    replace R0 : Hid (Row X0 w.heap.size [.int .i64 0, .int .i64 0, .int .i64 0]) := R0.out.below hb
    replace BU : Hid (Below w.heap.size w X0) := below_then BU.out hb
    clear hb c0
    cases hk0 : (tnR p0).2
    · have Hr : Hid (tvR s.data.toList = ((0, 0, 0), false)) := tv_bad HQ.out (by rw [hk0]; simp)
      have q0 : X0.cell? ⟨w.heap.size, 0, none⟩ = some (.int .i64 0) := R0.out.cell 0 _ rfl
      have q1 : X0.cell? ⟨w.heap.size, 1, none⟩ = some (.int .i64 0) := R0.out.cell 1 _ rfl
      have q2 : X0.cell? ⟨w.heap.size, 2, none⟩ = some (.int .i64 0) := R0.out.cell 2 _ rfl
      have f0 : X0.frozen? ⟨w.heap.size, 0, none⟩ = false := R0.out.free 0
      have f1 : X0.frozen? ⟨w.heap.size, 1, none⟩ = false := R0.out.free 1
      have f2 : X0.frozen? ⟨w.heap.size, 2, none⟩ = false := R0.out.free 2
      clear hk0
      go_wp2_with fail
      have hb6 := BU.out
      exact bodyPost_ret (v := .tuple #[.agg #[.int .i64 0, .int .i64 0, .int .i64 0], .bool false]) (by simp [results, Tryz.results74, go_sem, *]) rfl ⟨by rw [Hr.out], by go_grown⟩
    have HK0 : Hid ((tnR p0).2 = true) := hk0
    clear hk0
    obtain ⟨u, hu⟩ : ∃ u, X0.cell? ⟨A, 0, none⟩ = some u := ⟨_, RA.out.cell 0 _ rfl⟩
    have fu : X0.frozen? ⟨A, 0, none⟩ = false := RA.out.free 0
    go_wp2_with fail
    have hg := Lib.grownBy_setB (a := X0) (w := X0) (b := A) ⟨rfl, rfl, rfl, Nat.le_refl _, fun _ _ _ => rfl⟩ 0 (.int .i64 (tnR p0).1)
    replace RA : Hid (Row (X0.setCell ⟨A, 0, none⟩ (.int .i64 (tnR p0).1)) A [.int .i64 (tnR p0).1, .int .i64 0, .int .i64 0]) := RA.out.set 0 (by simp) _
    replace RP : Hid (Row (X0.setCell ⟨A, 0, none⟩ (.int .i64 (tnR p0).1)) gp (strs [p0, p1, p2])) := RP.out.far hg (by simp; omega)
    replace R0 : Hid (Row (X0.setCell ⟨A, 0, none⟩ (.int .i64 (tnR p0).1)) w.heap.size [.int .i64 0, .int .i64 0, .int .i64 0]) := R0.out.far hg (by simp; omega)
    replace BU : Hid (Below w.heap.size w (X0.setCell ⟨A, 0, none⟩ (.int .i64 (tnR p0).1))) := BU.out.setCell (by simp; omega) _
    clear hu fu hg
    generalize X0.setCell ⟨A, 0, none⟩ (.int .i64 (tnR p0).1) = Y0 at *
    have c0 : Y0.cell? ⟨gp, 1, none⟩ = some (.string ⟨p1.toArray⟩) := RP.out.cell 1 _ rfl
    rw [rounds_succ]
    go_wp2_with fail
    refine (implTextNum_p p1 _ Z.out.2.1 (HE.out.on BU.out).1 (HE.out.on BU.out).2.1).mono ?_
    rintro e X1 ⟨rfl, hb⟩
    replace RA : Hid (Row X1 A [.int .i64 (tnR p0).1, .int .i64 0, .int .i64 0]) := RA.out.below hb
    replace RP : Hid (Row X1 gp (strs [p0, p1, p2])) := RP.out.below hb
    replace R0 : Hid (Row X1 w.heap.size [.int .i64 0, .int .i64 0, .int .i64 0]) := R0.out.below hb
    replace BU : Hid (Below w.heap.size w X1) := below_then BU.out hb
    clear hb c0
    cases hk1 : (tnR p1).2
    · have Hr : Hid (tvR s.data.toList = ((0, 0, 0), false)) := tv_bad HQ.out (by rw [HK0.out, hk1]; simp)
      have q0 : X1.cell? ⟨w.heap.size, 0, none⟩ = some (.int .i64 0) := R0.out.cell 0 _ rfl
      have q1 : X1.cell? ⟨w.heap.size, 1, none⟩ = some (.int .i64 0) := R0.out.cell 1 _ rfl
      have q2 : X1.cell? ⟨w.heap.size, 2, none⟩ = some (.int .i64 0) := R0.out.cell 2 _ rfl
      have f0 : X1.frozen? ⟨w.heap.size, 0, none⟩ = false := R0.out.free 0
      have f1 : X1.frozen? ⟨w.heap.size, 1, none⟩ = false := R0.out.free 1
      have f2 : X1.frozen? ⟨w.heap.size, 2, none⟩ = false := R0.out.free 2
      clear hk1
      go_wp2_with fail
      have hb6 := BU.out
      exact bodyPost_ret (v := .tuple #[.agg #[.int .i64 0, .int .i64 0, .int .i64 0], .bool false]) (by simp [results, Tryz.results74, go_sem, *]) rfl ⟨by rw [Hr.out], by go_grown⟩
    have HK1 : Hid ((tnR p1).2 = true) := hk1
    clear hk1
    obtain ⟨u, hu⟩ : ∃ u, X1.cell? ⟨A, 1, none⟩ = some u := ⟨_, RA.out.cell 1 _ rfl⟩
    have fu : X1.frozen? ⟨A, 1, none⟩ = false := RA.out.free 1
    go_wp2_with fail
    have hg := Lib.grownBy_setB (a := X1) (w := X1) (b := A) ⟨rfl, rfl, rfl, Nat.le_refl _, fun _ _ _ => rfl⟩ 1 (.int .i64 (tnR p1).1)
    replace RA : Hid (Row (X1.setCell ⟨A, 1, none⟩ (.int .i64 (tnR p1).1)) A [.int .i64 (tnR p0).1, .int .i64 (tnR p1).1, .int .i64 0]) := RA.out.set 1 (by simp) _
    replace RP : Hid (Row (X1.setCell ⟨A, 1, none⟩ (.int .i64 (tnR p1).1)) gp (strs [p0, p1, p2])) := RP.out.far hg (by simp; omega)
    replace R0 : Hid (Row (X1.setCell ⟨A, 1, none⟩ (.int .i64 (tnR p1).1)) w.heap.size [.int .i64 0, .int .i64 0, .int .i64 0]) := R0.out.far hg (by simp; omega)
    replace BU : Hid (Below w.heap.size w (X1.setCell ⟨A, 1, none⟩ (.int .i64 (tnR p1).1))) := BU.out.setCell (by simp; omega) _
    clear hu fu hg
    generalize X1.setCell ⟨A, 1, none⟩ (.int .i64 (tnR p1).1) = Y1 at *
    have c0 : Y1.cell? ⟨gp, 2, none⟩ = some (.string ⟨p2.toArray⟩) := RP.out.cell 2 _ rfl
    rw [rounds_succ]
    go_wp2_with fail
    refine (implTextNum_p p2 _ Z.out.2.2 (HE.out.on BU.out).1 (HE.out.on BU.out).2.1).mono ?_
    rintro e X2 ⟨rfl, hb⟩
    replace RA : Hid (Row X2 A [.int .i64 (tnR p0).1, .int .i64 (tnR p1).1, .int .i64 0]) := RA.out.below hb
    replace RP : Hid (Row X2 gp (strs [p0, p1, p2])) := RP.out.below hb
    replace R0 : Hid (Row X2 w.heap.size [.int .i64 0, .int .i64 0, .int .i64 0]) := R0.out.below hb
    replace BU : Hid (Below w.heap.size w X2) := below_then BU.out hb
    clear hb c0
    cases hk2 : (tnR p2).2
    · have Hr : Hid (tvR s.data.toList = ((0, 0, 0), false)) := tv_bad HQ.out (by rw [HK0.out, HK1.out, hk2]; simp)
      have q0 : X2.cell? ⟨w.heap.size, 0, none⟩ = some (.int .i64 0) := R0.out.cell 0 _ rfl
      have q1 : X2.cell? ⟨w.heap.size, 1, none⟩ = some (.int .i64 0) := R0.out.cell 1 _ rfl
      have q2 : X2.cell? ⟨w.heap.size, 2, none⟩ = some (.int .i64 0) := R0.out.cell 2 _ rfl
      have f0 : X2.frozen? ⟨w.heap.size, 0, none⟩ = false := R0.out.free 0
      have f1 : X2.frozen? ⟨w.heap.size, 1, none⟩ = false := R0.out.free 1
      have f2 : X2.frozen? ⟨w.heap.size, 2, none⟩ = false := R0.out.free 2
      clear hk2
      go_wp2_with fail
      have hb6 := BU.out
      exact bodyPost_ret (v := .tuple #[.agg #[.int .i64 0, .int .i64 0, .int .i64 0], .bool false]) (by simp [results, Tryz.results74, go_sem, *]) rfl ⟨by rw [Hr.out], by go_grown⟩
    have HK2 : Hid ((tnR p2).2 = true) := hk2
    clear hk2
    obtain ⟨u, hu⟩ : ∃ u, X2.cell? ⟨A, 2, none⟩ = some u := ⟨_, RA.out.cell 2 _ rfl⟩
    have fu : X2.frozen? ⟨A, 2, none⟩ = false := RA.out.free 2
    go_wp2_with fail
    have hg := Lib.grownBy_setB (a := X2) (w := X2) (b := A) ⟨rfl, rfl, rfl, Nat.le_refl _, fun _ _ _ => rfl⟩ 2 (.int .i64 (tnR p2).1)
    replace RA : Hid (Row (X2.setCell ⟨A, 2, none⟩ (.int .i64 (tnR p2).1)) A [.int .i64 (tnR p0).1, .int .i64 (tnR p1).1, .int .i64 (tnR p2).1]) := RA.out.set 2 (by simp) _
    replace RP : Hid (Row (X2.setCell ⟨A, 2, none⟩ (.int .i64 (tnR p2).1)) gp (strs [p0, p1, p2])) := RP.out.far hg (by simp; omega)
    replace R0 : Hid (Row (X2.setCell ⟨A, 2, none⟩ (.int .i64 (tnR p2).1)) w.heap.size [.int .i64 0, .int .i64 0, .int .i64 0]) := R0.out.far hg (by simp; omega)
    replace BU : Hid (Below w.heap.size w (X2.setCell ⟨A, 2, none⟩ (.int .i64 (tnR p2).1))) := BU.out.setCell (by simp; omega) _
    clear hu fu hg
    generalize X2.setCell ⟨A, 2, none⟩ (.int .i64 (tnR p2).1) = Y2 at *
    rw [rounds_succ]
    have a0 : Y2.cell? ⟨A, 0, none⟩ = some (.int .i64 (tnR p0).1) := RA.out.cell 0 _ rfl
    have a1 : Y2.cell? ⟨A, 1, none⟩ = some (.int .i64 (tnR p1).1) := RA.out.cell 1 _ rfl
    have a2 : Y2.cell? ⟨A, 2, none⟩ = some (.int .i64 (tnR p2).1) := RA.out.cell 2 _ rfl
    go_wp2_with fail
    have HG : Hid (tvR s.data.toList = bif vokB (tnR p0).1 (tnR p1).1 (tnR p2).1 then (((tnR p0).1, (tnR p1).1, (tnR p2).1), true) else ((0, 0, 0), false)) := tv_good HQ.out HK0.out HK1.out HK2.out
    clear HQ HK0 HK1 HK2 a0 a1 a2 RA RP Z HE
    generalize (tnR p0).1 = a at *
    generalize (tnR p1).1 = b at *
    generalize (tnR p2).1 = c at *
    refine (vecOf_c a b c _).mono ?_
    rintro e w6 ⟨rfl, hb⟩
    have R6 : Hid (Row (w6.alloc (.cells #[.int .i64 a, .int .i64 b, .int .i64 c] 24)) w.heap.size [.int .i64 0, .int .i64 0, .int .i64 0]) := (R0.out.below hb).below (by go_grown)
    have B6 : Hid (Below w.heap.size w (w6.alloc (.cells #[.int .i64 a, .int .i64 b, .int .i64 c] 24))) := behind_alloc (below_then BU.out hb) _
    clear hb R0 BU
    go_wp2_with fail
    refine (implVecOk_c a b c _).mono ?_
    rintro e w7 ⟨rfl, hb⟩
    obtain ⟨d0, d1, d2⟩ := kept3 hb w6.heap.size (.int .i64 a) (.int .i64 b) (.int .i64 c) (by go_size) (by simp [go_sem])
    have R7 : Hid (Row w7 w.heap.size [.int .i64 0, .int .i64 0, .int .i64 0]) := R6.out.below hb
    have B7 : Hid (Below w.heap.size w w7) := below_then B6.out hb
    have q0 : w7.cell? ⟨w.heap.size, 0, none⟩ = some (.int .i64 0) := R7.out.cell 0 _ rfl
    have q1 : w7.cell? ⟨w.heap.size, 1, none⟩ = some (.int .i64 0) := R7.out.cell 1 _ rfl
    have q2 : w7.cell? ⟨w.heap.size, 2, none⟩ = some (.int .i64 0) := R7.out.cell 2 _ rfl
    have f0 : w7.frozen? ⟨w.heap.size, 0, none⟩ = false := R7.out.free 0
    have f1 : w7.frozen? ⟨w.heap.size, 1, none⟩ = false := R7.out.free 1
    have f2 : w7.frozen? ⟨w.heap.size, 2, none⟩ = false := R7.out.free 2
    clear hb R6 B6 R7
    cases hv : vokB a b c
    · have Hr : Hid (tvR s.data.toList = ((0, 0, 0), false)) := by show _ = _; rw [HG.out, hv]; rfl
      clear hv HG
      go_wp2_with fail
      have hb6 := B7.out
      exact bodyPost_ret (v := .tuple #[.agg #[.int .i64 0, .int .i64 0, .int .i64 0], .bool false]) (by simp [results, Tryz.results74, go_sem, *]) rfl ⟨by rw [Hr.out], by go_grown⟩
    · have Hr : Hid (tvR s.data.toList = ((a, b, c), true)) := by show _ = _; rw [HG.out, hv]; rfl
      clear hv HG
      go_wp2_with fail
      have hb6 := B7.out
      exact bodyPost_ret (v := .tuple #[.agg #[.int .i64 a, .int .i64 b, .int .i64 c], .bool true]) (by simp [results, Tryz.results74, go_sem, *]) rfl ⟨by rw [Hr.out], by go_grown⟩
  · have hne : (((pcs 47 s.data.toList).length : Int) == 3) = false := by rw [beq_eq_false_iff_ne]; omega
    have Hr : Hid (tvR s.data.toList = ((0, 0, 0), false)) := tv_len h3
    have q0 : V.cell? ⟨w.heap.size, 0, none⟩ = some (.int .i64 0) := HR0.out.cell 0 _ rfl
    have q1 : V.cell? ⟨w.heap.size, 1, none⟩ = some (.int .i64 0) := HR0.out.cell 1 _ rfl
    have q2 : V.cell? ⟨w.heap.size, 2, none⟩ = some (.int .i64 0) := HR0.out.cell 2 _ rfl
    have f0 : V.frozen? ⟨w.heap.size, 0, none⟩ = false := HR0.out.free 0
    have f1 : V.frozen? ⟨w.heap.size, 1, none⟩ = false := HR0.out.free 1
    have f2 : V.frozen? ⟨w.heap.size, 2, none⟩ = false := HR0.out.free 2
    clear h3 HRP HP HR0
    have hz := HBV.out.size
    go_wp2_with fail
    have hb6 := HBV.out
    exact bodyPost_ret (v := .tuple #[.agg #[.int .i64 0, .int .i64 0, .int .i64 0], .bool false]) (by simp [results, Tryz.results74, go_sem, *]) rfl ⟨by rw [Hr.out], by go_grown⟩
end Go.Proofs.YtejleghdgdbbnaaGreatDoor
