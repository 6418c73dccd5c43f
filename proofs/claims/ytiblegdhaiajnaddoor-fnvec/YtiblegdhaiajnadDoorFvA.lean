/- FnVec: the walk. -/
import Derived.Test.YtiblegdhaiajnadDoorCurE
import Derived.Test.YtiblegdhaiajnadDoorVecH
import Derived.Test.YtiblegdhaiajnadDoorTvB
namespace Go.Proofs.YtiblegdhaiajnadDoor
open Go.ChangeShapes Go.WideShapes Go.ChangeAt Go.RowKit

theorem vt_yes {a b c : Int} (h : vokB a b c = true) : vtL a b c ≠ [] ∧ tvR (vtL a b c) = ((a, b, c), true) := by
  have hne : vtL a b c ≠ [] := by
    intro e
    have := vt_pcs h
    rw [e] at this
    simp [pcs] at this
  obtain ⟨_, hp, ta, tb, tc⟩ := tv_yes hne rfl
  refine ⟨hne, ?_⟩
  have e0 : pn (pcs 47 (vtL a b c)) 0 = a := by rw [hp, (pn_three _ _ _).1, tn_num ta]
  have e1 : pn (pcs 47 (vtL a b c)) 1 = b := by rw [hp, (pn_three _ _ _).2.1, tn_num tb]
  have e2 : pn (pcs 47 (vtL a b c)) 2 = c := by rw [hp, (pn_three _ _ _).2.2, tn_num tc]
  rw [tv_true (by rw [e0, e1, e2]), e0, e1, e2]

theorem vt_no {a b c : Int} (h : vokB a b c = false) : vtL a b c = [] := by rw [vtL, h]; rfl

theorem vt_len (a b c : Int) : (vtL a b c).length ≤ 32 := by
  have h1 := numL_len a
  have h2 := numL_len b
  have h3 := numL_len c
  unfold vtL
  cases vokB a b c
  · simp
  · simp only [cond_true, List.length_append, List.length_cons, List.length_nil]; omega

/-- What the law needs of two vectors that may be added. -/
theorem add_facts {a b c x y z : Int} (h : addB a b c x y z = true) :
    subB (a + x) (b + y) (c + z) x y z = true ∧ fitB a b c (a + x) (b + y) (c + z) = true ∧ minB a b c (a + x) (b + y) (c + z) = true ∧ min a (a + x) = a ∧ min b (b + y) = b ∧ min c (c + z) = c ∧ a + x - x = a ∧ b + y - y = b ∧ c + z - z = c := by
  simp only [addB, Bool.and_eq_true] at h
  obtain ⟨⟨h1, h2⟩, h3⟩ := h
  have i1 := vok_iff.1 h1
  have i2 := vok_iff.1 h2
  have ea : min a (a + x) = a := by omega
  have eb : min b (b + y) = b := by omega
  have ec : min c (c + z) = c := by omega
  have sa : a + x - x = a := by omega
  have sb : b + y - y = b := by omega
  have sc : c + z - z = c := by omega
  refine ⟨by simp [subB, h1, h2, h3, sa, sb, sc], ?_, by simp [minB, h1, h3, ea, eb, ec], ea, eb, ec, sa, sb, sc⟩
  simp only [fitB, nabB, h1, h3, Bool.and_eq_true, decide_eq_true_eq, true_and]
  omega

theorem ba_list (l : List UInt8) : (⟨l.toArray⟩ : ByteArray).toList = l := by
  rw [ByteArray.toList_eq]

theorem specVecAdd_no (a b c x y z : Int) (w : World) (h : addB a b c x y z = false) :
    Calls Tryd.prog 10 #[.agg #[.int .i64 a, .int .i64 b, .int .i64 c], .agg #[.int .i64 x, .int .i64 y, .int .i64 z]] w fun e w' => e = .returned (.tuple #[.agg #[.int .i64 0, .int .i64 0, .int .i64 0], .bool false]) ∧ Below w.heap.size w w' := by
  cases h12 : vokB a b c && vokB x y z
  · exact specVecAdd_wrong a b c x y z w h12
  · have h3 : vokB (a + x) (b + y) (c + z) = false := by simpa [addB, h12] using h
    rw [Bool.and_eq_true] at h12
    exact specVecAdd_over a b c x y z w h12.1 h12.2 h3

theorem specVecAdd_ok (a b c x y z : Int) (w : World) (h : addB a b c x y z = true) :
    Calls Tryd.prog 10 #[.agg #[.int .i64 a, .int .i64 b, .int .i64 c], .agg #[.int .i64 x, .int .i64 y, .int .i64 z]] w fun e w' => e = .returned (.tuple #[.agg #[.int .i64 (a + x), .int .i64 (b + y), .int .i64 (c + z)], .bool true]) ∧ Below w.heap.size w w' := by
  simp only [addB, Bool.and_eq_true] at h
  exact specVecAdd_yes a b c x y z w h.1.1 h.1.2 h.2

/-- Nine cells of three old blocks. -/
theorem held_nine {V w' : World} {b1 b2 b3 : Nat} {a b c x y z d e f : Value} (h1 : Row V b1 [a, b, c]) (h2 : Row V b2 [x, y, z]) (h3 : Row V b3 [d, e, f]) (h : Below V.heap.size V w') :
    Below V.heap.size V w' ∧ V.heap.size ≤ w'.heap.size ∧ w'.cell? ⟨b1, 0, none⟩ = some a ∧ w'.cell? ⟨b1, 1, none⟩ = some b ∧ w'.cell? ⟨b1, 2, none⟩ = some c ∧ w'.cell? ⟨b2, 0, none⟩ = some x ∧ w'.cell? ⟨b2, 1, none⟩ = some y ∧ w'.cell? ⟨b2, 2, none⟩ = some z ∧ w'.cell? ⟨b3, 0, none⟩ = some d ∧ w'.cell? ⟨b3, 1, none⟩ = some e ∧ w'.cell? ⟨b3, 2, none⟩ = some f :=
  ⟨h, h.size, (h1.below h).cell 0 _ rfl, (h1.below h).cell 1 _ rfl, (h1.below h).cell 2 _ rfl, (h2.below h).cell 0 _ rfl, (h2.below h).cell 1 _ rfl, (h2.below h).cell 2 _ rfl, (h3.below h).cell 0 _ rfl, (h3.below h).cell 1 _ rfl, (h3.below h).cell 2 _ rfl⟩

set_option maxHeartbeats 2000000 in
theorem fnVec_walk (p : Option Addr) (n cap : Nat) (w : World) (hn : n ≤ maxLen) (hc : n ≤ 1048576 → CodeIs w p n) (env : Env w) :
    Calls Tryd.prog 3 #[.slice p n cap] w fun e w' => e = .returned (.bool true) ∧ Below w.heap.size w w' := by
  have HE : Hid (Env w) := env
  clear env
  by_cases hl : 1048576 < n
  · unfold maxLen at hn
    clear hc
    go_enter Tryd.func3, Tryd.ntmps3
    go_wp2_with fail
    go_ret
    exact ⟨rfl, by go_grown⟩
  · have hl' : n ≤ 1048576 := by omega
    have H : Hid (CodeIs w p n) := hc hl'
    clear hc hl hn
    go_enter Tryd.func3, Tryd.ntmps3
    go_wp2_with fail
    refine (drawVecAdd_c p n cap _ H.out).mono ?_
    rintro e w1 ⟨a, b, c, x, y, z, rfl, hb1⟩
    have HB1 : Hid (Below w.heap.size w w1) := hb1
    clear hb1
    go_wp2_with fail
    have HA2 : Hid (Row ((w1.alloc (.cells #[.int .i64 a, .int .i64 b, .int .i64 c] 24)).alloc (.cells #[.int .i64 x, .int .i64 y, .int .i64 z] 24)) w1.heap.size [.int .i64 a, .int .i64 b, .int .i64 c]) := (row_new w1 [.int .i64 a, .int .i64 b, .int .i64 c] 24).below ((Below.refl _ _).alloc (Nat.le_refl _) _)
    have HX2 : Hid (Row ((w1.alloc (.cells #[.int .i64 a, .int .i64 b, .int .i64 c] 24)).alloc (.cells #[.int .i64 x, .int .i64 y, .int .i64 z] 24)) (w1.heap.size + 1) [.int .i64 x, .int .i64 y, .int .i64 z]) := by
      have := row_new (w1.alloc (.cells #[.int .i64 a, .int .i64 b, .int .i64 c] 24)) [.int .i64 x, .int .i64 y, .int .i64 z] 24
      rw [show (w1.alloc (.cells #[.int .i64 a, .int .i64 b, .int .i64 c] 24)).heap.size = w1.heap.size + 1 by simp [go_sem]] at this
      exact this
    have HB2 : Hid (Below w.heap.size w ((w1.alloc (.cells #[.int .i64 a, .int .i64 b, .int .i64 c] 24)).alloc (.cells #[.int .i64 x, .int .i64 y, .int .i64 z] 24))) := behind_alloc (behind_alloc HB1.out _) _
    generalize (w1.alloc (.cells #[.int .i64 a, .int .i64 b, .int .i64 c] 24)).alloc (.cells #[.int .i64 x, .int .i64 y, .int .i64 z] 24) = w2 at HA2 HX2 HB2
    have hq : w.heap.size ≤ w1.heap.size := HB1.out.size
    generalize w1.heap.size = q at HA2 HX2 hq
    clear HB1
    refine (implVecText_all a b c _ (HE.out.on HB2.out).1).mono ?_
    rintro e w3 ⟨rfl, hb⟩
    have HA3 : Hid (Row w3 q [.int .i64 a, .int .i64 b, .int .i64 c]) := HA2.out.below hb
    have HX3 : Hid (Row w3 (q + 1) [.int .i64 x, .int .i64 y, .int .i64 z]) := HX2.out.below hb
    have HB3 : Hid (Below w.heap.size w w3) := below_then HB2.out hb
    clear hb HA2 HX2 HB2
    have a0 := HA3.out.cell 0 _ rfl
    have a1 := HA3.out.cell 1 _ rfl
    have a2 := HA3.out.cell 2 _ rfl
    generalize hS : (⟨(vtL a b c).toArray⟩ : ByteArray) = S
    have HS : Hid (S = ⟨(vtL a b c).toArray⟩) := hS.symm
    clear hS
    cases hk : vokB a b c
    · have hi : S.toList.isEmpty = true := by
        rw [HS.out]
        have hh := vt_no hk
        rw [ba_list]; simp [hh]
      have HT : Hid (tvR S.data.toList = ((0, 0, 0), false)) := by
        show _ = _
        rw [HS.out]
        rw [vt_no hk]; exact tv_nil
      have Hk : Hid (vokB a b c = false) := hk
      have hsz : S.size ≤ 1048576 := by rw [HS.out]; have := vt_len a b c; simp [ByteArray.size]; omega
      clear hk
      go_wp2_with fail
      refine (specVecOk_c a b c _).mono ?_
      rintro e w4 ⟨rfl, hb⟩
      rw [Hk.out]
      have HA4 : Hid (Row w4 q [.int .i64 a, .int .i64 b, .int .i64 c]) := HA3.out.below hb
      have HX4 : Hid (Row w4 (q + 1) [.int .i64 x, .int .i64 y, .int .i64 z]) := HX3.out.below hb
      have HB4 : Hid (Below w.heap.size w w4) := below_then HB3.out hb
      clear hb HA3 HX3 HB3 a0 a1 a2
      go_wp2_with fail
      refine (implTextVec_c S hsz _ (HE.out.on HB4.out)).mono ?_
      rw [HT.out]
      rintro e w5 ⟨rfl, hb⟩
      have HA5 : Hid (Row w5 q [.int .i64 a, .int .i64 b, .int .i64 c]) := HA4.out.below hb
      have HX5 : Hid (Row w5 (q + 1) [.int .i64 x, .int .i64 y, .int .i64 z]) := HX4.out.below hb
      have HB5 : Hid (Below w.heap.size w w5) := below_then HB4.out hb
      clear hb HA4 HX4 HB4
      have a0 := HA5.out.cell 0 _ rfl
      have a1 := HA5.out.cell 1 _ rfl
      have a2 := HA5.out.cell 2 _ rfl
      have b0 := HX5.out.cell 0 _ rfl
      have b1 := HX5.out.cell 1 _ rfl
      have b2 := HX5.out.cell 2 _ rfl
      have l1 : q < w5.heap.size := HA5.out.lt
      have l2 : q + 1 < w5.heap.size := HX5.out.lt
      have n1 : q ≠ w5.heap.size := by omega
      have n2 : q + 1 ≠ w5.heap.size := by omega
      go_wp2_with fail
      have HX6 : Hid (Row (w5.alloc (.cells #[.int .i64 0, .int .i64 0, .int .i64 0] 24)) (q + 1) [.int .i64 x, .int .i64 y, .int .i64 z]) := HX5.out.below ((Below.refl _ _).alloc (Nat.le_refl _) _)
      have HA6 : Hid (Row (w5.alloc (.cells #[.int .i64 0, .int .i64 0, .int .i64 0] 24)) q [.int .i64 a, .int .i64 b, .int .i64 c]) := HA5.out.below ((Below.refl _ _).alloc (Nat.le_refl _) _)
      have HB6 : Hid (Below w.heap.size w (w5.alloc (.cells #[.int .i64 0, .int .i64 0, .int .i64 0] 24))) := behind_alloc HB5.out _
      generalize w5.alloc (.cells #[.int .i64 0, .int .i64 0, .int .i64 0] 24) = w6 at HX6 HA6 HB6
      generalize w5.heap.size = q5 at *
      clear a0 a1 a2 b0 b1 b2 l1 l2 n1 n2 HA5 HX5 HB5
      have hadd : addB a b c x y z = false := by simp [addB, Hk.out]
      have HN : Hid (addB a b c x y z = false) := by assumption
      refine (implVecAdd_no a b c x y z _ HN.out).mono ?_
      rintro e w7 ⟨rfl, hb⟩
      have HX7 : Hid (Row w7 (q + 1) [.int .i64 x, .int .i64 y, .int .i64 z]) := HX6.out.below hb
      have HA7 : Hid (Row w7 q [.int .i64 a, .int .i64 b, .int .i64 c]) := HA6.out.below hb
      have HB7 : Hid (Below w.heap.size w w7) := below_then HB6.out hb
      clear hb HX6 HA6 HB6
      have a0 := HA7.out.cell 0 _ rfl
      have a1 := HA7.out.cell 1 _ rfl
      have a2 := HA7.out.cell 2 _ rfl
      have b0 := HX7.out.cell 0 _ rfl
      have b1 := HX7.out.cell 1 _ rfl
      have b2 := HX7.out.cell 2 _ rfl
      have l1 : q < w7.heap.size := HA7.out.lt
      have l2 : q + 1 < w7.heap.size := HX7.out.lt
      have n1 : q ≠ w7.heap.size := by omega
      have n2 : q + 1 ≠ w7.heap.size := by omega
      go_wp2_with fail
      have HC8 : Hid (Row (w7.alloc (.cells #[.int .i64 0, .int .i64 0, .int .i64 0] 24)) w7.heap.size [.int .i64 0, .int .i64 0, .int .i64 0]) := row_new w7 [.int .i64 0, .int .i64 0, .int .i64 0] 24
      have HB8 : Hid (Below w.heap.size w (w7.alloc (.cells #[.int .i64 0, .int .i64 0, .int .i64 0] 24))) := behind_alloc HB7.out _
      generalize w7.alloc (.cells #[.int .i64 0, .int .i64 0, .int .i64 0] 24) = w8 at HC8 HB8
      generalize w7.heap.size = r at *
      clear a0 a1 a2 b0 b1 b2 l1 l2 n1 n2 HA7 HX7 HB7
      refine (specVecAdd_no a b c x y z _ HN.out).mono ?_
      rintro e w9 ⟨rfl, hb⟩
      have HC9 : Hid (Row w9 r [.int .i64 0, .int .i64 0, .int .i64 0]) := HC8.out.below hb
      have HB9 : Hid (Below w.heap.size w w9) := below_then HB8.out hb
      clear hb HC8 HB8
      have c0 := HC9.out.cell 0 _ rfl
      have c1 := HC9.out.cell 1 _ rfl
      have c2 := HC9.out.cell 2 _ rfl
      have l1 := HC9.out.lt
      have n1 : r ≠ w9.heap.size := by omega
      go_wp2_with fail
      go_ret
      exact ⟨rfl, behind_alloc HB9.out _⟩
    · have hi : S.toList.isEmpty = false := by
        rw [HS.out]
        have hh := (vt_yes hk).1
        rw [ba_list]; simp [hh]
      have HT : Hid (tvR S.data.toList = ((a, b, c), true)) := by
        show _ = _
        rw [HS.out]
        exact (vt_yes hk).2
      have Hk : Hid (vokB a b c = true) := hk
      have hsz : S.size ≤ 1048576 := by rw [HS.out]; have := vt_len a b c; simp [ByteArray.size]; omega
      clear hk
      go_wp2_with fail
      refine (specVecOk_c a b c _).mono ?_
      rintro e w4 ⟨rfl, hb⟩
      rw [Hk.out]
      have HA4 : Hid (Row w4 q [.int .i64 a, .int .i64 b, .int .i64 c]) := HA3.out.below hb
      have HX4 : Hid (Row w4 (q + 1) [.int .i64 x, .int .i64 y, .int .i64 z]) := HX3.out.below hb
      have HB4 : Hid (Below w.heap.size w w4) := below_then HB3.out hb
      clear hb HA3 HX3 HB3 a0 a1 a2
      go_wp2_with fail
      refine (implTextVec_c S hsz _ (HE.out.on HB4.out)).mono ?_
      rw [HT.out]
      rintro e w5 ⟨rfl, hb⟩
      have HA5 : Hid (Row w5 q [.int .i64 a, .int .i64 b, .int .i64 c]) := HA4.out.below hb
      have HX5 : Hid (Row w5 (q + 1) [.int .i64 x, .int .i64 y, .int .i64 z]) := HX4.out.below hb
      have HB5 : Hid (Below w.heap.size w w5) := below_then HB4.out hb
      clear hb HA4 HX4 HB4
      have a0 := HA5.out.cell 0 _ rfl
      have a1 := HA5.out.cell 1 _ rfl
      have a2 := HA5.out.cell 2 _ rfl
      have b0 := HX5.out.cell 0 _ rfl
      have b1 := HX5.out.cell 1 _ rfl
      have b2 := HX5.out.cell 2 _ rfl
      have l1 : q < w5.heap.size := HA5.out.lt
      have l2 : q + 1 < w5.heap.size := HX5.out.lt
      have n1 : q ≠ w5.heap.size := by omega
      have n2 : q + 1 ≠ w5.heap.size := by omega
      go_wp2_with fail
      have HX6 : Hid (Row (w5.alloc (.cells #[.int .i64 a, .int .i64 b, .int .i64 c] 24)) (q + 1) [.int .i64 x, .int .i64 y, .int .i64 z]) := HX5.out.below ((Below.refl _ _).alloc (Nat.le_refl _) _)
      have HA6 : Hid (Row (w5.alloc (.cells #[.int .i64 a, .int .i64 b, .int .i64 c] 24)) q [.int .i64 a, .int .i64 b, .int .i64 c]) := HA5.out.below ((Below.refl _ _).alloc (Nat.le_refl _) _)
      have HB6 : Hid (Below w.heap.size w (w5.alloc (.cells #[.int .i64 a, .int .i64 b, .int .i64 c] 24))) := behind_alloc HB5.out _
      generalize w5.alloc (.cells #[.int .i64 a, .int .i64 b, .int .i64 c] 24) = w6 at HX6 HA6 HB6
      generalize w5.heap.size = q5 at *
      clear a0 a1 a2 b0 b1 b2 l1 l2 n1 n2 HA5 HX5 HB5
      cases hadd : addB a b c x y z
      · have HN : Hid (addB a b c x y z = false) := by assumption
        refine (implVecAdd_no a b c x y z _ HN.out).mono ?_
        rintro e w7 ⟨rfl, hb⟩
        have HX7 : Hid (Row w7 (q + 1) [.int .i64 x, .int .i64 y, .int .i64 z]) := HX6.out.below hb
        have HA7 : Hid (Row w7 q [.int .i64 a, .int .i64 b, .int .i64 c]) := HA6.out.below hb
        have HB7 : Hid (Below w.heap.size w w7) := below_then HB6.out hb
        clear hb HX6 HA6 HB6
        have a0 := HA7.out.cell 0 _ rfl
        have a1 := HA7.out.cell 1 _ rfl
        have a2 := HA7.out.cell 2 _ rfl
        have b0 := HX7.out.cell 0 _ rfl
        have b1 := HX7.out.cell 1 _ rfl
        have b2 := HX7.out.cell 2 _ rfl
        have l1 : q < w7.heap.size := HA7.out.lt
        have l2 : q + 1 < w7.heap.size := HX7.out.lt
        have n1 : q ≠ w7.heap.size := by omega
        have n2 : q + 1 ≠ w7.heap.size := by omega
        go_wp2_with fail
        have HC8 : Hid (Row (w7.alloc (.cells #[.int .i64 0, .int .i64 0, .int .i64 0] 24)) w7.heap.size [.int .i64 0, .int .i64 0, .int .i64 0]) := row_new w7 [.int .i64 0, .int .i64 0, .int .i64 0] 24
        have HB8 : Hid (Below w.heap.size w (w7.alloc (.cells #[.int .i64 0, .int .i64 0, .int .i64 0] 24))) := behind_alloc HB7.out _
        generalize w7.alloc (.cells #[.int .i64 0, .int .i64 0, .int .i64 0] 24) = w8 at HC8 HB8
        generalize w7.heap.size = r at *
        clear a0 a1 a2 b0 b1 b2 l1 l2 n1 n2 HA7 HX7 HB7
        refine (specVecAdd_no a b c x y z _ HN.out).mono ?_
        rintro e w9 ⟨rfl, hb⟩
        have HC9 : Hid (Row w9 r [.int .i64 0, .int .i64 0, .int .i64 0]) := HC8.out.below hb
        have HB9 : Hid (Below w.heap.size w w9) := below_then HB8.out hb
        clear hb HC8 HB8
        have c0 := HC9.out.cell 0 _ rfl
        have c1 := HC9.out.cell 1 _ rfl
        have c2 := HC9.out.cell 2 _ rfl
        have l1 := HC9.out.lt
        have n1 : r ≠ w9.heap.size := by omega
        go_wp2_with fail
        go_ret
        exact ⟨rfl, behind_alloc HB9.out _⟩
      · have HN : Hid (addB a b c x y z = true) := hadd
        have hf := add_facts hadd
        clear hadd
        refine (implVecAdd_yes a b c x y z _ HN.out).mono ?_
        rintro e w7 ⟨rfl, hb⟩
        have HX7 : Hid (Row w7 (q + 1) [.int .i64 x, .int .i64 y, .int .i64 z]) := HX6.out.below hb
        have HA7 : Hid (Row w7 q [.int .i64 a, .int .i64 b, .int .i64 c]) := HA6.out.below hb
        have HB7 : Hid (Below w.heap.size w w7) := below_then HB6.out hb
        clear hb HX6 HA6 HB6
        have a0 := HA7.out.cell 0 _ rfl
        have a1 := HA7.out.cell 1 _ rfl
        have a2 := HA7.out.cell 2 _ rfl
        have b0 := HX7.out.cell 0 _ rfl
        have b1 := HX7.out.cell 1 _ rfl
        have b2 := HX7.out.cell 2 _ rfl
        have l1 : q < w7.heap.size := HA7.out.lt
        have l2 : q + 1 < w7.heap.size := HX7.out.lt
        have n1 : q ≠ w7.heap.size := by omega
        have n2 : q + 1 ≠ w7.heap.size := by omega
        generalize hu : a + x = u at hf ⊢
        generalize hv : b + y = v at hf ⊢
        generalize ht : c + z = t at hf ⊢
        have HU : Hid (a + x = u ∧ b + y = v ∧ c + z = t) := ⟨hu, hv, ht⟩
        obtain ⟨f1, f2, f3, f4, f5, f6, f7, f8, f9⟩ := hf
        have HF1 : Hid (subB u v t x y z = true) := f1
        have HF2 : Hid (fitB a b c u v t = true) := f2
        have HF3 : Hid (minB a b c u v t = true) := f3
        have HF4 : Hid (min a u = a ∧ min b v = b ∧ min c t = c) := ⟨f4, f5, f6⟩
        have HF5 : Hid (u - x = a ∧ v - y = b ∧ t - z = c) := ⟨f7, f8, f9⟩
        clear f1 f2 f3 f4 f5 f6 f7 f8 f9 hu hv ht
        go_wp2_with fail
        have HC8 : Hid (Row (w7.alloc (.cells #[.int .i64 u, .int .i64 v, .int .i64 t] 24)) w7.heap.size [.int .i64 u, .int .i64 v, .int .i64 t]) := row_new w7 [.int .i64 u, .int .i64 v, .int .i64 t] 24
        have HZ8 : Hid (Below w7.heap.size w7 (w7.alloc (.cells #[.int .i64 u, .int .i64 v, .int .i64 t] 24))) := (Below.refl _ _).alloc (Nat.le_refl _) _
        generalize w7.alloc (.cells #[.int .i64 u, .int .i64 v, .int .i64 t] 24) = w8 at HC8 HZ8
        have HX8 : Hid (Row w8 (q + 1) [.int .i64 x, .int .i64 y, .int .i64 z]) := HX7.out.below HZ8.out
        have HA8 : Hid (Row w8 q [.int .i64 a, .int .i64 b, .int .i64 c]) := HA7.out.below HZ8.out
        have HB8 : Hid (Below w.heap.size w w8) := below_then HB7.out HZ8.out
        generalize w7.heap.size = r at *
        clear a0 a1 a2 b0 b1 b2 l1 l2 n1 n2 HA7 HX7 HB7 HZ8
        refine (specVecAdd_ok a b c x y z _ HN.out).mono ?_
        rw [HU.out.1, HU.out.2.1, HU.out.2.2]
        rintro e w9 ⟨rfl, hb⟩
        have HX9 : Hid (Row w9 (q + 1) [.int .i64 x, .int .i64 y, .int .i64 z]) := HX8.out.below hb
        have HA9 : Hid (Row w9 q [.int .i64 a, .int .i64 b, .int .i64 c]) := HA8.out.below hb
        have HC9 : Hid (Row w9 r [.int .i64 u, .int .i64 v, .int .i64 t]) := HC8.out.below hb
        have HB9 : Hid (Below w.heap.size w w9) := below_then HB8.out hb
        clear hb HC8 HB8 HX8 HA8
        have b0 := HX9.out.cell 0 _ rfl
        have b1 := HX9.out.cell 1 _ rfl
        have b2 := HX9.out.cell 2 _ rfl
        have c0 := HC9.out.cell 0 _ rfl
        have c1 := HC9.out.cell 1 _ rfl
        have c2 := HC9.out.cell 2 _ rfl
        have l1 : q < w9.heap.size := HA9.out.lt
        have l2 : q + 1 < w9.heap.size := HX9.out.lt
        have l3 : r < w9.heap.size := HC9.out.lt
        have n1 : q ≠ w9.heap.size := by omega
        have n2 : q + 1 ≠ w9.heap.size := by omega
        have n3 : r ≠ w9.heap.size := by omega
        go_wp2_with fail
        have HZ10 : Hid (Below w9.heap.size w9 (w9.alloc (.cells #[.int .i64 u, .int .i64 v, .int .i64 t] 24))) := (Below.refl _ _).alloc (Nat.le_refl _) _
        generalize w9.alloc (.cells #[.int .i64 u, .int .i64 v, .int .i64 t] 24) = w10 at HZ10
        have HA10 : Hid (Row w10 q [.int .i64 a, .int .i64 b, .int .i64 c]) := HA9.out.below HZ10.out
        have HC10 : Hid (Row w10 r [.int .i64 u, .int .i64 v, .int .i64 t]) := HC9.out.below HZ10.out
        have HB10 : Hid (Below w.heap.size w w10) := below_then HB9.out HZ10.out
        generalize w9.heap.size = q9 at *
        clear b0 b1 b2 c0 c1 c2 l1 l2 l3 n1 n2 n3 HX9 HA9 HC9 HB9 HZ10
        refine (implVecSub_yes u v t x y z _ HF1.out).mono ?_
        rw [HF5.out.1, HF5.out.2.1, HF5.out.2.2]
        rintro e w11 ⟨rfl, hb⟩
        have HA11 : Hid (Row w11 q [.int .i64 a, .int .i64 b, .int .i64 c]) := HA10.out.below hb
        have HC11 : Hid (Row w11 r [.int .i64 u, .int .i64 v, .int .i64 t]) := HC10.out.below hb
        have HB11 : Hid (Below w.heap.size w w11) := below_then HB10.out hb
        clear hb HA10 HC10 HB10
        have a0 := HA11.out.cell 0 _ rfl
        have a1 := HA11.out.cell 1 _ rfl
        have a2 := HA11.out.cell 2 _ rfl
        have c0 := HC11.out.cell 0 _ rfl
        have c1 := HC11.out.cell 1 _ rfl
        have c2 := HC11.out.cell 2 _ rfl
        have l1 : q < w11.heap.size := HA11.out.lt
        have l3 : r < w11.heap.size := HC11.out.lt
        have n1 : q ≠ w11.heap.size := by omega
        have n3 : r ≠ w11.heap.size := by omega
        go_wp2_with fail
        have HD12 : Hid (Row (w11.alloc (.cells #[.int .i64 a, .int .i64 b, .int .i64 c] 24)) w11.heap.size [.int .i64 a, .int .i64 b, .int .i64 c]) := row_new w11 [.int .i64 a, .int .i64 b, .int .i64 c] 24
        have HZ12 : Hid (Below w11.heap.size w11 (w11.alloc (.cells #[.int .i64 a, .int .i64 b, .int .i64 c] 24))) := (Below.refl _ _).alloc (Nat.le_refl _) _
        generalize w11.alloc (.cells #[.int .i64 a, .int .i64 b, .int .i64 c] 24) = V at HD12 HZ12
        have HA12 : Hid (Row V q [.int .i64 a, .int .i64 b, .int .i64 c]) := HA11.out.below HZ12.out
        have HC12 : Hid (Row V r [.int .i64 u, .int .i64 v, .int .i64 t]) := HC11.out.below HZ12.out
        have HB12 : Hid (Below w.heap.size w V) := below_then HB11.out HZ12.out
        generalize w11.heap.size = d at *
        clear a0 a1 a2 c0 c1 c2 l1 l3 n1 n3 HA11 HC11 HB11 HZ12
        have H0 : Hid (Below V.heap.size V V) := Below.refl _ _
        have a0 := HA12.out.cell 0 _ rfl
        have a1 := HA12.out.cell 1 _ rfl
        have a2 := HA12.out.cell 2 _ rfl
        have c0 := HC12.out.cell 0 _ rfl
        have c1 := HC12.out.cell 1 _ rfl
        have c2 := HC12.out.cell 2 _ rfl
        have d0 := HD12.out.cell 0 _ rfl
        have d1 := HD12.out.cell 1 _ rfl
        have d2 := HD12.out.cell 2 _ rfl
        have HV2 : Hid (∀ W, Calls Tryd.prog 12 #[.agg #[.int .i64 a, .int .i64 b, .int .i64 c], .agg #[.int .i64 u, .int .i64 v, .int .i64 t]] W fun e W' => e = .returned (.bool true) ∧ Below W.heap.size W W') := fun W => by
          have h := implVecFits_c a b c u v t W
          rw [HF2.out] at h
          exact h
        have HV3 : Hid (∀ W, Calls Tryd.prog 13 #[.agg #[.int .i64 a, .int .i64 b, .int .i64 c], .agg #[.int .i64 u, .int .i64 v, .int .i64 t]] W fun e W' => e = .returned (.agg #[.int .i64 a, .int .i64 b, .int .i64 c]) ∧ Below W.heap.size W W') := fun W => by
          have h := implVecMin_yes a b c u v t W HF3.out
          rw [HF4.out.1, HF4.out.2.1, HF4.out.2.2] at h
          exact h
        have n1 : (a == a) = true := by simp
        clear HE HS hi HT Hk hsz H HN HU HF1 HF2 HF3 HF4 HF5
        go_region_held3 (fun w' => Below V.heap.size V w' ∧ V.heap.size ≤ w'.heap.size ∧ w'.cell? ⟨q, 0, none⟩ = some (.int .i64 a) ∧ w'.cell? ⟨q, 1, none⟩ = some (.int .i64 b) ∧ w'.cell? ⟨q, 2, none⟩ = some (.int .i64 c) ∧ w'.cell? ⟨r, 0, none⟩ = some (.int .i64 u) ∧ w'.cell? ⟨r, 1, none⟩ = some (.int .i64 v) ∧ w'.cell? ⟨r, 2, none⟩ = some (.int .i64 t) ∧ w'.cell? ⟨d, 0, none⟩ = some (.int .i64 a) ∧ w'.cell? ⟨d, 1, none⟩ = some (.int .i64 b) ∧ w'.cell? ⟨d, 2, none⟩ = some (.int .i64 c)) ((go_split_ands; refine held_nine HA12.out HC12.out HD12.out ?_; first | (exact Hid.out (by with_reducible assumption)) | (with_reducible assumption) | (exact behind (by with_reducible assumption) (by with_reducible assumption)) | (go_grown; done)))
          (first
          | (go_at_call 12; refine (HV2.out _).mono ?_; rintro e wk ⟨rfl, hbk⟩; have Bk : Hid (Below V.heap.size V wk) := behind hbk (And.left (by with_reducible assumption)); have zk := Bk.out.size; (first | have C := behind hbk (by with_reducible assumption) | have C := hbk); obtain ⟨hck, hfk, hzk⟩ := bfacts C)
          | (go_at_call 13; refine (HV3.out _).mono ?_; rintro e wk ⟨rfl, hbk⟩; have Bk : Hid (Below V.heap.size V wk) := behind hbk (And.left (by with_reducible assumption)); have zk := Bk.out.size; (first | have C := behind hbk (by with_reducible assumption) | have C := hbk); obtain ⟨hck, hfk, hzk⟩ := bfacts C))
        all_goals
          go_split_ands
          go_wp2_with fail
          go_ret
          exact ⟨rfl, below_then HB12.out (by with_reducible assumption)⟩
end Go.Proofs.YtiblegdhaiajnadDoor
