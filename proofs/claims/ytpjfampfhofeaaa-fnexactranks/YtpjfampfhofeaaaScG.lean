/- Two accounts held against each other: the program's compare. -/
import Derived.Test.YtpjfampfhofeaaaShE
import Derived.Test.YtpjfampfhofeaaaSjL
import Derived.Test.YtpjfampfhofeaaaShelf
import Derived.Sort.Grow
import Derived.Deep.RegionHeld3
import Derived.Deep.Draws
namespace Go.Proofs.Ytpjfampfhofeaaa
open Go.ChangeShapes Go.WideShapes Go.ChangeAt Go.RowKit Go.Sort

/-- Since W only draws were made, and blocks. -/
def Gw (W w : World) : Prop := ∃ q os, w = grow (W.drewN q) os
theorem Gw.refl (W : World) : Gw W W := ⟨0, #[], by simp [grow, World.drewN]⟩
theorem Gw.alloc {W w : World} (h : Gw W w) (o : Obj) : Gw W (w.alloc o) := by
  obtain ⟨q, os, rfl⟩ := h
  exact ⟨q, os ++ #[o], by rw [alloc_eq_grow, grow_grow]⟩
theorem Gw.drew {W w : World} (h : Gw W w) : Gw W w.drew := by
  obtain ⟨q, os, rfl⟩ := h
  exact ⟨q + 1, os, rfl⟩
theorem Gw.low {W w : World} (h : Gw W w) : Below W.heap.size W w := by
  obtain ⟨q, os, rfl⟩ := h
  exact ⟨rfl, rfl, rfl, by simp [grow, World.drewN], fun i hi => heap_grow_old (W.drewN q) os hi⟩
theorem Gw.trans {A B C : World} (h : Gw A B) (k : Gw B C) : Gw A C := by
  obtain ⟨q, os, rfl⟩ := h
  obtain ⟨q', os', rfl⟩ := k
  exact ⟨q + q', os ++ os', by simp [grow, World.drewN, Nat.add_assoc, Array.append_assoc]⟩

set_option maxHeartbeats 1000000 in
theorem orW_c (g : Nat) (x y : Int) (w : World) (h : Row w g [.int .i64 x, .int .i64 y]) :
    Calls Try.prog 64 #[.slice (some ⟨g, 0, none⟩) 2 2] w fun e w' => e = .returned (.int .i64 (if x = 0 then y else x)) ∧ w' = w := by
  have c0 := h.cell 0 _ rfl
  have c1 := h.cell 1 _ rfl
  by_cases hx : x = 0
  · rw [if_pos hx]
    have hx1 : (x != 0) = false := by simp [hx]
    by_cases hy : y = 0
    · have hy1 : (y != 0) = false := by simp [hy]
      have Hy : Hid (y = 0) := hy
      clear hx hy
      go_enter Try.func64, Try.ntmps64
      go_wp2_with fail
      refine wp_loop_rounds 3 ?_
      rw [rounds_succ]
      go_wp2_with fail
      rw [rounds_succ]
      go_wp2_with fail
      rw [rounds_succ]
      go_wp2_with fail
      go_ret
      exact ⟨by rw [Hy.out]; rfl, rfl⟩
    · have hy1 : (y != 0) = true := by simp [hy]
      clear hx hy
      go_enter Try.func64, Try.ntmps64
      go_wp2_with fail
      refine wp_loop_rounds 2 ?_
      rw [rounds_succ]
      go_wp2_with fail
      rw [rounds_succ]
      go_wp2_with fail
      go_ret
      exact ⟨rfl, rfl⟩
  · rw [if_neg hx]
    have hx1 : (x != 0) = true := by simp [hx]
    clear hx
    go_enter Try.func64, Try.ntmps64
    go_wp2_with fail
    refine wp_loop_rounds 1 ?_
    rw [rounds_succ]
    go_wp2_with fail
    go_ret
    exact ⟨rfl, rfl⟩
theorem nanS_c (x : ByteArray) (w : World) : Calls Try.prog 78 #[.string x] w fun e w' => e = .returned (.bool false) ∧ w' = w := by
  have hx : (x.toList == x.toList) = true := by simp
  go_enter Try.func78, Try.ntmps78
  go_wp2_with fail
  go_ret
  exact ⟨by simp, rfl⟩
def cmS (x y : ByteArray) : Int := if ntL x y = true then -1 else if ntL y x = true then 1 else 0
set_option maxHeartbeats 1000000 in
theorem compareS_c (x y : ByteArray) (w : World) : Calls Try.prog 66 #[.string x, .string y] w fun e w' => e = .returned (.int .i64 (cmS x y)) ∧ w' = w := by
  go_enter Try.func66, Try.ntmps66
  go_wp2_with fail
  refine (nanS_c x _).mono ?_
  rintro e w1 ⟨rfl, rfl⟩
  go_wp2_with fail
  refine (nanS_c y _).mono ?_
  rintro e w2 ⟨rfl, rfl⟩
  cases h1 : ntL x y
  · have d1 : Op.bytesLess x.toList y.toList = false := h1
    cases h2 : ntL y x
    · have d2 : Op.bytesLess y.toList x.toList = false := h2
      have d3 : (x.toList == y.toList) = true := by rw [bl_tot h1 h2]; simp
      have HN : Hid (cmS x y = 0) := by show _ = _; simp [cmS, h1, h2]
      clear h1 h2
      go_wp2_with fail
      go_ret
      exact ⟨by rw [HN.out]; rfl, rfl⟩
    · have d2 : Op.bytesLess y.toList x.toList = true := h2
      have d3 : (x.toList == y.toList) = false := by
        rw [beq_eq_false_iff_ne]
        intro e
        rw [e, bl_irr] at d2
        cases d2
      have HN : Hid (cmS x y = 1) := by show _ = _; simp [cmS, h1, h2]
      clear h1 h2
      go_wp2_with fail
      go_ret
      exact ⟨by rw [HN.out]; rfl, rfl⟩
  · have d1 : Op.bytesLess x.toList y.toList = true := h1
    have HN : Hid (cmS x y = -1) := by show _ = _; simp [cmS, h1]
    clear h1
    go_wp2_with fail
    go_ret
    exact ⟨by rw [HN.out]; rfl, rfl⟩
/-- Who comes first. -/
def cfA (x y : Ac) : Int := if Lib.compareInt (x.us * y.sh) (y.us * x.sh) = 0 then cmS x.nm y.nm else Lib.compareInt (x.us * y.sh) (y.us * x.sh)
theorem cfA_ah (x y : Ac) : decide (cfA x y < 0) = ahB x y := by
  unfold cfA Lib.compareInt ahB cmS
  by_cases h1 : x.us * y.sh < y.us * x.sh
  · simp [h1]
  · by_cases h2 : y.us * x.sh < x.us * y.sh
    · have h3 : ¬ x.us * y.sh = y.us * x.sh := by omega
      simp [h1, h2, h3]
    · have h3 : x.us * y.sh = y.us * x.sh := by omega
      rw [h3]
      cases h4 : ntL x.nm y.nm
      · cases h5 : ntL y.nm x.nm <;> simp
      · simp
set_option maxRecDepth 100000 in
set_option maxHeartbeats 2000000 in
theorem compareAc_c (a b : Ac) (ha : accB a = true) (hb : accB b = true) (w : World) : Calls Try.prog 41 #[.agg #[.string a.nm, .int .i64 a.sh, .int .i64 a.us], .agg #[.string b.nm, .int .i64 b.sh, .int .i64 b.us]] w fun e w' => e = .returned (.int .i64 (cfA a b)) ∧ Gw w w' := by
  have px := acc_parts ha
  have py := acc_parts hb
  have m1 := mul_in (A := 1000000000) (B := 1000) px.2.2.2.1 px.2.2.2.2 (by omega : 0 ≤ b.sh) py.2.2.1
  have m2 := mul_in (A := 1000000000) (B := 1000) py.2.2.2.1 py.2.2.2.2 (by omega : 0 ≤ a.sh) px.2.2.1
  have HR : Hid (cfA a b = if Lib.compareInt (a.us * b.sh) (b.us * a.sh) = 0 then cmS a.nm b.nm else Lib.compareInt (a.us * b.sh) (b.us * a.sh)) := rfl
  obtain ⟨p, hp⟩ : ∃ p, a.us * b.sh = p := ⟨_, rfl⟩
  obtain ⟨q, hq⟩ : ∃ q, b.us * a.sh = q := ⟨_, rfl⟩
  rw [hp] at m1
  rw [hq] at m2
  rw [hp, hq] at HR
  have m3 := m1.1
  have m4 := m1.2
  have m5 := m2.1
  have m6 := m2.2
  have w1 : IntKind.i64.wrap p = p := by rw [IntKind.wrap_i64]; omega
  have w2 : IntKind.i64.wrap q = q := by rw [IntKind.wrap_i64]; omega
  have HC : Hid (∀ W, Calls Try.prog 65 #[.int .i64 p, .int .i64 q] W fun e w' => e = .returned (.int .i64 (Lib.compareInt p q)) ∧ w' = W) := fun W => Try.cmp_Compare_int p q W
  have HS : Hid (∀ W, Calls Try.prog 66 #[.string a.nm, .string b.nm] W fun e w' => e = .returned (.int .i64 (cmS a.nm b.nm)) ∧ w' = W) := fun W => compareS_c a.nm b.nm W
  rw [HR.out]
  clear px py m1 m2 ha hb HR
  generalize Lib.compareInt p q = f at HC ⊢
  generalize cmS a.nm b.nm = h at HS ⊢
  have HO : Hid (∀ (g : Nat) (W : World), Row W g [.int .i64 f, .int .i64 h] → Calls Try.prog 64 #[.slice (some ⟨g, 0, none⟩) 2 2] W fun e w' => e = .returned (.int .i64 (if f = 0 then h else f)) ∧ w' = W) := fun g W hr => orW_c g _ _ W hr
  generalize (if f = 0 then h else f) = r at HO ⊢
  go_enter Try.func41, Try.ntmps41
  go_wp2_with fail
  have HG : Hid (Gw w ((w.alloc (.cells #[.string a.nm, .int .i64 a.sh, .int .i64 a.us] 30)).alloc (.cells #[.string b.nm, .int .i64 b.sh, .int .i64 b.us] 30))) := ((Gw.refl w).alloc _).alloc _
  have HA : Hid (Row ((w.alloc (.cells #[.string a.nm, .int .i64 a.sh, .int .i64 a.us] 30)).alloc (.cells #[.string b.nm, .int .i64 b.sh, .int .i64 b.us] 30)) w.heap.size [.string a.nm, .int .i64 a.sh, .int .i64 a.us]) := (row_fresh w [.string a.nm, .int .i64 a.sh, .int .i64 a.us] 30).below (low_alloc _ _)
  have HB : Hid (Row ((w.alloc (.cells #[.string a.nm, .int .i64 a.sh, .int .i64 a.us] 30)).alloc (.cells #[.string b.nm, .int .i64 b.sh, .int .i64 b.us] 30)) (w.heap.size + 1) [.string b.nm, .int .i64 b.sh, .int .i64 b.us]) := by
    have h := row_fresh (w.alloc (.cells #[.string a.nm, .int .i64 a.sh, .int .i64 a.us] 30)) [.string b.nm, .int .i64 b.sh, .int .i64 b.us] 30
    rw [show (w.alloc (.cells #[.string a.nm, .int .i64 a.sh, .int .i64 a.us] 30)).heap.size = w.heap.size + 1 by simp [go_sem]] at h
    exact h
  generalize (w.alloc (.cells #[.string a.nm, .int .i64 a.sh, .int .i64 a.us] 30)).alloc (.cells #[.string b.nm, .int .i64 b.sh, .int .i64 b.us] 30) = V at HG HA HB
  generalize w.heap.size = A0 at HA HB ⊢
  generalize A0 + 1 = B0 at HB ⊢
  have HK : Hid (∀ W : World, Gw V W → Gw V W ∧ W.cell? ⟨A0, 0, none⟩ = some (.string a.nm) ∧ W.cell? ⟨A0, 1, none⟩ = some (.int .i64 a.sh) ∧ W.cell? ⟨A0, 2, none⟩ = some (.int .i64 a.us) ∧ W.cell? ⟨B0, 0, none⟩ = some (.string b.nm) ∧ W.cell? ⟨B0, 1, none⟩ = some (.int .i64 b.sh) ∧ W.cell? ⟨B0, 2, none⟩ = some (.int .i64 b.us)) := fun W h =>
    ⟨h, (HA.out.below h.low).cell 0 _ rfl, (HA.out.below h.low).cell 1 _ rfl, (HA.out.below h.low).cell 2 _ rfl, (HB.out.below h.low).cell 0 _ rfl, (HB.out.below h.low).cell 1 _ rfl, (HB.out.below h.low).cell 2 _ rfl⟩
  have HC2 : Hid (∀ W, Gw V W → Calls Try.prog 65 #[.int .i64 p, .int .i64 q] W fun e w' => e = .returned (.int .i64 f) ∧ Gw V w') := fun W h => (HC.out W).mono fun _ _ ⟨he, hw⟩ => ⟨he, hw ▸ h⟩
  have HS2 : Hid (∀ W, Gw V W → Calls Try.prog 66 #[.string a.nm, .string b.nm] W fun e w' => e = .returned (.int .i64 h) ∧ Gw V w') := fun W h => (HS.out W).mono fun _ _ ⟨he, hw⟩ => ⟨he, hw ▸ h⟩
  have HO2 : Hid (∀ W, Gw V W → Calls Try.prog 64 #[.slice (some ⟨W.heap.size, 0, none⟩) 2 2] (W.alloc (.cells #[.int .i64 f, .int .i64 h] 3)) fun e w' => e = .returned (.int .i64 r) ∧ Gw V w') := fun W hw => (HO.out _ _ (row_fresh W [.int .i64 f, .int .i64 h] 3)).mono fun _ _ ⟨he, hw'⟩ => ⟨he, hw' ▸ hw.alloc _⟩
  have G0 := Gw.refl V
  have G1 := (Gw.refl V).drew
  clear HC HO HA HB HS
  go_region_held3 (fun W => Gw V W ∧ W.cell? ⟨A0, 0, none⟩ = some (.string a.nm) ∧ W.cell? ⟨A0, 1, none⟩ = some (.int .i64 a.sh) ∧ W.cell? ⟨A0, 2, none⟩ = some (.int .i64 a.us) ∧ W.cell? ⟨B0, 0, none⟩ = some (.string b.nm) ∧ W.cell? ⟨B0, 1, none⟩ = some (.int .i64 b.sh) ∧ W.cell? ⟨B0, 2, none⟩ = some (.int .i64 b.us)) ((go_split_ands; refine HK.out _ ?_; first | (with_reducible assumption) | (exact Gw.alloc (by with_reducible assumption) _) | (exact Gw.drew (by with_reducible assumption))))
    (first
    | (go_at_call 65; refine (HC2.out _ (And.left (by with_reducible assumption))).mono ?_; rintro e wk ⟨rfl, Gk⟩)
    | (go_at_call 66; refine (HS2.out _ (And.left (by with_reducible assumption))).mono ?_; rintro e wk ⟨rfl, Gk⟩)
    | (go_at_call 64; refine (HO2.out _ (by with_reducible assumption)).mono ?_; rintro e wk ⟨rfl, Gk⟩))
  all_goals
    go_split_ands
    go_wp2_with fail
    go_ret
    exact ⟨rfl, HG.out.trans Gk⟩
end Go.Proofs.Ytpjfampfhofeaaa
