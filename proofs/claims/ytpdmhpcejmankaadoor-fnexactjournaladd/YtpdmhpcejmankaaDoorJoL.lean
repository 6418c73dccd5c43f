/- A journal in the laws: sized, copied, held against each other, marked, found marked. -/
import Derived.Test.YtpdmhpcejmankaaDoorJoK
import Derived.Test.YtpdmhpcejmankaaDoorJoJ
namespace Go.Proofs.YtpdmhpcejmankaaDoor
open Go.ChangeShapes Go.WideShapes Go.ChangeAt Go.RowKit

theorem lbox (w : World) (a : Option Addr) (n c : Nat) (s k : Int) : Row (w.alloc (.cells #[.slice a n c, .int .i64 s, .int .i64 k] 42)) w.heap.size [.slice a n c, .int .i64 s, .int .i64 k] ∧ Below w.heap.size w (w.alloc (.cells #[.slice a n c, .int .i64 s, .int .i64 k] 42)) :=
  ⟨row_fresh w [.slice a n c, .int .i64 s, .int .i64 k] 42, (Below.refl _ _).alloc (Nat.le_refl _) _⟩

theorem _root_.Go.Proofs.YtpdmhpcejmankaaDoor.Row.other {w : World} {g : Nat} {xs : List Value} (h : Row w g xs) (b i : Nat) (v : Value) (hb : b ≠ g) : Row (w.setCell ⟨b, i, none⟩ v) g xs :=
  h.far (Lib.grownBy_setCell w b i v) (fun e => hb (Option.some.inj e).symm)

theorem szByteS_big (a : Option Addr) (n c : Nat) (hn : n ≤ maxLen) (h : 1048576 < n) (w : World) :
    Calls Tryd.prog 51 #[.slice a n c, .int .i64 1048576] w fun e w' => e = .returned (.int .i64 (-1)) ∧ w' = w := by
  unfold maxLen at hn
  go_enter Tryd.func51, Tryd.ntmps51
  go_wp2_with fail
  go_ret
  exact ⟨rfl, rfl⟩

theorem szByteS_small (a : Option Addr) (n c : Nat) (h : n ≤ 1048576) (w : World) :
    Calls Tryd.prog 51 #[.slice a n c, .int .i64 1048576] w fun e w' => e = .returned (.int .i64 (1048576 - (n : Int))) ∧ w' = w := by
  have h0 : ¬ (1048576 - (n : Int) < 0) := by omega
  go_enter Tryd.func51, Tryd.ntmps51
  go_wp2_with fail
  go_ret
  exact ⟨rfl, rfl⟩

theorem szJournal_big (a : Option Addr) (n c : Nat) (s k : Int) (hn : n ≤ maxLen) (h : 1048576 < n) (w : World) :
    Calls Tryd.prog 25 #[.agg #[.slice a n c, .int .i64 s, .int .i64 k], .int .i64 1048576] w fun e w' => e = .returned (.int .i64 (-1)) ∧ Below w.heap.size w w' := by
  have HV : Hid (Below w.heap.size w (w.alloc (.cells #[.slice a n c, .int .i64 s, .int .i64 k] 42))) := (lbox w a n c s k).2
  go_enter Tryd.func25, Tryd.ntmps25
  go_wp2_with fail
  refine (szByteS_big a n c hn h _).mono ?_
  rintro e w1 ⟨rfl, rfl⟩
  go_wp2_with fail
  go_ret
  exact ⟨rfl, HV.out⟩

theorem szJournal_small (a : Option Addr) (n c : Nat) (s k : Int) (h : n ≤ 1048576) (w : World) :
    Calls Tryd.prog 25 #[.agg #[.slice a n c, .int .i64 s, .int .i64 k], .int .i64 1048576] w fun e w' => e = .returned (.int .i64 (1048576 - (n : Int))) ∧ Below w.heap.size w w' := by
  have HV : Hid (Below w.heap.size w (w.alloc (.cells #[.slice a n c, .int .i64 s, .int .i64 k] 42))) := (lbox w a n c s k).2
  have h0 : ¬ (1048576 - (n : Int) < 0) := by omega
  go_enter Tryd.func25, Tryd.ntmps25
  go_wp2_with fail
  refine (szByteS_small a n c h _).mono ?_
  rintro e w1 ⟨rfl, rfl⟩
  go_wp2_with fail
  go_ret
  exact ⟨rfl, HV.out⟩

theorem toJournal_c (a : Option Addr) (cap : Nat) (l : List UInt8) (s k : Int) (hl : l.length ≤ 1048576) (w : World) (h : ByA w a l) :
    Calls Tryd.prog 27 #[.agg #[.slice a l.length cap, .int .i64 s, .int .i64 k]] w fun e w' =>
      ∃ g, e = .returned (.agg #[.slice (some ⟨g, 0, none⟩) l.length l.length, .int .i64 s, .int .i64 k]) ∧ w.heap.size ≤ g ∧ Row w' g (bys l) ∧ Below w.heap.size w w' := by
  have H : Hid (ByA w a l) := h
  clear h
  have HV0 := lbox w a l.length cap s k
  have HV1 : Hid (Row (w.alloc (.cells #[.slice a l.length cap, .int .i64 s, .int .i64 k] 42)) w.heap.size [.slice a l.length cap, .int .i64 s, .int .i64 k] ∧ Below w.heap.size w (w.alloc (.cells #[.slice a l.length cap, .int .i64 s, .int .i64 k] 42))) := HV0
  clear HV0
  go_enter Tryd.func27, Tryd.ntmps27
  go_wp2_with fail
  generalize hV : ((w.alloc (.cells #[.slice a l.length cap, .int .i64 s, .int .i64 k] 42)).alloc (.cells #[.slice none 0 0, .int .i64 0, .int .i64 0] 24)).alloc (.cells #[.slice none 0 0, .int .i64 0, .int .i64 0] 24) = V
  have hs1 : (w.alloc (.cells #[.slice a l.length cap, .int .i64 s, .int .i64 k] 42)).heap.size = w.heap.size + 1 := by go_size
  have hs2 : ((w.alloc (.cells #[.slice a l.length cap, .int .i64 s, .int .i64 k] 42)).alloc (.cells #[.slice none 0 0, .int .i64 0, .int .i64 0] 24)).heap.size = w.heap.size + 1 + 1 := by go_size
  have hr2 := jbox (w.alloc (.cells #[.slice a l.length cap, .int .i64 s, .int .i64 k] 42)) none 0 0 0 0
  have hr3 := jbox ((w.alloc (.cells #[.slice a l.length cap, .int .i64 s, .int .i64 k] 42)).alloc (.cells #[.slice none 0 0, .int .i64 0, .int .i64 0] 24)) none 0 0 0 0
  rw [hs1] at hr2
  rw [hs2] at hr3
  have hb2 : Below (w.heap.size + 1) _ _ := hr2.2
  have hb3 : Below (w.heap.size + 1 + 1) _ _ := hr3.2
  have HV : Hid (Below w.heap.size w V) := by
    subst hV
    exact (HV1.out.2.alloc HV1.out.2.size _).alloc (by rw [hs2]; omega) _
  have HP : Hid (Row V w.heap.size [.slice a l.length cap, .int .i64 s, .int .i64 k]) := by
    subst hV
    exact (HV1.out.1.below (by rw [hs1]; exact hr2.2)).below (by rw [hs2]; exact hr3.2)
  have HR : Hid (Row V (w.heap.size + 1) [.slice none 0 0, .int .i64 0, .int .i64 0]) := by
    subst hV
    exact hr2.1.below (by rw [hs2]; exact hr3.2)
  have HO : Hid (Row V (w.heap.size + 1 + 1) [.slice none 0 0, .int .i64 0, .int .i64 0]) := by
    subst hV
    exact hr3.1
  clear hV hs1 hs2 hr2 hr3 hb2 hb3 HV1
  refine (toByteS_c a cap l hl V (H.out.below HV.out)).mono ?_
  rintro e w2 ⟨g, rfl, hg, hr, hb⟩
  have HB2 : Hid (Below w.heap.size w w2) := below_then HV.out hb
  have HP2 : Hid (Row w2 w.heap.size [.slice a l.length cap, .int .i64 s, .int .i64 k]) := HP.out.below hb
  have HR2 : Hid (Row w2 (w.heap.size + 1) [.slice none 0 0, .int .i64 0, .int .i64 0]) := HR.out.below hb
  have HO2 : Hid (Row w2 (w.heap.size + 1 + 1) [.slice none 0 0, .int .i64 0, .int .i64 0]) := HO.out.below hb
  have HG2 : Hid (Row w2 g (bys l)) := hr
  have hgw : w.heap.size + 1 + 1 < g := by have := HO.out.lt; omega
  clear hg hr hb HP HR HO
  have p1 := HP2.out.cell 1 _ rfl
  have p2 := HP2.out.cell 2 _ rfl
  have o0 := HO2.out.cell 0 _ rfl
  have o1 := HO2.out.cell 1 _ rfl
  have o2 := HO2.out.cell 2 _ rfl
  have of0 := HO2.out.free 0
  have of1 := HO2.out.free 1
  have of2 := HO2.out.free 2
  have r0 := HR2.out.cell 0 _ rfl
  have r1 := HR2.out.cell 1 _ rfl
  have r2 := HR2.out.cell 2 _ rfl
  have rf0 := HR2.out.free 0
  have rf1 := HR2.out.free 1
  have rf2 := HR2.out.free 2
  go_wp2_with fail
  generalize hF : World.setCell _ (⟨w.heap.size + 1, 2, none⟩ : Addr) (.int .i64 k) = F
  have HF : Row F (w.heap.size + 1) [.slice (some ⟨g, 0, none⟩) l.length l.length, .int .i64 s, .int .i64 k] := by
    subst hF
    exact ((((((HR2.out.other _ 0 _ (by omega)).other _ 1 _ (by omega)).other _ 2 _ (by omega)).set 0 (by simp) _).set 1 (by simp) _).set 2 (by simp) _)
  have HGF : Hid (Row F g (bys l)) := by
    subst hF
    exact (((((HG2.out.other _ 0 _ (by omega)).other _ 1 _ (by omega)).other _ 2 _ (by omega)).other _ 0 _ (by omega)).other _ 1 _ (by omega)).other _ 2 _ (by omega)
  have HBF : Hid (Below w.heap.size w F) := by
    subst hF
    refine Below.setCell (Below.setCell (Below.setCell (Below.setCell (Below.setCell (Below.setCell HB2.out ?_ _) ?_ _) ?_ _) ?_ _) ?_ _) ?_ _
    all_goals first | exact (show w.heap.size ≤ w.heap.size + 1 + 1 by omega) | exact (show w.heap.size ≤ w.heap.size + 1 by omega)
  have f0 := HF.cell 0 _ rfl
  have f1 := HF.cell 1 _ rfl
  have f2 := HF.cell 2 _ rfl
  clear hF HF
  refine bodyPost_ret (v := .agg #[.slice (some ⟨g, 0, none⟩) l.length l.length, .int .i64 s, .int .i64 k]) (by simp [results, Tryd.results27, go_sem, f0, f1, f2]) rfl ?_
  exact ⟨g, rfl, by omega, HGF.out, HBF.out⟩

theorem jbox2 (w : World) (a b : Option Addr) (n c m d : Nat) (s k s' k' : Int) : ∀ V, V = (w.alloc (.cells #[.slice a n c, .int .i64 s, .int .i64 k] 24)).alloc (.cells #[.slice b m d, .int .i64 s', .int .i64 k'] 24) →
    Row V w.heap.size [.slice a n c, .int .i64 s, .int .i64 k] ∧ Row V (w.heap.size + 1) [.slice b m d, .int .i64 s', .int .i64 k'] ∧ Below w.heap.size w V := by
  rintro V rfl
  have h1 := jbox w a n c s k
  have h2 := jbox (w.alloc (.cells #[.slice a n c, .int .i64 s, .int .i64 k] 24)) b m d s' k'
  have hs : (w.alloc (.cells #[.slice a n c, .int .i64 s, .int .i64 k] 24)).heap.size = w.heap.size + 1 := by go_size
  refine ⟨h1.1.below h2.2, ?_, below_then h1.2 h2.2⟩
  have h3 := h2.1
  rwa [hs] at h3

set_option maxHeartbeats 1000000 in
theorem eqJournal_c (a b : Option Addr) (c d : Nat) (l : List UInt8) (s k : Int) (hl : l.length ≤ 1048576) (w : World) (h : ByA w a l) (h' : ByA w b l) :
    Calls Tryd.prog 28 #[.agg #[.slice a l.length c, .int .i64 s, .int .i64 k], .agg #[.slice b l.length d, .int .i64 s, .int .i64 k]] w fun e w' => e = .returned (.bool true) ∧ Below w.heap.size w w' := by
  have H : Hid (ByA w a l) := h
  have H' : Hid (ByA w b l) := h'
  have HX : Hid (∀ V, _ → _ ∧ _ ∧ _) := jbox2 w a b l.length c l.length d s k s k
  clear h h'
  go_enter Tryd.func28, Tryd.ntmps28
  go_wp2_with fail
  generalize hV : (w.alloc (.cells #[.slice a l.length c, .int .i64 s, .int .i64 k] 24)).alloc (.cells #[.slice b l.length d, .int .i64 s, .int .i64 k] 24) = V
  obtain ⟨hr1, hr2, hb0⟩ := HX.out V hV.symm
  have HV : Hid (Below w.heap.size w V) := hb0
  clear hV HX hb0
  refine (eqByteS_c a b c d l hl V (H.out.below HV.out) (H'.out.below HV.out)).mono ?_
  rintro e w2 ⟨rfl, hb⟩
  have HB2 : Hid (Below w.heap.size w w2) := below_then HV.out hb
  have p1 := (hr1.below hb).cell 1 _ rfl
  have p2 := (hr1.below hb).cell 2 _ rfl
  have q1 := (hr2.below hb).cell 1 _ rfl
  have q2 := (hr2.below hb).cell 2 _ rfl
  clear hb hr1 hr2
  go_wp2_with fail
  go_ret
  exact ⟨rfl, HB2.out⟩

theorem markJournal_c {B T : Nat} {w : World} {xs : List Value} {v : Value} (s k : Int) (h : Ans B T w xs v) (hl : xs.length ≤ 1048576) :
    Calls Tryd.prog 30 #[.agg #[v, .int .i64 s, .int .i64 k], .int .i64 1] w fun e w' => e = .returned (.int .i64 ((1 + xs.length : Nat) : Int)) ∧ Ans B T w' (upBytes 1 xs.length) v ∧
      (∀ b ys, Row w b ys → b < B ∨ T ≤ b → Row w' b ys) ∧ (∀ w0 : World, Below w0.heap.size w0 w → w0.heap.size ≤ B → Below w0.heap.size w0 w') := by
  obtain ⟨a, cap, rfl⟩ := h.form
  have H : Hid (Ans B T w xs (.slice a xs.length cap)) := h
  have HV0 : Hid (Row (w.alloc (.cells #[.slice a xs.length cap, .int .i64 s, .int .i64 k] 24)) w.heap.size [.slice a xs.length cap, .int .i64 s, .int .i64 k] ∧ Below w.heap.size w (w.alloc (.cells #[.slice a xs.length cap, .int .i64 s, .int .i64 k] 24))) := jbox w a xs.length cap s k
  clear h
  go_enter Tryd.func30, Tryd.ntmps30
  go_wp2_with fail
  generalize w.alloc (.cells #[.slice a xs.length cap, .int .i64 s, .int .i64 k] 24) = V at HV0
  have HB : Hid (Below w.heap.size w V) := HV0.out.2
  clear HV0
  have HM := mark_bys (k0 := 1) (H.out.below HB.out) hl (by omega)
  refine HM.mono ?_
  rintro e w2 ⟨rfl, hA, hk, hbw⟩
  have HA : Hid (Ans B T w2 (upBytes 1 xs.length) (.slice a xs.length cap)) := hA
  have HK : Hid (∀ b ys, Row V b ys → b < B ∨ T ≤ b → Row w2 b ys) := hk
  have HW : Hid (∀ w0 : World, Below w0.heap.size w0 V → w0.heap.size ≤ B → Below w0.heap.size w0 w2) := hbw
  clear hA hk hbw HM
  go_wp2_with fail
  go_ret
  exact ⟨rfl, HA.out, fun b ys h hb => HK.out b ys (h.below HB.out) hb, fun w0 h0 h1 => HW.out w0 (below_then h0 HB.out) h1⟩

theorem heldJournal_c {B T n : Nat} {w : World} {v : Value} (s k : Int) (h : Ans B T w (upBytes 1 n) v) (hl : n ≤ 1048576) :
    Calls Tryd.prog 31 #[.agg #[v, .int .i64 s, .int .i64 k], .int .i64 1] w fun e w' => e = .returned (.int .i64 ((1 + n : Nat) : Int)) ∧ Below w.heap.size w w' := by
  obtain ⟨a, cap, rfl⟩ := h.form
  have H : Hid (Ans B T w (upBytes 1 n) (.slice a (upBytes 1 n).length cap)) := h
  rw [upBytes_len] at H
  rw [upBytes_len]
  have HV0 : Hid (Row (w.alloc (.cells #[.slice a n cap, .int .i64 s, .int .i64 k] 24)) w.heap.size [.slice a n cap, .int .i64 s, .int .i64 k] ∧ Below w.heap.size w (w.alloc (.cells #[.slice a n cap, .int .i64 s, .int .i64 k] 24))) := jbox w a n cap s k
  clear h
  go_enter Tryd.func31, Tryd.ntmps31
  go_wp2_with fail
  generalize w.alloc (.cells #[.slice a n cap, .int .i64 s, .int .i64 k] 24) = V at HV0
  have HB : Hid (Below w.heap.size w V) := HV0.out.2
  clear HV0
  refine (held_bys (k0 := 1) (H.out.below HB.out) hl (by omega)).mono ?_
  rintro e w2 ⟨rfl, hb⟩
  have HB2 : Hid (Below w.heap.size w w2) := below_then HB.out hb
  clear hb
  go_wp2_with fail
  go_ret
  exact ⟨rfl, HB2.out⟩
end Go.Proofs.YtpdmhpcejmankaaDoor
