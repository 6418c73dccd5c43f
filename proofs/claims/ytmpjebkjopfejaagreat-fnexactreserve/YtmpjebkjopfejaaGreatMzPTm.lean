/- The times of a profile's points: the specification and the program. -/
import Derived.Test.YtmpjebkjopfejaaGreatMzPrfB
import Derived.Test.YtmpjebkjopfejaaGreatMzAnsA
import Derived.Test.YtmpjebkjopfejaaGreatMgRc
namespace Go.Proofs.YtmpjebkjopfejaaGreat
open Go.ChangeShapes Go.WideShapes Go.ChangeAt Go.RowKit

/-- The times of the points. -/
def atsL (ns : List Nd) : List Int := ns.map (·.l)
theorem ats_len (ns : List Nd) : (atsL ns).length = ns.length := by simp [atsL]
theorem ats_next {ns : List Nd} {j : Nat} {n : Nd} (h : ns[j]? = some n) : atsL (ns.take (j + 1)) = atsL (ns.take j) ++ [n.l] := by
  rw [List.take_add_one, h, Option.toList_some]
  simp [atsL]
theorem ats_to (ns : List Nd) (j : Nat) (h : j ≤ ns.length) : (atsL (ns.take j)).length = j := by rw [ats_len, List.length_take]; omega

theorem Ans.wide {B B' T T' : Nat} {w : World} {xs : List Value} {v : Value} (h : Ans B T w xs v) (hB : B' ≤ B) (hT : T ≤ T') : Ans B' T' w xs v := by
  obtain ⟨a, cap, hv, h⟩ := h
  refine ⟨a, cap, hv, ?_⟩
  rcases h with rfl | ⟨g, rfl, hg, hT', hr⟩
  · exact .inl rfl
  · exact .inr ⟨g, rfl, by omega, by omega, hr⟩

/-- 'make([]int, 0, n)'. -/
theorem make_room (n : Nat) (hn : n ≤ 1048576) : ∃ Z : List Value, Z.length = n ∧ ∀ w : World, (Instr.makeSlice 22 (.int .i64 0) (.int .i64 (n : Int))).run Tryz.prog w = .ok (.slice (some ⟨w.heap.size, 0, none⟩) 0 n) (w.alloc (.cells Z.toArray 3)) := by
  obtain ⟨i0, hi, hz0, hz1, hz2⟩ := info_parts infoInt
  refine ⟨(madeCells (Value.int .i64 0).cells (n * i0.size)).toList, ?_, fun w => ?_⟩
  · rw [hz1]
    simp [madeCells, Value.cells]
  · have h := run_make (P := Tryz.prog) (w := w) 22 3 i0 (.int .i64 0) Tryz.underlying22 hi hz0 .i64 .i64 0 (n : Int) (by omega) (by omega) (by rw [hz2]; omega) (by omega)
    simpa using h

set_option maxHeartbeats 2000000 in
theorem times_c (b : Option Addr) (d : Nat) (ns : List Nd) (hn : ns.length ≤ 1048576) (w : World) (h : Sq w b (flat ns)) :
    Calls Tryz.prog 93 #[.agg #[.slice b ns.length d]] w fun e w' => ∃ v, e = .returned v ∧ w'.ownsRow w.heap.size 3 1 v (atsL ns).length (ints (atsL ns)) ∧ Below w.heap.size w w' := by
  have H : Hid (Sq w b (flat ns)) := h
  clear h
  obtain ⟨i0, hi, hz0, hz1, hz2⟩ := info_parts infoInt
  obtain ⟨Z, hZ, hmk⟩ := make_room ns.length hn
  go_enter Tryz.func93, Tryz.ntmps93
  go_wp2_with fail
  generalize hV : w.alloc (.cells #[.slice b ns.length d] 44) = V
  have HA : Hid (Row V w.heap.size [.slice b ns.length d]) := by subst hV; exact row_fresh w [.slice b ns.length d] 44
  have HV : Hid (Below w.heap.size w V) := by subst hV; exact low_alloc _ _
  have hVs : w.heap.size + 1 = V.heap.size := by subst hV; simp [go_sem]
  clear hV
  rw [hVs]
  have HO0 : Hid ((V.alloc (.cells Z.toArray 3)).ownsRow V.heap.size 3 1 (.slice (some ⟨V.heap.size, 0, none⟩) 0 ns.length) 0 []) := World.ownsRow_made V Z.toArray ns.length (Nat.le_refl _) (by unfold maxLen; omega) (by simp [hZ])
  have HB0 : Hid (Below V.heap.size V (V.alloc (.cells Z.toArray 3))) := low_alloc _ _
  generalize V.alloc (.cells Z.toArray 3) = w0 at HO0 HB0
  have t0 := (HA.out.below HB0.out).cell 0 _ rfl
  clear hmk hZ
  go_wp2_with fail
  clear t0
  go_loopw [3, 13] (fun o i wr => ∃ j : Nat, j ≤ ns.length ∧ i = .int .i64 j ∧ wr.ownsRow V.heap.size 3 1 o j (ints (atsL (ns.take j))) ∧ Below V.heap.size V wr) (fun _ i _ => ns.length - (intOf i).toNat)
  case atStart => exact ⟨0, Nat.zero_le _, rfl, HO0.out, HB0.out⟩
  case round =>
    obtain ⟨j, hj, rfl, hown, hb⟩ := hrel
    have HO : Hid (wr.ownsRow V.heap.size 3 1 u3 j (ints (atsL (ns.take j)))) := hown
    have HB : Hid (Below V.heap.size V wr) := hb
    clear hown hb HO0 HB0
    by_cases hlt : j < ns.length
    · have hj0 : (0 : Int) ≤ (j : Int) := by omega
      have hj1 : (j : Int) < (ns.length : Int) := by omega
      obtain ⟨p2, rfl, c0, c1, c2, c3⟩ := ((H.out.below HV.out).below HB.out).node j hlt
      have HX : Hid (ns[j]? = some ns[j]) := List.getElem?_eq_getElem hlt
      generalize ns[j] = n at c0 c1 c2 c3 HX
      have HK : Hid (atsL (ns.take (j + 1)) = atsL (ns.take j) ++ [n.l]) := ats_next HX.out
      have hwr : V.heap.size ≤ wr.heap.size := HB.out.size
      go_wp2_with (at_builtin; refine wpList_append_own _ rfl _ _ 22 rfl V.heap.size 3 i0 (.int .i64 0) 1 8 Tryz.underlying22 hi hz0 hz1 hz2 rfl (by decide) _ _ _ rfl ((HO.out.alloc _).alloc _) ⟨wr.heap.size + 1, 0, none⟩ 1 1 [.int .i64 n.l] rfl rfl ?c1 ?c2 ?c3 ?c4 ?c5 ?_)
      case c1 =>
        intro k u hk
        match k, hk with
        | 0, hk => simp at hk; subst hk; simp [Addr.add]
      case c2 => intro u hu; simp at hu; subst hu; rfl
      case c3 => unfold maxLen; omega
      case c4 => omega
      case c5 => simp; omega
      · intro v1 w6 hown1 hgrow1 _
        have HB6 : Hid (Below V.heap.size V w6) := ((HB.out.alloc hwr _).alloc (by simp; omega) _).grown hgrow1 (by simp; omega) (fun q hq => (HO.out.lt q hq).1)
        have HO6 : Hid (w6.ownsRow V.heap.size 3 1 v1 (j + 1) (ints (atsL (ns.take (j + 1))))) := by
          show World.ownsRow _ _ _ _ _ _ _
          rw [HK.out, ints, List.map_append]
          exact hown1
        clear hown1 hgrow1
        go_wp2_with fail
        go_roundw
        case rel => exact ⟨j + 1, by omega, by go_num, HO6.out, HB6.out⟩
        case measure => simp [intOf]; omega
    · obtain rfl : j = ns.length := by omega
      go_wp2_with fail
      go_ret
      refine ⟨u3, rfl, owns_mono ?_ (show w.heap.size ≤ V.heap.size by omega), below_then HV.out HB.out⟩
      have := HO.out
      rw [List.take_length] at this
      rw [ats_len]
      exact this

/-- What 'ProfTimes' answers. -/
noncomputable def timesR (ns : List Nd) : List Int := open Classical in if POk ns then atsL ns else []
theorem times_len (ns : List Nd) : (timesR ns).length ≤ 200 := by
  unfold timesR
  split
  · rename_i h; rw [ats_len]; exact h.few
  · simp

end Go.Proofs.YtmpjebkjopfejaaGreat
