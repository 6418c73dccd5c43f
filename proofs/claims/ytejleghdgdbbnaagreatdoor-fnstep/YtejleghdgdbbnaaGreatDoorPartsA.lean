/- Parts: the specification's. -/
import Derived.Test.YtejleghdgdbbnaaGreatDoorPartsP
import Derived.Deep.DeepCutAuto
import Derived.Lib.SmallJoins
namespace Go.Proofs.YtejleghdgdbbnaaGreatDoor
open Go.ChangeShapes Go.WideShapes Go.ChangeAt Go.RowKit

theorem infoStr : (Tryz.prog.info? 9).map (fun i => (i.zero, i.size, i.bytes)) = some (some (.string ByteArray.empty), 1, 16) := by kernel_rfl

theorem extract_list (s : ByteArray) (f k : Nat) : s.extract f k = ⟨((s.data.toList.take k).drop f).toArray⟩ := by
  apply ByteArray.ext
  apply Array.ext'
  rw [Lib.extract_data]
  rw [List.drop_take]

/-- Out of what a slice of the call's own holds: where it lies. -/
theorem row_of_owns {w : World} {B n : Nat} {e : TypeId} {v : Value} {xs : List Value} (h : w.ownsRow B e 1 v n xs) (hn : 0 < n) : ∃ g cap, v = .slice (some ⟨g, 0, none⟩) n cap ∧ B ≤ g ∧ Row w g xs := by
  obtain ⟨hlen, h⟩ := h
  rcases h with ⟨_, h⟩ | ⟨g, cap, cur, rfl, hB, hg, hnc, _, hsz, hx⟩
  · omega
  · refine ⟨g, cap, rfl, hB, fun i u hu => ?_, fun i => ?_, ?_⟩
    · rw [← hx] at hu
      have hi : cur.toList[i]? = some u := by
        rw [List.getElem?_take] at hu
        split at hu
        · exact hu
        · cases hu
      simp only [World.cell?, hg]
      simpa using hi
    · simp [World.frozen?, hg]
    · rcases Nat.lt_or_ge g w.heap.size with h' | h'
      · exact h'
      · rw [Array.getElem?_eq_none h'] at hg; cases hg

/-- Where the loop over the bytes stands. -/
def ptInv (b : UInt8) (l : List UInt8) (k f : Nat) (acc : List (List UInt8)) : Prop := f ≤ k ∧ acc.length ≤ k ∧ pcs b (l.take k) = acc ++ [(l.take k).drop f]

theorem pt_start (b : UInt8) (l : List UInt8) : ptInv b l 0 0 [] := ⟨Nat.le_refl _, Nat.le_refl _, by simp [pcs]⟩

theorem pt_hit {b : UInt8} {l : List UInt8} {k f : Nat} {acc : List (List UInt8)} (h : ptInv b l k f acc) (hk : l[k]? = some b) : ptInv b l (k + 1) (k + 1) (acc ++ [(l.take k).drop f]) := by
  obtain ⟨h1, h2, h3⟩ := h
  have hlt : k < l.length := (List.getElem?_eq_some_iff.1 hk).1
  refine ⟨Nat.le_refl _, by simp; omega, ?_⟩
  rw [List.take_add_one, hk, Option.toList_some, pcs_hit, h3]
  have : (l.take k ++ [b]).drop (k + 1) = [] := by rw [List.drop_eq_nil_iff]; simp; omega
  rw [this]

theorem pt_miss {b c : UInt8} {l : List UInt8} {k f : Nat} {acc : List (List UInt8)} (h : ptInv b l k f acc) (hk : l[k]? = some c) (hc : c ≠ b) : ptInv b l (k + 1) f acc := by
  obtain ⟨h1, h2, h3⟩ := h
  have hlt : k < l.length := (List.getElem?_eq_some_iff.1 hk).1
  refine ⟨by omega, by omega, ?_⟩
  rw [List.take_add_one, hk, Option.toList_some, pcs_miss b c hc _ _ _ h3, List.drop_append_of_le_length (by simp; omega)]

theorem pt_end {b : UInt8} {l : List UInt8} {f : Nat} {acc : List (List UInt8)} (h : ptInv b l l.length f acc) : pcs b l = acc ++ [l.drop f] := by
  have := h.2.2
  rwa [List.take_of_length_le (Nat.le_refl _)] at this

set_option maxHeartbeats 2000000 in
theorem specParts_c (s : ByteArray) (b : UInt8) (hs : s.size ≤ 1048576) (w : World) :
    Calls Tryz.prog 20 #[.string s, .int .u8 (b.toNat : Int)] w fun e w' =>
      ∃ g cap, e = .returned (.slice (some ⟨g, 0, none⟩) (pcs b s.data.toList).length cap) ∧ w.heap.size ≤ g ∧ Row w' g (strs (pcs b s.data.toList)) ∧ Below w.heap.size w w' := by
  obtain ⟨i0, hi, hz0, hz1, hz2⟩ := info_parts infoStr
  go_enter Tryz.func20, Tryz.ntmps20
  go_wp2_with fail
  go_loopw [5, 6, 7] (fun o fr i wr => ∃ (k f : Nat) (acc : List (List UInt8)), k ≤ s.size ∧ i = .int .i64 k ∧ fr = .int .i64 f ∧ ptInv b s.data.toList k f acc ∧ wr.ownsRow w.heap.size 9 1 o acc.length (strs acc) ∧ Below w.heap.size w wr) (fun _ _ i _ => s.size - (intOf i).toNat)
  case atStart => exact ⟨0, 0, [], Nat.zero_le _, rfl, rfl, pt_start _ _, World.ownsRow_made w #[] 0 (Nat.le_refl _) (by decide) rfl, by go_grown⟩
  case round =>
    obtain ⟨k, f, acc, hk, rfl, rfl, hinv, hown, hb⟩ := hrel
    have Hi : Hid (ptInv b s.data.toList k f acc) := hinv
    have HO : Hid (wr.ownsRow w.heap.size 9 1 u5 acc.length (strs acc)) := hown
    have HB : Hid (Below w.heap.size w wr) := hb
    have hfk : f ≤ k := hinv.1
    have hak : acc.length ≤ k := hinv.2.1
    have hwr : w.heap.size ≤ wr.heap.size := hb.size
    clear hinv hown hb
    by_cases hlt : k < s.size
    · have Hg : Hid (s.data.toList[k]? = some s[k]) := by show _ = _; rw [List.getElem?_eq_getElem (by simpa using hlt)]; rfl
      by_cases hc : s[k] = b
      · have hcb : ((s[k].toNat : Int) == (b.toNat : Int)) = true := by rw [hc]; simp
        have Hc : Hid (s[k] = b) := hc
        clear hc
        go_wp2_with (at_builtin; refine wpList_append_own _ rfl _ _ 47 rfl w.heap.size 9 i0 (.string ByteArray.empty) 1 16 Tryz.underlying47 hi hz0 hz1 hz2 rfl (by decide) _ _ _ rfl (HO.out.alloc _) ⟨wr.heap.size, 0, none⟩ 1 1 [.string (s.extract f k)] rfl rfl ?c1 ?c2 ?c3 ?c4 ?c5 ?_)
        case c1 =>
          intro j u hj
          match j, hj with
          | 0, hj => simp at hj; subst hj; simp [Addr.add]
        case c2 => intro u hu; simp at hu; subst hu; rfl
        case c3 => unfold maxLen; omega
        case c4 => omega
        case c5 => simp; omega
        · intro v1 w1 hown1 hgrow1 _
          have HB1 : Hid (Below w.heap.size w w1) := (HB.out.alloc hwr _).grown hgrow1 (by simp; omega) (fun q hq => (HO.out.lt q hq).1)
          have HO1 : Hid (w1.ownsRow w.heap.size 9 1 v1 (acc ++ [(s.data.toList.take k).drop f]).length (strs (acc ++ [(s.data.toList.take k).drop f]))) := by
            show World.ownsRow _ _ _ _ _ _ _
            rw [strs_append, List.length_append]
            rw [extract_list] at hown1
            exact hown1
          have HI1 : Hid (ptInv b s.data.toList (k + 1) (k + 1) (acc ++ [(s.data.toList.take k).drop f])) := pt_hit Hi.out (by rw [Hg.out, Hc.out])
          clear hown1 hgrow1
          go_wp2_with fail
          go_roundw
          case rel => exact ⟨k + 1, k + 1, _, by omega, by go_num, by go_num, HI1.out, HO1.out, HB1.out⟩
          case measure => simp [intOf]; omega
      · have hcb : ((s[k].toNat : Int) == (b.toNat : Int)) = false := by
          rw [beq_eq_false_iff_ne]
          intro e
          apply hc
          exact UInt8.toNat_inj.1 (by omega)
        have HI1 : Hid (ptInv b s.data.toList (k + 1) f acc) := pt_miss Hi.out Hg.out hc
        clear hc
        go_wp2_with fail
        go_roundw
        case rel => exact ⟨k + 1, f, acc, by omega, by go_num, rfl, HI1.out, HO.out, HB.out⟩
        case measure => simp [intOf]; omega
    · have hks : k = s.size := by omega
      have HE : Hid (pcs b s.data.toList = acc ++ [s.data.toList.drop f]) := by
        have hl : k = s.data.toList.length := by rw [hks]; rfl
        have h2 := Hi.out
        rw [hl] at h2
        exact pt_end h2
      have HX : Hid (s.extract f s.size = ⟨(s.data.toList.drop f).toArray⟩) := by
        show _ = _
        rw [extract_list, List.take_of_length_le (by simp)]
      clear hks
      go_wp2_with (at_builtin; refine wpList_append_own _ rfl _ _ 47 rfl w.heap.size 9 i0 (.string ByteArray.empty) 1 16 Tryz.underlying47 hi hz0 hz1 hz2 rfl (by decide) _ _ _ rfl (HO.out.alloc _) ⟨wr.heap.size, 0, none⟩ 1 1 [.string (s.extract f s.size)] rfl rfl ?c1 ?c2 ?c3 ?c4 ?c5 ?_)
      case c1 =>
        intro j u hj
        match j, hj with
        | 0, hj => simp at hj; subst hj; simp [Addr.add]
      case c2 => intro u hu; simp at hu; subst hu; rfl
      case c3 => unfold maxLen; omega
      case c4 => omega
      case c5 => simp; omega
      · intro v1 w1 hown1 hgrow1 _
        have HB1 : Hid (Below w.heap.size w w1) := (HB.out.alloc hwr _).grown hgrow1 (by simp; omega) (fun q hq => (HO.out.lt q hq).1)
        have HO1 : Hid (w1.ownsRow w.heap.size 9 1 v1 (pcs b s.data.toList).length (strs (pcs b s.data.toList))) := by
          show World.ownsRow _ _ _ _ _ _ _
          rw [HE.out, strs_append, List.length_append]
          rw [HX.out] at hown1
          exact hown1
        clear hown1 hgrow1
        go_wp2_with fail
        go_ret
        obtain ⟨g, cap, hv, hg, hrow⟩ := row_of_owns HO1.out (List.length_pos_iff.2 (pcs_ne b _))
        exact ⟨g, cap, by rw [← hv]; rfl, hg, hrow, HB1.out⟩
end Go.Proofs.YtejleghdgdbbnaaGreatDoor
