/- Parts: the program's. -/
import Derived.Test.YtejleghdgdbbnaaDoorPartsA
import Derived.Test.YtejleghdgdbbnaaDoorNumA
import Derived.Test.YtejleghdgdbbnaaDoorShelf
namespace Go.Proofs.YtejleghdgdbbnaaDoor
open Go.ChangeShapes Go.WideShapes Go.ChangeAt Go.RowKit

/-- The library's bound on what it searches by a table holds some number. -/
def MaxL (w : World) : Prop := ∃ m, w.cell? ⟨2, 0, none⟩ = some (.int .i64 m)

theorem MaxL.on {w w' : World} (h : MaxL w) (hb : Below w.heap.size w w') : MaxL w' := by
  obtain ⟨m, hm⟩ := h
  exact ⟨m, (hb.cell (World.block_lt_of_cell? w _ hm)).trans hm⟩

theorem clone_c (s : ByteArray) (hs : s.size ≤ 281474976710656) (w : World) :
    Calls Tryd.prog 69 #[.string s] w fun e w' => e = .returned (.string s) ∧ Below w.heap.size w w' := by
  go_enter Tryd.func69, Tryd.ntmps69
  go_wp2_with fail
  refine (Tryd.stringslite_Clone s _ hs).mono ?_
  rintro e w1 ⟨rfl, hb1⟩
  go_wp2_with fail
  go_ret
  exact ⟨rfl, hb1⟩

theorem pcs_len (b : UInt8) (s : ByteArray) : Lib.countB s ⟨#[b]⟩ + 1 = (pcs b s.data.toList).length := by
  have h := Lib.splitB_all ⟨#[b]⟩ (Nat.le_refl 1) 0 _ s rfl
  rw [← h, ← List.length_map (f := Value.string), splitB_strs, strs_length]

theorem pcs_size (b : UInt8) : ∀ (l : List UInt8) (p : List UInt8), p ∈ pcs b l → p.length ≤ l.length
  | [], p, h => by simp [pcs] at h; simp [h]
  | c :: l, p, h => by
    unfold pcs at h
    split at h
    · rcases List.mem_cons.1 h with h | h
      · simp [h]
      · have := pcs_size b l p h; simp; omega
    · cases hp : pcs b l with
      | nil => exact absurd hp (pcs_ne b l)
      | cons q r =>
        rw [hp] at h
        rcases List.mem_cons.1 h with h | h
        · have := pcs_size b l q (by rw [hp]; simp); simp [h]; omega
        · have := pcs_size b l p (by rw [hp]; simp [h]); simp; omega

theorem pcs_count (b : UInt8) : ∀ l : List UInt8, (pcs b l).length ≤ l.length + 1
  | [] => by simp [pcs]
  | c :: l => by
    have := pcs_count b l
    unfold pcs
    split
    · simp; omega
    · split
      · simp
      · rename_i q r hp
        rw [hp] at this
        simp at this ⊢
        omega

theorem row_alloc (w : World) (xs : List Value) (t : TypeId) : Row (w.alloc (.cells xs.toArray t)) w.heap.size xs := by
  refine ⟨fun i u hu => ?_, fun i => ?_, by go_size⟩
  · rw [World.cell?_alloc_at _ _ _ _ rfl]
    simpa using hu
  · exact World.frozen?_alloc_at _ _ _ _ rfl

theorem split_c (s : ByteArray) (b : UInt8) (hs : s.size ≤ 1048576) (w : World) (hm : MaxL w) :
    Calls Tryd.prog 68 #[.string s, .string ⟨#[b]⟩] w fun e w' =>
      e = .returned (.slice (some ⟨w.heap.size, 0, none⟩) (pcs b s.data.toList).length (pcs b s.data.toList).length) ∧ Row w' w.heap.size (strs (pcs b s.data.toList)) ∧ Below w.heap.size w w' := by
  obtain ⟨m, hm⟩ := hm
  refine (Tryd.strings_Split s ⟨#[b]⟩ m w (by omega) hm (Nat.le_refl 1)).mono ?_
  rintro e w1 ⟨rfl, rfl⟩
  rw [pcs_len, splitB_strs]
  exact ⟨rfl, row_alloc _ _ _, by go_grown⟩

theorem set_same {xs : List Value} {k : Nat} {u : Value} (h : xs[k]? = some u) : xs.set k u = xs := by
  obtain ⟨hk, e⟩ := List.getElem?_eq_some_iff.1 h
  rw [← e]
  exact List.set_getElem_self hk

set_option maxHeartbeats 2000000 in
theorem implParts_c (s : ByteArray) (b : UInt8) (hs : s.size ≤ 1048576) (w : World) (hm : MaxL w) :
    Calls Tryd.prog 31 #[.string s, .int .u8 (b.toNat : Int)] w fun e w' =>
      ∃ g cap, e = .returned (.slice (some ⟨g, 0, none⟩) (pcs b s.data.toList).length cap) ∧ w.heap.size ≤ g ∧ Row w' g (strs (pcs b s.data.toList)) ∧ Below w.heap.size w w' := by
  have Hm : Hid (MaxL w) := hm
  have hcv : (convert 22 9 (.slice (some ⟨w.heap.size, 0, none⟩) 1 1)).run Tryd.prog (w.alloc (.cells #[.int .u8 (b.toNat : Int)] 5)) = .ok (.string ⟨#[b]⟩) (w.alloc (.cells #[.int .u8 (b.toNat : Int)] 5)) := by
    have := conv_one w.heap.size (b.toNat : Int) (w.alloc (.cells #[.int .u8 (b.toNat : Int)] 5)) (by simp) (by omega) (by have := b.toNat_lt; omega)
    rw [this]
    simp
  clear hm
  have hcnt : (pcs b s.data.toList).length ≤ s.size + 1 := pcs_count b s.data.toList
  have HP : Hid (∀ p, p ∈ pcs b s.data.toList → p.length ≤ s.size) := fun p hp => pcs_size b s.data.toList p hp
  go_enter Tryd.func31, Tryd.ntmps31
  go_wp2_with fail
  refine (split_c s b hs _ (Hm.out.on (by go_grown))).mono ?_
  rintro e V ⟨rfl, hrow, hbv⟩
  have HB : Hid (Below w.heap.size w V) := below_then (by go_grown) hbv
  have HR : Hid (Row V (w.heap.size + 1) (strs (pcs b s.data.toList))) := by
    show Row _ _ _
    simpa using hrow
  clear hrow hbv
  generalize hP : pcs b s.data.toList = P at *
  have HQ : Hid (pcs b s.data.toList = P) := hP
  clear hP hcv
  go_wp2_with fail
  go_loopw [15] (fun i wr => ∃ j : Nat, j ≤ P.length ∧ i = .int .i64 j ∧ Row wr (w.heap.size + 1) (strs P) ∧ Below w.heap.size w wr) (fun i _ => P.length - (intOf i).toNat)
  case atStart => exact ⟨0, Nat.zero_le _, rfl, HR.out, HB.out⟩
  case round =>
    obtain ⟨j, hj, rfl, hr, hb⟩ := hrel
    have HR1 : Hid (Row wr (w.heap.size + 1) (strs P)) := hr
    have HB1 : Hid (Below w.heap.size w wr) := hb
    clear hr hb HR HB
    by_cases hlt : j < P.length
    · have hi0 : (0 : Int) ≤ (j : Int) := by omega
      have hi1 : (j : Int) < (P.length : Int) := by omega
      have Hu : Hid ((strs P)[j]? = some (.string ⟨P[j].toArray⟩)) := by show _ = _; rw [strs_get, List.getElem?_eq_getElem hlt]; rfl
      have hc : wr.cell? ⟨w.heap.size + 1, j, none⟩ = some (.string ⟨P[j].toArray⟩) := HR1.out.cell j _ Hu.out
      have hsz : (⟨P[j].toArray⟩ : ByteArray).size ≤ 281474976710656 := by
        have := HP.out P[j] (List.getElem_mem hlt)
        have e : (⟨P[j].toArray⟩ : ByteArray).size = P[j].length := by simp [ByteArray.size]
        omega
      go_wp2_with fail
      refine (clone_c _ hsz _).mono ?_
      rintro e w1 ⟨rfl, hb1⟩
      have HR2 : Hid (Row w1 (w.heap.size + 1) (strs P)) := HR1.out.below hb1
      have HB2 : Hid (Below w.heap.size w w1) := below_then HB1.out hb1
      have hc1 : w1.cell? ⟨w.heap.size + 1, j, none⟩ = some (.string ⟨P[j].toArray⟩) := HR2.out.cell j _ Hu.out
      have hf1 : w1.frozen? ⟨w.heap.size + 1, j, none⟩ = false := HR2.out.free j
      have HR3 : Hid (Row (w1.setCell ⟨w.heap.size + 1, j, none⟩ (.string ⟨P[j].toArray⟩)) (w.heap.size + 1) (strs P)) := by
        have := HR2.out.set j (by rw [strs_length]; exact hlt) (.string ⟨P[j].toArray⟩)
        rw [set_same Hu.out] at this
        exact this
      clear hb1 hc hsz HR1 HB1
      go_wp2_with fail
      go_roundw
      case rel => exact ⟨j + 1, by omega, by go_num, HR3.out, HB2.out.setCell (by simp) _⟩
      case measure => simp [intOf]; omega
    · go_wp2_with fail
      go_ret
      exact ⟨w.heap.size + 1, P.length, by rw [HQ.out]; rfl, by omega, by rw [HQ.out]; exact HR1.out, HB1.out⟩
end Go.Proofs.YtejleghdgdbbnaaDoor
