/- slices.Grow and slices.Concat of texts. -/
import Derived.Test.YtejleghdgdbbnaaGreatDoorPartsA
import Derived.Test.YtejleghdgdbbnaaGreatDoorAnsA
import Derived.Test.YtejleghdgdbbnaaGreatDoorShelfG
import Derived.Test.YtejleghdgdbbnaaGreatDoorBehA
import Derived.Laws.AppendOwn
import Derived.Deep.MidRow
namespace Go.Proofs.YtejleghdgdbbnaaGreatDoor
open Go.ChangeShapes Go.WideShapes Go.ChangeAt Go.RowKit
open Go.Joins (ownsRow_forms)

theorem row_of_owns_cap {w : World} {B n : Nat} {e : TypeId} {v : Value} {xs : List Value} (h : w.ownsRow B e 1 v n xs) (hn : 0 < n) : ∃ g cap, v = .slice (some ⟨g, 0, none⟩) n cap ∧ n ≤ cap ∧ Row w g xs := by
  have h2 := row_of_owns h hn
  obtain ⟨g, cap, e1, _, hr⟩ := h2
  obtain ⟨hlen, h⟩ := h
  rcases h with ⟨_, h⟩ | ⟨g2, cap2, cur, e2, hB, hg, hnc, _, hsz, hx⟩
  · omega
  · have := e1.symm.trans e2
    simp at this
    obtain ⟨h3, h4⟩ := this
    exact ⟨g, cap, e1, by omega, hr⟩
theorem info_parts_s {t : TypeId} {z : Value} {n b : Nat} (h : (Tryz.prog.info? t).map (fun i => (i.zero, i.size, i.bytes)) = some (some z, n, b)) : ∃ i, Tryz.prog.info? t = some i ∧ i.zero = some z ∧ i.size = n ∧ i.bytes = b := by
  cases hi : Tryz.prog.info? t with
  | none => rw [hi] at h; cases h
  | some i => rw [hi] at h; simp at h; exact ⟨i, rfl, h.1, h.2.1, h.2.2⟩
/-- slices.Grow of nil by one text or more: room that nobody else has. -/
theorem grow_s (n : Nat) (h0 : 0 < n) (h1 : n ≤ 4194304) (w : World) :
    Calls Tryz.prog 68 #[.slice none 0 0, .int .i64 (n : Int)] w fun e w' => ∃ g cap, e = .returned (.slice (some ⟨g, 0, none⟩) 0 cap) ∧ w'.ownsRow w.heap.size 9 1 (.slice (some ⟨g, 0, none⟩) 0 cap) 0 [] ∧ Below w.heap.size w w' := by
  obtain ⟨i0, hi, hz0, hz1, hz2⟩ := info_parts_s infoStr
  refine (Any8.slices_Grow_grow Tryz.growS i0 (.string ByteArray.empty) hi hz0 (by omega) none 0 0 n [] w (Nat.le_refl _) (by omega) (by rw [hz2]; omega) (by omega) (by simp) (fun _ => rfl) (fun a h => by cases h)).mono ?_
  rintro e w' ⟨rfl, rfl⟩
  have hcap : n ≤ grownCap w n 0 9 := grownCap_ge w n 0 _
  have hmax : grownCap w n 0 9 ≤ maxLen := grownCap_le_maxLen w n 0 _ (by unfold maxLen; omega)
  refine ⟨w.heap.size, grownCap w n 0 9, by simp; rfl, ?_, ?_⟩
  · refine World.ownsRow_made (base := w.heap.size) (e := 9) (size := 1) w.drew _ _ (Nat.le_refl _) hmax ?_
    simp [Builtin.zeroCells, Value.cells]
    show n + (grownCap w n 0 9 - n) = grownCap w n 0 9
    omega
  · exact below_then (low_drew w) (low_alloc _ _)

set_option maxHeartbeats 2000000 in
set_option maxRecDepth 100000 in
theorem concat_s (w : World) (bk : Nat) (ga gb : Nat) (c d : Nat) (l m : List (List UInt8)) (hbx : Row w bk [.slice (some ⟨ga, 0, none⟩) l.length c, .slice (some ⟨gb, 0, none⟩) m.length d]) (hl : Row w ga (strs l)) (hm : Row w gb (strs m)) (h1 : l.length ≤ 1048576) (h2 : m.length ≤ 1048576) (h0 : 0 < m.length) :
    Calls Tryz.prog 53 #[.slice (some ⟨bk, 0, none⟩) 2 2] w fun e w' => ∃ g cap, e = .returned (.slice (some ⟨g, 0, none⟩) (l ++ m).length cap) ∧ (l ++ m).length ≤ cap ∧ Row w' g (strs (l ++ m)) ∧ Below w.heap.size w w' := by
  have HB : Hid (Row w bk [.slice (some ⟨ga, 0, none⟩) l.length c, .slice (some ⟨gb, 0, none⟩) m.length d]) := hbx
  have HL : Hid (Row w ga (strs l)) := hl
  have HM : Hid (Row w gb (strs m)) := hm
  have b0 := hbx.cell 0 _ rfl
  have b1 := hbx.cell 1 _ rfl
  clear hbx hl hm
  go_enter Tryz.func53, Tryz.ntmps53
  go_wp2_with fail
  go_loop [3, 11] (fun sz i => (i = .int .i64 0 ∧ sz = .int .i64 0) ∨ (i = .int .i64 1 ∧ sz = .int .i64 (l.length : Int)) ∨ (i = .int .i64 2 ∧ sz = .int .i64 ((l.length : Int) + m.length))) (fun _ i => 2 - (intOf i).toNat)
  case atStart => exact .inl ⟨rfl, rfl⟩
  case round =>
    rcases hrel with ⟨rfl, rfl⟩ | ⟨rfl, rfl⟩ | ⟨rfl, rfl⟩
    · have hn : ¬ ((l.length : Int) < 0) := by omega
      go_wp2_with fail
      exact ⟨.inr (.inl ⟨rfl, rfl⟩), by decide⟩
    · have hn : ¬ ((l.length : Int) + (m.length : Int) < 0) := by omega
      go_wp2_with fail
      exact ⟨.inr (.inr ⟨rfl, rfl⟩), by decide⟩
    · have HGr := grow_s (l.length + m.length) (by omega) (by omega) w
      rw [Int.natCast_add] at HGr
      go_wp2_with fail
      refine HGr.mono ?_
      clear HGr
      rintro e w1 ⟨g0, cap0, rfl, hown, hb⟩
      have HO : Hid (w1.ownsRow w.heap.size 9 1 (.slice (some ⟨g0, 0, none⟩) 0 cap0) 0 []) := hown
      have HW : Hid (Below w.heap.size w w1) := hb
      clear hown hb
      obtain ⟨i0, hi, hz0, hz1, hz2⟩ := info_parts_s infoStr
      go_wp2_with fail
      go_loopw [6, 27] (fun ns i wr => ∃ (j : Nat) (dn : List (List UInt8)), i = .int .i64 (j : Int) ∧ ((j = 0 ∧ dn = []) ∨ (j = 1 ∧ dn = l) ∨ (j = 2 ∧ dn = l ++ m)) ∧ wr.ownsRow w.heap.size 9 1 ns dn.length (strs dn) ∧ Below w.heap.size w wr) (fun _ i _ => 2 - (intOf i).toNat)
      case atStart => exact ⟨0, [], rfl, .inl ⟨rfl, rfl⟩, HO.out, HW.out⟩
      case round =>
        obtain ⟨j, dn, rfl, hj, hown, hb⟩ := hrel
        have HWr : Hid (Below w.heap.size w wr) := hb
        rcases hj with ⟨rfl, rfl⟩ | ⟨rfl, rfl⟩ | ⟨rfl, rfl⟩
        · have HOr : Hid (wr.ownsRow w.heap.size 9 1 u6 ([] : List (List UInt8)).length (strs [])) := hown
          clear hown hb
          have HS : Hid (Row wr bk [.slice (some ⟨ga, 0, none⟩) l.length c, .slice (some ⟨gb, 0, none⟩) m.length d]) := HB.out.below HWr.out
          have bc := HS.out.cell 0 _ rfl
          have HN : Hid (∀ j u, (strs l)[j]? = some u → wr.cell? ((⟨ga, 0, none⟩ : Addr).add j) = some u) := fun j u hj => by
            rw [Addr.add_mid, Nat.zero_add]
            exact (HL.out.below HWr.out).cell j u hj
          have H1c : Hid (∀ u ∈ strs l, u.oneCell' = true) := fun u hu => by obtain ⟨b, _, rfl⟩ := List.mem_map.1 hu; rfl
          have hsz : w.heap.size ≤ wr.heap.size := HWr.out.size
          go_wp2_with (at_builtin; refine wpList_append_own _ rfl _ _ 47 rfl w.heap.size 9 i0 (.string ByteArray.empty) 1 16 Tryz.underlying47 hi hz0 hz1 hz2 rfl (by decide) _ _ _ rfl HOr.out ⟨ga, 0, none⟩ l.length c (strs l) rfl (by rw [strs_length]; omega) HN.out H1c.out (by unfold maxLen; simp; omega) (by simp; omega) hsz ?_)
          intro v' w2 hown hgrow _
          have HO2 : Hid (w2.ownsRow w.heap.size 9 1 v' (l).length (strs (l))) := by
            show World.ownsRow _ _ _ _ _ _ _
            simpa [strs] using hown
          have HW2 : Hid (Below w.heap.size w w2) := HWr.out.grown hgrow hsz (fun q hq => (HOr.out.lt q hq).1)
          clear hown hgrow
          go_wp2_with fail
          exact ⟨⟨1, l, rfl, .inr (.inl ⟨rfl, rfl⟩), HO2.out, HW2.out⟩, by decide⟩
        · have HOr : Hid (wr.ownsRow w.heap.size 9 1 u6 dn.length (strs dn)) := hown
          clear hown hb
          have HS : Hid (Row wr bk [.slice (some ⟨ga, 0, none⟩) dn.length c, .slice (some ⟨gb, 0, none⟩) m.length d]) := HB.out.below HWr.out
          have bc := HS.out.cell 1 _ rfl
          have HN : Hid (∀ j u, (strs m)[j]? = some u → wr.cell? ((⟨gb, 0, none⟩ : Addr).add j) = some u) := fun j u hj => by
            rw [Addr.add_mid, Nat.zero_add]
            exact (HM.out.below HWr.out).cell j u hj
          have H1c : Hid (∀ u ∈ strs m, u.oneCell' = true) := fun u hu => by obtain ⟨b, _, rfl⟩ := List.mem_map.1 hu; rfl
          have hsz : w.heap.size ≤ wr.heap.size := HWr.out.size
          go_wp2_with (at_builtin; refine wpList_append_own _ rfl _ _ 47 rfl w.heap.size 9 i0 (.string ByteArray.empty) 1 16 Tryz.underlying47 hi hz0 hz1 hz2 rfl (by decide) _ _ _ rfl HOr.out ⟨gb, 0, none⟩ m.length d (strs m) rfl (by rw [strs_length]; omega) HN.out H1c.out (by unfold maxLen; have := h1; omega) (by have := h1; omega) hsz ?_)
          intro v' w2 hown hgrow _
          have HO2 : Hid (w2.ownsRow w.heap.size 9 1 v' (dn ++ m).length (strs (dn ++ m))) := by
            show World.ownsRow _ _ _ _ _ _ _
            simpa [strs] using hown
          have HW2 : Hid (Below w.heap.size w w2) := HWr.out.grown hgrow hsz (fun q hq => (HOr.out.lt q hq).1)
          clear hown hgrow
          go_wp2_with fail
          exact ⟨⟨2, dn ++ m, rfl, .inr (.inr ⟨rfl, rfl⟩), HO2.out, HW2.out⟩, by decide⟩
        · have HOr : Hid (wr.ownsRow w.heap.size 9 1 u6 (l ++ m).length (strs (l ++ m))) := hown
          clear hown hb
          have HV := row_of_owns_cap HOr.out (by simp; omega)
          go_wp2_with fail
          go_ret
          obtain ⟨g, cap, rfl, hcap, hrow⟩ := HV
          exact ⟨g, cap, rfl, hcap, hrow, HWr.out⟩
end Go.Proofs.YtejleghdgdbbnaaGreatDoor
