/- JournalAdd: slices.Grow, slices.Concat, line. -/
import Derived.Test.YtpdmhpcejmankaaDoorJoQ
import Derived.Test.YtpdmhpcejmankaaDoorShelfG
import Derived.Laws.AppendOwn
namespace Go.Proofs.YtpdmhpcejmankaaDoor
open Go.ChangeShapes Go.WideShapes Go.ChangeAt Go.RowKit
open Go.Joins (ownsRow_forms)

/-- slices.Grow of nil by one byte or more: room that nobody else has. -/
theorem grow_c (n : Nat) (h0 : 0 < n) (h1 : n ≤ 4194304) (w : World) :
    Calls Tryd.prog 60 #[.slice none 0 0, .int .i64 (n : Int)] w fun e w' => ∃ g cap, e = .returned (.slice (some ⟨g, 0, none⟩) 0 cap) ∧ w'.ownsRow w.heap.size 5 1 (.slice (some ⟨g, 0, none⟩) 0 cap) 0 [] ∧ Below w.heap.size w w' := by
  obtain ⟨i0, hi, hz0, hz1, hz2⟩ := info_parts infoByte
  refine (Any8.slices_Grow_grow Tryd.growB i0 (.int .u8 0) hi hz0 (by omega) none 0 0 n [] w (Nat.le_refl _) (by omega) (by rw [hz2]; omega) (by omega) (by simp) (fun _ => rfl) (fun a h => by cases h)).mono ?_
  rintro e w' ⟨rfl, rfl⟩
  have hcap : n ≤ grownCap w n 0 5 := grownCap_ge w n 0 _
  have hmax : grownCap w n 0 5 ≤ maxLen := grownCap_le_maxLen w n 0 _ (by unfold maxLen; omega)
  refine ⟨w.heap.size, grownCap w n 0 5, by simp; rfl, ?_, ?_⟩
  · refine World.ownsRow_made (base := w.heap.size) (e := 5) (size := 1) w.drew _ _ (Nat.le_refl _) hmax ?_
    simp [Builtin.zeroCells, Value.cells]
    show n + (grownCap w n 0 5 - n) = grownCap w n 0 5
    omega
  · exact below_then (low_drew w) (low_alloc _ _)

set_option maxHeartbeats 2000000 in
set_option maxRecDepth 100000 in
theorem concat_c (w : World) (bk : Nat) (ga gb : Nat) (c d : Nat) (l m : List UInt8) (hbx : Row w bk [.slice (some ⟨ga, 0, none⟩) l.length c, .slice (some ⟨gb, 0, none⟩) m.length d]) (hl : ByA w (some ⟨ga, 0, none⟩) l) (hm : ByA w (some ⟨gb, 0, none⟩) m) (h1 : l.length ≤ 1048576) (h2 : m.length ≤ 1048576) (h0 : 0 < m.length) :
    Calls Tryd.prog 43 #[.slice (some ⟨bk, 0, none⟩) 2 2] w fun e w' => ∃ v, e = .returned v ∧ Ans w.heap.size w'.heap.size w' (bys (l ++ m)) v ∧ Below w.heap.size w w' := by
  have HB : Hid (Row w bk [.slice (some ⟨ga, 0, none⟩) l.length c, .slice (some ⟨gb, 0, none⟩) m.length d]) := hbx
  have HL : Hid (ByA w (some ⟨ga, 0, none⟩) l) := hl
  have HM : Hid (ByA w (some ⟨gb, 0, none⟩) m) := hm
  have b0 := hbx.cell 0 _ rfl
  have b1 := hbx.cell 1 _ rfl
  clear hbx hl hm
  go_enter Tryd.func43, Tryd.ntmps43
  go_wp2_with fail
  go_loop [3, 11] (fun sz i => (i = .int .i64 0 ∧ sz = .int .i64 0) ∨ (i = .int .i64 1 ∧ sz = .int .i64 (l.length : Int)) ∨ (i = .int .i64 2 ∧ sz = .int .i64 ((l.length : Int) + m.length))) (fun _ i => 2 - (intOf i).toNat)
  case atStart => exact .inl ⟨rfl, rfl⟩
  case round =>
    rcases hrel with ⟨rfl, rfl⟩ | ⟨rfl, rfl⟩ | ⟨rfl, rfl⟩
    · have hn : ¬ ((l.length : Int) < 0) := by omega
      go_wp2_with fail
      exact ⟨.inr (.inl ⟨rfl, rfl⟩), by decide⟩
    · have hn : ¬ ((l.length : Int) + (m.length : Int) < 0) := by omega
      go_wp2_with fail
      exact ⟨.inr (.inr ⟨rfl, rfl⟩), by decide⟩
    · have HGr := grow_c (l.length + m.length) (by omega) (by omega) w
      rw [Int.natCast_add] at HGr
      go_wp2_with fail
      refine HGr.mono ?_
      clear HGr
      rintro e w1 ⟨g0, cap0, rfl, hown, hb⟩
      have HO : Hid (w1.ownsRow w.heap.size 5 1 (.slice (some ⟨g0, 0, none⟩) 0 cap0) 0 []) := hown
      have HW : Hid (Below w.heap.size w w1) := hb
      clear hown hb
      obtain ⟨i0, hi, hz0, hz1, hz2⟩ := info_parts infoByte
      go_wp2_with fail
      go_loopw [6, 27] (fun ns i wr => ∃ (j : Nat) (dn : List UInt8), i = .int .i64 (j : Int) ∧ ((j = 0 ∧ dn = []) ∨ (j = 1 ∧ dn = l) ∨ (j = 2 ∧ dn = l ++ m)) ∧ wr.ownsRow w.heap.size 5 1 ns dn.length (bys dn) ∧ Below w.heap.size w wr) (fun _ i _ => 2 - (intOf i).toNat)
      case atStart => exact ⟨0, [], rfl, .inl ⟨rfl, rfl⟩, HO.out, HW.out⟩
      case round =>
        obtain ⟨j, dn, rfl, hj, hown, hb⟩ := hrel
        have HWr : Hid (Below w.heap.size w wr) := hb
        rcases hj with ⟨rfl, rfl⟩ | ⟨rfl, rfl⟩ | ⟨rfl, rfl⟩
        · have HOr : Hid (wr.ownsRow w.heap.size 5 1 u6 ([] : List UInt8).length (bys [])) := hown
          clear hown hb
          have HS : Hid (Row wr bk [.slice (some ⟨ga, 0, none⟩) l.length c, .slice (some ⟨gb, 0, none⟩) m.length d]) := HB.out.below HWr.out
          have bc := HS.out.cell 0 _ rfl
          have HN : Hid (∀ j u, (bys l)[j]? = some u → wr.cell? ((⟨ga, 0, none⟩ : Addr).add j) = some u) := fun j u hj => by
            obtain ⟨x, hx, rfl⟩ : ∃ x, l[j]? = some x ∧ u = .int .u8 (x.toNat : Int) := by
              rw [bys_get] at hj
              cases h : l[j]? with
              | none => rw [h] at hj; cases hj
              | some x => rw [h] at hj; exact ⟨x, rfl, (Option.some.inj hj).symm⟩
            obtain ⟨q, o, e, _, hc⟩ := (HL.out.below HWr.out).cell j x hx
            cases e
            rw [add_plain]
            exact hc
          have H1c : Hid (∀ u ∈ bys l, u.oneCell' = true) := fun u hu => by obtain ⟨b, _, rfl⟩ := List.mem_map.1 hu; rfl
          have hsz : w.heap.size ≤ wr.heap.size := HWr.out.size
          go_wp2_with (at_builtin; refine wpList_append_own _ rfl _ _ 22 rfl w.heap.size 5 i0 (.int .u8 0) 1 1 Tryd.underlying22 hi hz0 hz1 hz2 rfl (by decide) _ _ _ rfl HOr.out ⟨ga, 0, none⟩ l.length c (bys l) rfl (by rw [bys_len]; omega) HN.out H1c.out (by unfold maxLen; simp; omega) (by simp; omega) hsz ?_)
          intro v' w2 hown hgrow _
          have HO2 : Hid (w2.ownsRow w.heap.size 5 1 v' (l).length (bys (l))) := by
            show World.ownsRow _ _ _ _ _ _ _
            simpa [bys] using hown
          have HW2 : Hid (Below w.heap.size w w2) := HWr.out.grown hgrow hsz (fun q hq => (HOr.out.lt q hq).1)
          clear hown hgrow
          go_wp2_with fail
          exact ⟨⟨1, l, rfl, .inr (.inl ⟨rfl, rfl⟩), HO2.out, HW2.out⟩, by decide⟩
        · have HOr : Hid (wr.ownsRow w.heap.size 5 1 u6 dn.length (bys dn)) := hown
          clear hown hb
          have HS : Hid (Row wr bk [.slice (some ⟨ga, 0, none⟩) dn.length c, .slice (some ⟨gb, 0, none⟩) m.length d]) := HB.out.below HWr.out
          have bc := HS.out.cell 1 _ rfl
          have HN : Hid (∀ j u, (bys m)[j]? = some u → wr.cell? ((⟨gb, 0, none⟩ : Addr).add j) = some u) := fun j u hj => by
            obtain ⟨x, hx, rfl⟩ : ∃ x, m[j]? = some x ∧ u = .int .u8 (x.toNat : Int) := by
              rw [bys_get] at hj
              cases h : m[j]? with
              | none => rw [h] at hj; cases hj
              | some x => rw [h] at hj; exact ⟨x, rfl, (Option.some.inj hj).symm⟩
            obtain ⟨q, o, e, _, hc⟩ := (HM.out.below HWr.out).cell j x hx
            cases e
            rw [add_plain]
            exact hc
          have H1c : Hid (∀ u ∈ bys m, u.oneCell' = true) := fun u hu => by obtain ⟨b, _, rfl⟩ := List.mem_map.1 hu; rfl
          have hsz : w.heap.size ≤ wr.heap.size := HWr.out.size
          go_wp2_with (at_builtin; refine wpList_append_own _ rfl _ _ 22 rfl w.heap.size 5 i0 (.int .u8 0) 1 1 Tryd.underlying22 hi hz0 hz1 hz2 rfl (by decide) _ _ _ rfl HOr.out ⟨gb, 0, none⟩ m.length d (bys m) rfl (by rw [bys_len]; omega) HN.out H1c.out (by unfold maxLen; simp; omega) (by simp; omega) hsz ?_)
          intro v' w2 hown hgrow _
          have HO2 : Hid (w2.ownsRow w.heap.size 5 1 v' (dn ++ m).length (bys (dn ++ m))) := by
            show World.ownsRow _ _ _ _ _ _ _
            simpa [bys] using hown
          have HW2 : Hid (Below w.heap.size w w2) := HWr.out.grown hgrow hsz (fun q hq => (HOr.out.lt q hq).1)
          clear hown hgrow
          go_wp2_with fail
          exact ⟨⟨2, dn ++ m, rfl, .inr (.inr ⟨rfl, rfl⟩), HO2.out, HW2.out⟩, by decide⟩
        · have HOr : Hid (wr.ownsRow w.heap.size 5 1 u6 (l ++ m).length (bys (l ++ m))) := hown
          clear hown hb
          go_wp2_with fail
          go_ret
          exact ⟨u6, rfl, Ans.of_owns HOr.out, HWr.out⟩
end Go.Proofs.YtpdmhpcejmankaaDoor
