/- The program's walk that finds all levels, from the last switch to the first. -/
import Derived.Test.YtmpkfcgpdbkjdaaLvA
import Derived.Test.YtmpkfcgpdbkjdaaTopE
namespace Go.Proofs.Ytmpkfcgpdbkjdaa
open Go.ChangeShapes Go.WideShapes Go.ChangeAt Go.RowKit

/-- 'make([]int, n)': zeros. -/
theorem make_zeros (n : Nat) (hn : n ≤ 1048576) (w : World) : (Instr.makeSlice 22 (.int .i64 (n : Int)) (.int .i64 (n : Int))).run Try.prog w = .ok (.slice (some ⟨w.heap.size, 0, none⟩) n n) (w.alloc (.cells (ints (List.replicate n 0)).toArray 3)) := by
  obtain ⟨i0, hi, hz0, hz1, hz2⟩ := info_parts infoInt
  have hZ : madeCells (Value.int .i64 0).cells (n * i0.size) = (ints (List.replicate n 0)).toArray := by
    rw [hz1]
    apply Array.ext
    · simp [madeCells, ints]
    · intro i h1 h2
      simp [madeCells, ints, Value.cells, Nat.mod_one]
  have h := run_make (P := Try.prog) (w := w) 22 3 i0 (.int .i64 0) Try.underlying22 hi hz0 .i64 .i64 (n : Int) (n : Int) (by omega) (Int.le_refl _) (by rw [hz2]; omega) (by omega)
  rw [← hZ]
  simpa using h

/-- What the walk over the levels answers. -/
def LvSays (w : World) (ps : List Int) (e : Ending) (w' : World) : Prop :=
  (e = .returned (.tuple #[.slice none 0 0, .bool false]) ∧ ¬ TreeOk ps ∧ Below w.heap.size w w') ∨
  (∃ g L, e = .returned (.tuple #[.slice (some ⟨g, 0, none⟩) ps.length ps.length, .bool true]) ∧ TreeOk ps ∧ L.length = ps.length ∧ (∀ i : Nat, i < ps.length → L[i]? = some (lvN ps i)) ∧ w.heap.size ≤ g ∧ Row w' g (ints L) ∧ Below w.heap.size w w')

theorem lv_no {w w' : World} {ps : List Int} {e : Ending} (he : e = .returned (.tuple #[.slice none 0 0, .bool false])) (h : ¬ TreeOk ps) (hb : Below w.heap.size w w') : LvSays w ps e w' := .inl ⟨he, h, hb⟩

theorem Row.drewN {w : World} {g : Nat} {xs : List Value} (h : Row w g xs) (m : Nat) : Row (w.drewN m) g xs := ⟨h.cell, h.free, h.lt⟩
theorem below_drewN {w W : World} (h : Below w.heap.size w W) (m : Nat) : Below w.heap.size w (W.drewN m) := below_then h ⟨rfl, rfl, rfl, Nat.le_refl _, fun _ _ => rfl⟩

theorem levelsOf_none (a : Option Addr) (c : Nat) (ps : List Int) (w : World) (h : ps.length < 1) : Calls Try.prog 76 #[.slice a ps.length c] w (LvSays w ps) := by
  have hi : (ps.length : Int) < 1 := by omega
  have HN : Hid (¬ TreeOk ps) := fun t => by have := t.one; omega
  clear h
  go_enter Try.func76, Try.ntmps76
  go_wp2_with fail
  go_ret2
  exact lv_no rfl HN.out (Below.refl _ _)

theorem levelsOf_many (a : Option Addr) (c : Nat) (ps : List Int) (w : World) (h : 24 < ps.length) : Calls Try.prog 76 #[.slice a ps.length c] w (LvSays w ps) := by
  have hi : ¬ (ps.length : Int) < 1 := by omega
  have hi' : 24 < (ps.length : Int) := by omega
  have HN : Hid (¬ TreeOk ps) := fun t => by have := t.few; omega
  clear h
  go_enter Try.func76, Try.ntmps76
  go_wp2_with fail
  go_ret2
  exact lv_no rfl HN.out (Below.refl _ _)

theorem levelsOf_top (a : Option Addr) (c : Nat) (ps : List Int) (w : World) (h : Sq w a (ints ps)) (h0 : 1 ≤ ps.length) (h1 : ps.length ≤ 24) (h3 : ps[0]? ≠ some 0) : Calls Try.prog 76 #[.slice a ps.length c] w (LvSays w ps) := by
  have hi : ¬ (ps.length : Int) < 1 := by omega
  have hi' : ¬ 24 < (ps.length : Int) := by omega
  have hi3 : (0 : Int) < (ps.length : Int) := by omega
  have HN : Hid (¬ TreeOk ps) := fun t => h3 t.top
  obtain ⟨p, rfl, hpb, hc⟩ := h.cell 0 _ (ints_at ps 0 h0)
  have hx : (ps[0] != 0) = true := by
    simp
    intro e
    apply h3
    rw [List.getElem?_eq_getElem h0, e]
  generalize ps[0] = x at hc hx
  rw [show p.add 0 = p from rfl] at hc
  clear h3 h
  go_enter Try.func76, Try.ntmps76
  go_wp2_with fail
  go_ret2
  exact lv_no rfl HN.out (Below.refl _ _)

set_option maxHeartbeats 2000000 in
theorem levelsOf_main (a : Option Addr) (c : Nat) (ps : List Int) (w : World) (h : Sq w a (ints ps)) (h0 : 1 ≤ ps.length) (h1 : ps.length ≤ 24) (h3 : ps[0]? = some 0) : Calls Try.prog 76 #[.slice a ps.length c] w (LvSays w ps) := by
  have hi : ¬ (ps.length : Int) < 1 := by omega
  have hi' : ¬ 24 < (ps.length : Int) := by omega
  have hi3 : (0 : Int) < (ps.length : Int) := by omega
  have HT : Hid (ps[0]? = some 0) := h3
  have H : Hid (Sq w a (ints ps)) := h
  obtain ⟨p, rfl, hpb, hc⟩ := h.cell 0 _ (ints_at ps 0 h0)
  have hx : ps[0] = 0 := by
    have := List.getElem?_eq_getElem h0
    rw [h3] at this
    exact (Option.some.inj this).symm
  rw [hx, show p.add 0 = p from rfl] at hc
  clear h3 h hx
  have hmk := make_zeros ps.length (by omega) w
  go_enter Try.func76, Try.ntmps76
  go_wp2_with fail
  go_loopw [5] (fun i wr => ∃ (k : Nat) (L : List Int), k < ps.length ∧ i = .int .i64 k ∧ LvAt ps L k ∧ Row wr w.heap.size (ints L) ∧ Below w.heap.size w wr) (fun i _ => (intOf i).toNat)
  case atStart => exact ⟨ps.length - 1, _, by omega, by go_num, LvAt.start ps (ps.length - 1) (by omega), row_fresh w _ 3, by go_grown⟩
  case round =>
    obtain ⟨k, L, hk, rfl, hat, hr, hb⟩ := hrel
    have HL : Hid (LvAt ps L k) := hat
    have HR : Hid (Row wr w.heap.size (ints L)) := hr
    have HB : Hid (Below w.heap.size w wr) := hb
    have hLl := hat.len
    clear hat hr hb hmk hc
    by_cases hlt : 0 < k
    · obtain ⟨s, hs⟩ : ∃ s, s + 1 = k := ⟨k - 1, by omega⟩
      have hsk : (s : Int) = k - 1 := by omega
      have HP : Hid (LvAt ps L (s + 1)) := by rw [hs]; exact HL.out
      have hi0 : (0 : Int) < (k : Int) := by omega
      have hi00 : (0 : Int) ≤ (k : Int) := by omega
      have hi1 : (k : Int) < (ps.length : Int) := by omega
      obtain ⟨p1, hpp, _, hc⟩ := (H.out.below HB.out).cell k _ (ints_at ps k hk)
      cases hpp
      have HX : Hid (ps[k]? = some ps[k]) := List.getElem?_eq_getElem hk
      generalize ps[k] = x at hc HX
      obtain ⟨z, hz⟩ : ∃ z, L[k]? = some z := ⟨_, List.getElem?_eq_getElem (by omega)⟩
      have HZ : Hid (L[k]? = some z) := hz
      obtain ⟨hz0, hz1⟩ := HL.out.pos _ _ hz
      have hwz : IntKind.i64.wrap (z + 1) = z + 1 := by rw [IntKind.wrap_i64]; omega
      have hcz := HR.out.cell k _ (by rw [ints_get, hz]; rfl)
      clear hz
      by_cases hx0 : x < 0
      · have HN : Hid (¬ TreeOk ps) := fun t => by have := t.tree k x (by omega) HX.out; omega
        go_wp2_with fail
        go_quiet (fail)
        go_wp2
        go_ret2
        exact lv_no rfl HN.out (below_then HB.out ⟨rfl, rfl, rfl, Nat.le_refl _, fun _ _ => rfl⟩)
      · have hd0 : decide (x < 0) = false := by simpa using hx0
        by_cases hx1 : (k : Int) ≤ x
        · have HN : Hid (¬ TreeOk ps) := fun t => by have := t.tree k x (by omega) HX.out; omega
          go_wp2_with fail
          go_quiet (fail)
          go_wp2
          go_ret2
          exact lv_no rfl HN.out (below_then HB.out ⟨rfl, rfl, rfl, Nat.le_refl _, fun _ _ => rfl⟩)
        · have hd1 : decide ((k : Int) ≤ x) = false := by simpa using hx1
          obtain ⟨q, rfl⟩ : ∃ q : Nat, x = q := ⟨x.toNat, by omega⟩
          have hd3 : decide (k ≤ q) = false := by simp; omega
          have hd4 : decide ((q : Int) < 0) = false := by simp
          clear hd1 hd0
          have hq0 : (0 : Int) ≤ (q : Int) := by omega
          have hq1 : (q : Int) < (ps.length : Int) := by omega
          obtain ⟨y, hy⟩ : ∃ y, L[q]? = some y := ⟨_, List.getElem?_eq_getElem (by omega)⟩
          have HY : Hid (L[q]? = some y) := hy
          have hyb := (HL.out.pos _ _ hy).1
          have hcy := HR.out.cell q _ (by rw [ints_get, hy]; rfl)
          have hfy := HR.out.free q
          clear hy
          by_cases hy0 : 0 < y
          · by_cases hyz : y = z + 1
            · have HL1 : Hid (LvAt ps (L.set q (z + 1)) s) := HP.out.step q (by rw [hs]; exact HX.out) (by omega) z y (by rw [hs]; exact HZ.out) HY.out (fun h => h.2 hyz)
              have hne : (y != z + 1) = false := by simpa using hyz
              clear hyz
              have HR1 : Hid (∀ m, Row ((wr.drewN m).setCell ⟨w.heap.size, q, none⟩ (.int .i64 (z + 1))) w.heap.size (ints (L.set q (z + 1)))) := fun m => by
                have := (HR.out.drewN m).set q (by rw [ints_len]; omega) (.int .i64 (z + 1))
                rw [ints, List.map_set]
                exact this
              have HB1 : Hid (∀ m, Below w.heap.size w ((wr.drewN m).setCell ⟨w.heap.size, q, none⟩ (.int .i64 (z + 1)))) := fun m => (below_drewN HB.out m).setCell (Nat.le_refl _) _
              go_wp2_with fail
              go_quiet (fail)
              go_wp2
              exact ⟨⟨s, _, by omega, by rw [hsk], HL1.out, HR1.out _, HB1.out _⟩, by simp [intOf]; omega⟩
            · have HN : Hid (¬ TreeOk ps) := HP.out.bad q (by rw [hs]; exact HX.out) z y (by rw [hs]; exact HZ.out) HY.out ⟨hy0, hyz⟩
              have hne : (y != z + 1) = true := by simpa using hyz
              go_wp2_with fail
              go_quiet (fail)
              go_wp2
              go_ret2
              exact lv_no rfl HN.out (below_then HB.out ⟨rfl, rfl, rfl, Nat.le_refl _, fun _ _ => rfl⟩)
          · obtain rfl : y = 0 := by omega
            have HL1 : Hid (LvAt ps (L.set q (z + 1)) s) := HP.out.step q (by rw [hs]; exact HX.out) (by omega) z 0 (by rw [hs]; exact HZ.out) HY.out (fun h => hy0 h.1)
            have HR1 : Hid (∀ m, Row ((wr.drewN m).setCell ⟨w.heap.size, q, none⟩ (.int .i64 (z + 1))) w.heap.size (ints (L.set q (z + 1)))) := fun m => by
              have := (HR.out.drewN m).set q (by rw [ints_len]; omega) (.int .i64 (z + 1))
              rw [ints, List.map_set]
              exact this
            have HB1 : Hid (∀ m, Below w.heap.size w ((wr.drewN m).setCell ⟨w.heap.size, q, none⟩ (.int .i64 (z + 1)))) := fun m => (below_drewN HB.out m).setCell (Nat.le_refl _) _
            go_wp2_with fail
            go_quiet (fail)
            go_wp2
            exact ⟨⟨s, _, by omega, by rw [hsk], HL1.out, HR1.out _, HB1.out _⟩, by simp [intOf]; omega⟩
    · obtain rfl : k = 0 := by omega
      go_wp2_with fail
      go_ret2
      exact .inr ⟨w.heap.size, L, rfl, HL.out.done h0 h1 HT.out, hLl, fun i hi => HL.out.final HL.out.isTree ps.length i (by omega) (Nat.zero_le _) hi, Nat.le_refl _, HR.out, HB.out⟩
end Go.Proofs.Ytmpkfcgpdbkjdaa
