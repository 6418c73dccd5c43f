/- Dues that change places in a heap: the program's firstBelow, rise and sink. -/
import Derived.Test.YtdmmjggkdkmeaaaHqA
import Derived.Test.YtdmmjggkdkmeaaaHpE
import Derived.Laws.OwnMore
import Derived.Lib.BufferWrite
import Derived.BigRegion
namespace Go.Proofs.Ytdmmjggkdkmeaaa
open Go.ChangeShapes Go.WideShapes Go.ChangeAt Go.RowKit

theorem grown_setCs {g : Nat} (vs : List Value) : ∀ {w : World} (m : Nat), w.grownBy (w.setCells g m vs) (some g) := by
  induction vs with
  | nil => intro w m; exact World.grownBy.refl _ _
  | cons v r ih => intro w m; exact (Lib.grownBy_setCell w g m v).trans (ih (m + 1))
theorem grown_below {w w' : World} {r : Option Nat} (h : Below w.heap.size w w') : w.grownBy w' r := ⟨h.os, h.tape, h.output, h.size, fun k hk _ => h.block k hk⟩
theorem owns_setG {B n g cap : Nat} {e : TypeId} (vs : List Value) : ∀ {w : World} {xs : List Value} (m : Nat), w.ownsRow B e 2 (.slice (some ⟨g, 0, none⟩) n cap) n xs → m + vs.length ≤ xs.length → (w.setCells g m vs).ownsRow B e 2 (.slice (some ⟨g, 0, none⟩) n cap) n (Go.Proofs.Ytdmmjggkdkmeaaa.putL xs m vs) := by
  induction vs with
  | nil => intro w xs m h _; exact h
  | cons v r ih =>
    intro w xs m h hm
    simp only [List.length_cons] at hm
    exact ih (m + 1) (World.ownsRow.stored h m v).1 (by rw [List.length_set]; omega)
/-- What lies beside two blocks stays as it is. -/
structure Duo (w w' : World) (b g : Nat) : Prop where
  os : w'.os = w.os
  tape : w'.tape = w.tape
  output : w'.output = w.output
  size : w.heap.size ≤ w'.heap.size
  block : ∀ k, k < w.heap.size → k ≠ b → k ≠ g → w'.heap[k]? = w.heap[k]?
theorem Duo.refl (w : World) (b g : Nat) : Duo w w b g := ⟨rfl, rfl, rfl, Nat.le_refl _, fun _ _ _ _ => rfl⟩
theorem Duo.grown {w u w' : World} {b g : Nat} {r : Option Nat} (h : Duo w u b g) (hg : u.grownBy w' r) (hr : r = some b ∨ r = some g) : Duo w w' b g :=
  ⟨hg.os.trans h.os, hg.tape.trans h.tape, hg.output.trans h.output, Nat.le_trans h.size hg.size, fun k hk hb hg' => (hg.block k (Nat.lt_of_lt_of_le hk h.size) (by rcases hr with rfl | rfl <;> (intro e; cases e; contradiction))).trans (h.block k hk hb hg')⟩
theorem Duo.then {w u w' : World} {b g : Nat} (h : Duo w u b g) (hb : Below u.heap.size u w') : Duo w w' b g := h.grown (grown_below (r := some b) hb) (.inl rfl)
theorem Duo.then' {w u w' : World} {b g : Nat} (h : Duo w u b g) (hb : Below w.heap.size u w') : Duo w w' b g :=
  ⟨hb.os.trans h.os, hb.tape.trans h.tape, hb.output.trans h.output, Nat.le_trans h.size hb.size, fun k hk h1 h2 => (hb.block k hk).trans (h.block k hk h1 h2)⟩
theorem Duo.below {w w' : World} {b g B : Nat} (h : Duo w w' b g) (hB : B ≤ w.heap.size) (hb : B ≤ b) (hg : B ≤ g) : Below B w w' :=
  ⟨h.os, h.tape, h.output, h.size, fun k hk => h.block k (by omega) (by omega) (by omega)⟩
theorem Duo.row {w w' : World} {b g k : Nat} {xs : List Value} (h : Duo w w' b g) (hr : Row w k xs) (h1 : k ≠ b) (h2 : k ≠ g) : Row w' k xs :=
  have e := h.block k hr.lt h1 h2
  ⟨fun i u hu => (World.cell?_of_block (a := ⟨k, i, none⟩) e).trans (hr.cell i u hu), fun i => (World.frozen?_of_block (a := ⟨k, i, none⟩) e).trans (hr.free i), Nat.lt_of_lt_of_le hr.lt h.size⟩
theorem Duo.owns {w w' : World} {b g B n size : Nat} {e : TypeId} {v : Value} {xs : List Value} (h : Duo w w' b g) (ho : w.ownsRow B e size v n xs) (h1 : v.ownBlock ≠ some b) (h2 : v.ownBlock ≠ some g) : w'.ownsRow B e size v n xs := by
  obtain ⟨hlen, ho⟩ := ho
  refine ⟨hlen, ?_⟩
  rcases ho with ho | ⟨q, cap, cur, rfl, hB, hg, r⟩
  · exact .inl ho
  · refine .inr ⟨q, cap, cur, rfl, hB, ?_, r⟩
    have hlt : q < w.heap.size := by
      rcases Nat.lt_or_ge q w.heap.size with h' | h'
      · exact h'
      · rw [Array.getElem?_eq_none h'] at hg; cases hg
    rw [h.block q hlt (fun e => h1 (by rw [e]; rfl)) (fun e => h2 (by rw [e]; rfl))]
    exact hg
/-- The place below that comes first; a place behind the list where there is none. -/
def fbl (l : List Du) (i : Nat) : Nat := if 2 * i + 2 < l.length ∧ duL (dg l (2 * i + 2)) (dg l (2 * i + 1)) = true then 2 * i + 2 else 2 * i + 1
theorem fbl_yes {l : List Du} {i : Nat} (h : fbl l i < l.length) : dch l i = fbl l i := by
  have h1 : 2 * i + 1 < l.length := by unfold fbl at h; split at h <;> omega
  unfold dch fbl
  rw [if_pos h1]
theorem fbl_no {l : List Du} {i : Nat} (h : ¬ fbl l i < l.length) : ¬ dch l i < l.length := by
  unfold fbl at h
  unfold dch
  split at h
  · omega
  · rw [if_neg (by omega)]; omega
theorem fbl_le (l : List Du) (i : Nat) : fbl l i ≤ 2 * i + 2 := by unfold fbl; split <;> omega
set_option maxHeartbeats 4000000 in
set_option maxRecDepth 100000 in
theorem firstBelow_c (b : Option Addr) (d : Nat) (l : List Du) (hl : l.length ≤ 1048576) (i : Nat) (hi : i ≤ 1048576) (w : World) (h : Sq w b (flatD l)) :
    Calls Try.prog 53 #[.slice b l.length d, .int .i64 i] w fun e w' => e = .returned (.int .i64 ((fbl l i : Nat) : Int)) ∧ Below w.heap.size w w' := by
  have H : Hid (Sq w b (flatD l)) := h
  clear h
  obtain ⟨k, hk⟩ : ∃ k : Nat, k = 2 * i + 1 := ⟨_, rfl⟩
  have hki : 2 * (i : Int) + 1 = (k : Int) := by omega
  have hk0 : (0 : Int) ≤ (k : Int) := by omega
  have hkm : (k : Int) ≤ 2097153 := by omega
  have hsome := beh_some w
  by_cases h2 : k + 1 < l.length
  · have hk1 : k < l.length := by omega
    obtain ⟨p, rfl⟩ := H.out.some_ofD k hk1
    have HX : Hid (l[k]? = some l[k]) := List.getElem?_eq_getElem hk1
    have HG : Hid (dg l k = l[k]) := dg_eq hk1
    generalize l[k] = x at HX HG
    have x0 := Beh.due0 H.out HX.out
    have x1 := Beh.dueK H.out HX.out 1 (by decide) _ rfl
    have hg0 : decide ((k : Int) + 1 < (l.length : Int)) = true := by simp; omega
    have hj0 : (0 : Int) ≤ (k : Int) + 1 := by omega
    have hj1 : (k : Int) + 1 < (l.length : Int) := by omega
    have hkl : (k : Int) < (l.length : Int) := by omega
    have HY : Hid (l[k + 1]? = some l[k + 1]) := List.getElem?_eq_getElem h2
    have HGy : Hid (dg l (k + 1) = l[k + 1]) := dg_eq h2
    generalize l[k + 1] = y at HY HGy
    have y0 := Beh.due0 H.out HY.out
    have y1 := Beh.dueK H.out HY.out 1 (by decide) _ rfl
    have HDf : Hid (∀ W : World, Calls Try.prog 38 #[.agg #[.int .i64 y.t, .int .i64 y.n], .agg #[.int .i64 x.t, .int .i64 x.n]] W fun e w' => e = .returned (.bool (duL y x)) ∧ Below W.heap.size W w') := fun W => aheadOf_c y x W
    have hmt := ahead_method y
    have HR : Hid (((fbl l i : Nat) : Int) = if duL y x = true then (k : Int) + 1 else (k : Int)) := by
      show _ = _
      have e2 : 2 * i + 2 = k + 1 := by omega
      unfold fbl
      rw [e2, ← hk, HG.out, HGy.out]
      cases duL y x <;> simp [h2]
    clear hk HX HY HG HGy h2 hk1 hi
    go_enter Try.func53, Try.ntmps53
    go_wp2_with fail
    cases hq : duL y x
    · rw [hq] at HDf HR
      clear hq
      refine wp_region_beh (by kernel_rfl) (by kernel_rfl) ?_
      repeat (go_big_quiet_step (first | (go_at_call 38; exact calls_beh (HDf.out _))))
      refine wpQuiet_nil ?_
      rintro ⟨w5, hb5⟩
      have HB5 : Hid (Below w.heap.size w w5) := hb5
      go_wp2_with fail
      go_ret
      exact ⟨by rw [HR.out]; rfl, HB5.out⟩
    · rw [hq] at HDf HR
      clear hq
      refine wp_region_beh (by kernel_rfl) (by kernel_rfl) ?_
      repeat (go_big_quiet_step (first | (go_at_call 38; exact calls_beh (HDf.out _))))
      refine wpQuiet_nil ?_
      rintro ⟨w5, hb5⟩
      have HB5 : Hid (Below w.heap.size w w5) := hb5
      go_wp2_with fail
      go_ret
      exact ⟨by rw [HR.out]; rfl, HB5.out⟩
  · have hg0 : decide ((k : Int) + 1 < (l.length : Int)) = false := by simp; omega
    have HR : Hid (((fbl l i : Nat) : Int) = (k : Int)) := by
      show _ = _
      have e2 : 2 * i + 2 = k + 1 := by omega
      unfold fbl
      rw [e2, if_neg (fun t => h2 t.1), hk]
    clear hk h2 hi
    go_enter Try.func53, Try.ntmps53
    go_wp2_with fail
    refine wp_region_beh (by kernel_rfl) (by kernel_rfl) ?_
    repeat (go_big_quiet_step (fail))
    refine wpQuiet_nil ?_
    rintro ⟨w5, hb5⟩
    have HB5 : Hid (Below w.heap.size w w5) := hb5
    go_wp2_with fail
    go_ret
    exact ⟨by rw [HR.out]; rfl, HB5.out⟩
end Go.Proofs.Ytdmmjggkdkmeaaa
