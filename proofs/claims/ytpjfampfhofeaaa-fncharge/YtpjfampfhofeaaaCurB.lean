/- The cursor's numbers. -/
import Derived.Test.YtpjfampfhofeaaaCurA
import Derived.Deep.DeepCutAuto
namespace Go.Proofs.Ytpjfampfhofeaaa
open Go.ChangeShapes Go.WideShapes Go.ChangeAt Go.RowKit

theorem grown_new {a w : World} {r : Option Nat} (h : a.grownBy w r) (b i : Nat) (hb : a.heap.size ≤ b) (v : Value) : a.grownBy (w.setCell ⟨b, i, none⟩ v) r := by
  have k := Lib.grownBy_setCell w b i v
  exact ⟨k.os.trans h.os, k.tape.trans h.tape, k.output.trans h.output, Nat.le_trans h.size k.size, fun j hj hne => (k.block j (Nat.lt_of_lt_of_le hj h.size) (by intro e; cases e; omega)).trans (h.block j hj hne)⟩

theorem CodeIs.below {w w' : World} {a : Option Addr} {n : Nat} (h : CodeIs w a n) (hb : Below w.heap.size w w') : CodeIs w' a n :=
  ⟨h.small, fun i hi => by
    obtain ⟨p, x, ha, hp, hc, h0, h1⟩ := h.cell i hi
    refine ⟨p, x, ha, Nat.lt_of_lt_of_le hp hb.size, ?_, h0, h1⟩
    rw [hb.cell (p := p.add i) (by rw [block_add]; exact hp)]
    exact hc⟩

theorem Cur.below {w w' : World} {g : Nat} {a : Option Addr} {n cap : Nat} (h : Cur w g a n cap) (hb : Below w.heap.size w w') : Cur w' g a n cap := by
  obtain ⟨i, v, hi, hr, hc, hn⟩ := h
  exact ⟨i, v, hi, hr.below hb, hc.below hb, hn⟩

/-- Another block has been written since. -/
theorem Cur.on {w W W' : World} {g b : Nat} {a : Option Addr} {n cap : Nat} (h0 : Cur w g a n cap) (hg : w.grownBy W' (some g)) (h1 : Cur W g a n cap) (h2 : W.grownBy W' (some b)) (hb : g ≠ b) : Cur W' g a n cap := by
  obtain ⟨_, _, _, _, hc, hn⟩ := h0
  obtain ⟨i, v, hi, hr, _, _⟩ := h1
  exact ⟨i, v, hi, hr.far h2 (by intro e; exact hb (Option.some.inj e)), hc.grown hg hn, hn⟩

theorem Cur.lt {w : World} {g : Nat} {a : Option Addr} {n cap : Nat} (h : Cur w g a n cap) : g < w.heap.size := by
  obtain ⟨_, _, _, hr, _⟩ := h
  exact hr.lt

/-- What has grown since w, the cursor's block alone written of what lay there, with the cursor in it. -/
def Tip (w W : World) (g : Nat) (a : Option Addr) (n cap : Nat) : Prop := w.grownBy W (some g) ∧ Cur W g a n cap

theorem Tip.set {w W : World} {g : Nat} {a : Option Addr} {n cap : Nat} (h0 : Cur w g a n cap) (t : Tip w W g a n cap) (b i : Nat) (hb : w.heap.size ≤ b) (v : Value) : Tip w (W.setCell ⟨b, i, none⟩ v) g a n cap :=
  ⟨grown_new t.1 b i hb v, Cur.on h0 (grown_new t.1 b i hb v) t.2 (Lib.grownBy_setCell W b i v) (by have := h0.lt; omega)⟩

theorem row_new (w : World) (xs : List Value) (t : TypeId) : Row (w.alloc (.cells xs.toArray t)) w.heap.size xs := by
  refine ⟨fun i u hu => ?_, fun i => ?_, by go_size⟩
  · rw [World.cell?_alloc_at _ _ _ _ rfl]
    simpa using hu
  · exact World.frozen?_alloc_at _ _ _ _ rfl

theorem mod_in {x m : Int} (hm : 0 < m) : 0 ≤ x % m ∧ x % m < m := ⟨Int.emod_nonneg _ (by omega), Int.emod_lt_of_pos _ hm⟩
theorem tmod_in {x m : Int} (hx : 0 ≤ x) (hm : 0 < m) : 0 ≤ x.tmod m ∧ x.tmod m < m := by
  rw [Int.tmod_eq_emod_of_nonneg hx]; exact mod_in hm

set_option maxHeartbeats 1000000 in
theorem l01Below_c (g : Nat) (a : Option Addr) (n cap : Nat) (m : Int) (hm : 0 < m) (hm' : m ≤ 4294967296) (w : World) (h : Cur w g a n cap) :
    Calls Try.prog 45 #[.pointer (some ⟨g, 0, none⟩), .int .i64 m] w fun e w' => ∃ x : Int, e = .returned (.int .i64 x) ∧ 0 ≤ x ∧ x < m ∧ w.grownBy w' (some g) ∧ Cur w' g a n cap := by
  have H : Hid (Cur w g a n cap) := h
  clear h
  by_cases hs : m ≤ 256
  · go_enter Try.func45, Try.ntmps45
    go_wp2_with fail
    refine (l01Byte_c g a n cap _ H.out).mono ?_
    rintro e w1 ⟨x, rfl, hx0, hx1, hg1, hc1⟩
    have HG1 : Hid (w.grownBy w1 (some g)) := hg1
    have HC1 : Hid (Cur w1 g a n cap) := hc1
    clear hg1 hc1
    go_wp2_with fail
    go_ret
    exact ⟨_, rfl, (by first | exact (mod_in hm).1 | exact (tmod_in hx0 hm).1), (by first | exact (mod_in hm).2 | exact (tmod_in hx0 hm).2), HG1.out, HC1.out⟩
  · go_enter Try.func45, Try.ntmps45
    go_wp2_with fail
    refine (l01Byte_c g a n cap _ H.out).mono ?_
    rintro e w1 ⟨x, rfl, hx0, hx1, hg1, hc1⟩
    have HG1 : Hid (w.grownBy w1 (some g)) := hg1
    have HC1 : Hid (Cur w1 g a n cap) := hc1
    clear hg1 hc1
    go_wp2_with fail
    refine (l01Byte_c g a n cap _ HC1.out).mono ?_
    rintro e w2 ⟨y, rfl, hy0, hy1, hg2, hc2⟩
    have HG2 : Hid (w.grownBy w2 (some g)) := Lib.grownBy_trans HG1.out hg2
    have HC2 : Hid (Cur w2 g a n cap) := hc2
    clear hg2 hc2 HG1 HC1
    go_wp2_with fail
    refine (l01Byte_c g a n cap _ HC2.out).mono ?_
    rintro e w3 ⟨z, rfl, hz0, hz1, hg3, hc3⟩
    have HG3 : Hid (w.grownBy w3 (some g)) := Lib.grownBy_trans HG2.out hg3
    have HC3 : Hid (Cur w3 g a n cap) := hc3
    clear hg3 hc3 HG2 HC2
    go_wp2_with fail
    refine (l01Byte_c g a n cap _ HC3.out).mono ?_
    rintro e w4 ⟨v, rfl, hv0, hv1, hg4, hc4⟩
    have HG4 : Hid (w.grownBy w4 (some g)) := Lib.grownBy_trans HG3.out hg4
    have HC4 : Hid (Cur w4 g a n cap) := hc4
    clear hg4 hc4 HG3 HC3
    go_wp2_with fail
    go_ret
    exact ⟨_, rfl, (by first | exact (mod_in hm).1 | exact (tmod_in (by omega) hm).1), (by first | exact (mod_in hm).2 | exact (tmod_in (by omega) hm).2), HG4.out, HC4.out⟩
end Go.Proofs.Ytpjfampfhofeaaa
