/- Slices of numbers: copied, held against each other, marked, found marked. -/
import Derived.Test.YtpjfampfhofeaaaPartsP
import Derived.Deep.QuietTactic
import Derived.BigQuiet
namespace Go.Proofs.Ytpjfampfhofeaaa
open Go.ChangeShapes Go.WideShapes Go.ChangeAt Go.RowKit

/-- What a slice shows from its address on: cells of blocks that lie there. -/
structure Sq (w : World) (a : Option Addr) (xs : List Value) : Prop where
  cell : ∀ i u, xs[i]? = some u → ∃ p, a = some p ∧ p.block < w.heap.size ∧ w.cell? (p.add i) = some u

theorem Sq.below {w w' : World} {a : Option Addr} {xs : List Value} (h : Sq w a xs) (hb : Below w.heap.size w w') : Sq w' a xs :=
  ⟨fun i u hu => by
    obtain ⟨p, ha, hp, hc⟩ := h.cell i u hu
    exact ⟨p, ha, Nat.lt_of_lt_of_le hp hb.size, (hb.cell (p := p.add i) (by rw [block_add]; exact hp)).trans hc⟩⟩

/-- Numbers as they lie. -/
def ints (xs : List Int) : List Value := xs.map fun x => .int .i64 x
theorem ints_get (xs : List Int) (i : Nat) : (ints xs)[i]? = (xs[i]?).map fun x => .int .i64 x := by simp [ints]
theorem ints_len (xs : List Int) : (ints xs).length = xs.length := by simp [ints]
theorem ints_at (xs : List Int) (i : Nat) (h : i < xs.length) : (ints xs)[i]? = some (.int .i64 xs[i]) := by rw [ints_get, List.getElem?_eq_getElem h]; rfl

theorem row_fresh (w : World) (xs : List Value) (t : TypeId) : Row (w.alloc (.cells xs.toArray t)) w.heap.size xs := by
  refine ⟨fun i u hu => ?_, fun i => ?_, by go_size⟩
  · rw [World.cell?_alloc_at _ _ _ _ rfl]
    simpa using hu
  · exact World.frozen?_alloc_at _ _ _ _ rfl

theorem infoInt : (Try.prog.info? 3).map (fun i => (i.zero, i.size, i.bytes)) = some (some (.int .i64 0), 1, 8) := by kernel_rfl

/-- 'make([]int, n)'. -/
theorem make_ints (n : Nat) (hn : n ≤ 1048576) : ∃ Z : List Value, Z.length = n ∧ ∀ w : World, (Instr.makeSlice 25 (.int .i64 (n : Int)) (.int .i64 (n : Int))).run Try.prog w = .ok (.slice (some ⟨w.heap.size, 0, none⟩) n n) (w.alloc (.cells Z.toArray 3)) := by
  obtain ⟨i0, hi, hz0, hz1, hz2⟩ := info_parts infoInt
  refine ⟨(madeCells (Value.int .i64 0).cells (n * i0.size)).toList, ?_, fun w => ?_⟩
  · rw [hz1]
    simp [madeCells, Value.cells]
  · have h := run_make (P := Try.prog) (w := w) 25 3 i0 (.int .i64 0) Try.underlying25 hi hz0 .i64 .i64 (n : Int) (n : Int) (by omega) (Int.le_refl _) (by rw [hz2]; omega) (by omega)
    simpa using h

/-- Part of the numbers lies there already. -/
def Part (ys : List Value) (xs : List Int) (j : Nat) : Prop := ys.length = xs.length ∧ ∀ i (h : i < xs.length), i < j → ys[i]? = some (.int .i64 xs[i])

theorem Part.set {ys : List Value} {xs : List Int} {j : Nat} (h : Part ys xs j) (hj : j < xs.length) : Part (ys.set j (.int .i64 xs[j])) xs (j + 1) := by
  refine ⟨by rw [List.length_set]; exact h.1, fun i hi hij => ?_⟩
  by_cases e : i = j
  · subst e
    rw [List.getElem?_set_self (by rw [h.1]; exact hi)]
  · rw [List.getElem?_set_ne (fun e' => e e'.symm)]
    exact h.2 i hi (by omega)

theorem Part.all {ys : List Value} {xs : List Int} {j : Nat} (h : Part ys xs j) (hj : xs.length ≤ j) : ys = ints xs := by
  apply List.ext_getElem?
  intro i
  by_cases hi : i < xs.length
  · rw [h.2 i hi (by omega), ints_at xs i hi]
  · rw [List.getElem?_eq_none (by rw [h.1]; omega), List.getElem?_eq_none (by rw [ints_len]; omega)]


set_option maxHeartbeats 1000000 in
theorem eqIntS_c (a b : Option Addr) (c d : Nat) (xs ys : List Int) (hl : xs.length ≤ 1048576) (w : World) (h : Sq w a (ints xs)) (h' : Sq w b (ints ys)) :
    Calls Try.prog 33 #[.slice a xs.length c, .slice b ys.length d] w fun e w' => e = .returned (.bool (decide (xs = ys))) ∧ Below w.heap.size w w' := by
  have H : Hid (Sq w a (ints xs)) := h
  have H' : Hid (Sq w b (ints ys)) := h'
  clear h h'
  by_cases hlen : xs.length = ys.length
  · go_enter Try.func33, Try.ntmps33
    go_wp2_with fail
    go_loopw [5] (fun i wr => ∃ j : Nat, j ≤ xs.length ∧ i = .int .i64 j ∧ (∀ k, k < j → xs[k]? = ys[k]?) ∧ Below w.heap.size w wr) (fun i _ => xs.length - (intOf i).toNat)
    case atStart => exact ⟨0, Nat.zero_le _, rfl, fun k h => by omega, Below.refl _ _⟩
    case round =>
      obtain ⟨j, hj, rfl, he, hb⟩ := hrel
      have HE : Hid (∀ k, k < j → xs[k]? = ys[k]?) := he
      have HB : Hid (Below w.heap.size w wr) := hb
      clear he hb
      by_cases hlt : j < xs.length
      · have hlt' : j < ys.length := by omega
        have hi0 : (0 : Int) ≤ (j : Int) := by omega
        have hi1 : (j : Int) < (xs.length : Int) := by omega
        have hi2 : (j : Int) < (ys.length : Int) := by omega
        obtain ⟨p, rfl, _, hc⟩ := (H.out.below HB.out).cell j _ (ints_at xs j hlt)
        obtain ⟨q, rfl, _, hc'⟩ := (H'.out.below HB.out).cell j _ (ints_at ys j hlt')
        have HX : Hid (xs[j]? = some xs[j]) := List.getElem?_eq_getElem hlt
        have HY : Hid (ys[j]? = some ys[j]) := List.getElem?_eq_getElem hlt'
        generalize xs[j] = x at hc HX
        generalize ys[j] = y at hc' HY
        by_cases hxy : x = y
        · subst hxy
          have HE1 : Hid (∀ k, k < j + 1 → xs[k]? = ys[k]?) := fun k hk => by
            by_cases e : k = j
            · subst e; rw [HX.out, HY.out]
            · exact HE.out k (by omega)
          go_wp2_with fail
          go_quiet (fail)
          go_wp2
          exact ⟨⟨j + 1, by omega, by go_num, HE1.out, below_then HB.out ⟨rfl, rfl, rfl, Nat.le_refl _, fun _ _ => rfl⟩⟩, by simp [intOf]; omega⟩
        · have hne : decide (xs = ys) = false := by
            simp
            intro e
            have := HX.out
            rw [e, HY.out] at this
            exact hxy (Option.some.inj this).symm
          have hi : (x != y) = true := by simpa using hxy
          go_wp2_with fail
          go_quiet (fail)
          go_wp2
          go_ret
          exact ⟨by rw [hne]; rfl, below_then HB.out ⟨rfl, rfl, rfl, Nat.le_refl _, fun _ _ => rfl⟩⟩
      · have heq : decide (xs = ys) = true := by
          simp
          apply List.ext_getElem?
          intro k
          by_cases hk : k < xs.length
          · exact HE.out k (by omega)
          · rw [List.getElem?_eq_none (by omega), List.getElem?_eq_none (by omega)]
        go_wp2_with fail
        go_ret
        exact ⟨by rw [heq]; rfl, HB.out⟩
  · have hne : decide (xs = ys) = false := by simp; intro e; exact hlen (by rw [e])
    have hi : ((xs.length : Int) == (ys.length : Int)) = false := by simp; omega
    go_enter Try.func33, Try.ntmps33
    go_wp2_with fail
    go_ret
    exact ⟨by rw [hne]; rfl, Below.refl _ _⟩
end Go.Proofs.Ytpjfampfhofeaaa
