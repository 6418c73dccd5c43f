/- Topologies held against each other, and marked. -/
import Derived.Test.YtmpjebkjopfejaaGreatRows
import Derived.Handy
import Derived.Deep.RegionHeld3
import Derived.Lib.SplitLaws
import Derived.Lib.IndexBytes
import Derived.Lib.IndexLaws
import Derived.Lib.BufferOwn
import Derived.Lib.BufferWrite
import Derived.Deep.QuietTactic
import Derived.BigQuiet
namespace Go.Proofs.YtmpjebkjopfejaaGreat
open Go.ChangeShapes Go.WideShapes Go.ChangeAt Go.RowKit

/-- Behind what only makes memory every old cell reads as it did. -/
theorem bcell {W w1 : World} (hb : Below W.heap.size W w1) : (∀ b o, b < W.heap.size → w1.cell? ⟨b, o, none⟩ = W.cell? ⟨b, o, none⟩) ∧ (∀ b o, b < W.heap.size → w1.frozen? ⟨b, o, none⟩ = W.frozen? ⟨b, o, none⟩) :=
  ⟨fun b o h => hb.cell (p := ⟨b, o, none⟩) h, fun b o h => hb.frozen (p := ⟨b, o, none⟩) h⟩

/-- One behind the other. -/
theorem below_then {w W w' : World} (h : Below w.heap.size w W) (hb : Below W.heap.size W w') : Below w.heap.size w w' := h.trans (hb.mono h.size)

/-- Three cells of an old block read as they did. -/
theorem kept3 {W w' : World} (hb : Below W.heap.size W w') (b : Nat) (x y z : Value) (hlt : b < W.heap.size) (h : W.cell? ⟨b, 0, none⟩ = some x ∧ W.cell? ⟨b, 1, none⟩ = some y ∧ W.cell? ⟨b, 2, none⟩ = some z) :
    w'.cell? ⟨b, 0, none⟩ = some x ∧ w'.cell? ⟨b, 1, none⟩ = some y ∧ w'.cell? ⟨b, 2, none⟩ = some z :=
  ⟨(hb.cell (p := ⟨b, 0, none⟩) hlt).trans h.1, (hb.cell (p := ⟨b, 1, none⟩) hlt).trans h.2.1, (hb.cell (p := ⟨b, 2, none⟩) hlt).trans h.2.2⟩

/-- As 'below_then', the later step first. -/
theorem behind {w W w' : World} (hb : Below W.heap.size W w') (h : Below w.heap.size w W) : Below w.heap.size w w' := below_then h hb

/-- Behind what only makes memory: old cells, old marks, old numbers of blocks. -/
theorem bfacts {W w1 : World} (hb : Below W.heap.size W w1) : (∀ b o, b < W.heap.size → w1.cell? ⟨b, o, none⟩ = W.cell? ⟨b, o, none⟩) ∧ (∀ b o, b < W.heap.size → w1.frozen? ⟨b, o, none⟩ = W.frozen? ⟨b, o, none⟩) ∧ (∀ b, b < W.heap.size → b < w1.heap.size) :=
  ⟨fun b o h => hb.cell (p := ⟨b, o, none⟩) h, fun b o h => hb.frozen (p := ⟨b, o, none⟩) h, fun _ h => Nat.lt_of_lt_of_le h hb.size⟩

/-- A block more. -/
theorem behind_alloc {w W : World} (h : Below w.heap.size w W) (o : Obj) : Below w.heap.size w (W.alloc o) := h.alloc h.size o

/-- Six cells of two old blocks. -/
theorem held_gen {V w' : World} {b1 b2 : Nat} {a b c x y z : Value} (s1 : b1 < V.heap.size) (s2 : b2 < V.heap.size)
    (f1 : V.cell? ⟨b1, 0, none⟩ = some a ∧ V.cell? ⟨b1, 1, none⟩ = some b ∧ V.cell? ⟨b1, 2, none⟩ = some c) (f2 : V.cell? ⟨b2, 0, none⟩ = some x ∧ V.cell? ⟨b2, 1, none⟩ = some y ∧ V.cell? ⟨b2, 2, none⟩ = some z)
    (h : Below V.heap.size V w') :
    Below V.heap.size V w' ∧ V.heap.size ≤ w'.heap.size ∧ w'.cell? ⟨b1, 0, none⟩ = some a ∧ w'.cell? ⟨b1, 1, none⟩ = some b ∧ w'.cell? ⟨b1, 2, none⟩ = some c ∧ w'.cell? ⟨b2, 0, none⟩ = some x ∧ w'.cell? ⟨b2, 1, none⟩ = some y ∧ w'.cell? ⟨b2, 2, none⟩ = some z := by
  obtain ⟨c0, c1, c2⟩ := kept3 h b1 a b c s1 f1
  obtain ⟨c3, c4, c5⟩ := kept3 h b2 x y z s2 f2
  exact ⟨h, h.size, c0, c1, c2, c3, c4, c5⟩
end Go.Proofs.YtmpjebkjopfejaaGreat

namespace Go.Proofs.YtmpjebkjopfejaaGreat
open Go.RowKit

/-- The pieces of a text between the bytes b. -/
def pcs (b : UInt8) : List UInt8 → List (List UInt8)
  | [] => [[]]
  | c :: l => if c = b then [] :: pcs b l else
    match pcs b l with
    | [] => [[c]]
    | p :: r => (c :: p) :: r

theorem pcs_ne (b : UInt8) : ∀ l, pcs b l ≠ []
  | [] => by simp [pcs]
  | c :: l => by
    unfold pcs
    split
    · simp
    · split <;> simp

theorem pcs_hit (b : UInt8) : ∀ l, pcs b (l ++ [b]) = pcs b l ++ [[]]
  | [] => by simp [pcs]
  | c :: l => by
    simp only [List.cons_append, pcs, pcs_hit b l]
    split
    · rfl
    · cases h : pcs b l with
      | nil => exact absurd h (pcs_ne b l)
      | cons p r => rfl

theorem pcs_miss (b c : UInt8) (hc : c ≠ b) : ∀ (l : List UInt8) (acc : List (List UInt8)) (t : List UInt8), pcs b l = acc ++ [t] → pcs b (l ++ [c]) = acc ++ [t ++ [c]]
  | [], acc, t, h => by
    simp only [pcs] at h
    cases acc with
    | nil => simp at h; subst h; simp [pcs, hc]
    | cons a r => simp at h
  | d :: l, acc, t, h => by
    simp only [List.cons_append, pcs] at h ⊢
    by_cases hd : d = b
    · rw [if_pos hd] at h ⊢
      cases acc with
      | nil =>
        simp at h
        exact absurd h.2 (pcs_ne b l)
      | cons a r =>
        simp only [List.cons_append, List.cons.injEq] at h
        rw [pcs_miss b c hc l r t h.2, ← h.1]
        rfl
    · rw [if_neg hd] at h ⊢
      cases hp : pcs b l with
      | nil => exact absurd hp (pcs_ne b l)
      | cons p r =>
        rw [hp] at h
        cases acc with
        | nil =>
          simp at h
          obtain ⟨h1, h2⟩ := h
          subst h2
          have := pcs_miss b c hc l [] p (by rw [hp]; rfl)
          rw [this, ← h1]
          rfl
        | cons a q =>
          simp only [List.cons_append, List.cons.injEq] at h
          have := pcs_miss b c hc l (p :: q) t (by rw [hp, h.2]; rfl)
          rw [this, ← h.1]
          rfl

theorem pcs_none (b : UInt8) : ∀ l : List UInt8, (∀ k : Nat, l[k]? ≠ some b) → pcs b l = [l]
  | [], _ => rfl
  | c :: l, h => by
    have hc : c ≠ b := fun e => h 0 (by simp [e])
    simp only [pcs, if_neg hc, pcs_none b l (fun k => by have := h (k + 1); simpa using this)]

theorem pcs_cut (b : UInt8) : ∀ (i : Nat) (l : List UInt8), l[i]? = some b → (∀ k, k < i → l[k]? ≠ some b) → pcs b l = l.take i :: pcs b (l.drop (i + 1))
  | 0, [], h, _ => by simp at h
  | 0, c :: l, h, _ => by
    simp at h
    simp [pcs, h]
  | i + 1, [], h, _ => by simp at h
  | i + 1, c :: l, h, hk => by
    have hc : c ≠ b := fun e => hk 0 (by omega) (by simp [e])
    have := pcs_cut b i l (by simpa using h) (fun k hlt => by have := hk (k + 1) (by omega); simpa using this)
    simp only [pcs, if_neg hc, this, List.take_succ_cons, List.drop_succ_cons]

theorem split_pcs (b : UInt8) : ∀ (n : Nat) (l : List UInt8), l.length ≤ n → Lib.splitK [b] 0 (Lib.count l [b]) l = pcs b l
  | n, l, hn => by
    by_cases h : Lib.index l [b] = -1
    · rw [Lib.count_miss h]
      rw [Lib.index_one] at h
      rw [pcs_none b l (Lib.indexByte_none h)]
      rfl
    · have hge := Lib.index_ge l [b]
      obtain ⟨i, hi⟩ : ∃ i : Nat, Lib.index l [b] = i := ⟨(Lib.index l [b]).toNat, by omega⟩
      rw [Lib.count_hit (by simp) hi, Nat.add_comm 1]
      have hi' := hi
      rw [Lib.index_one] at hi'
      obtain ⟨h1, h2⟩ := Lib.indexByte_some hi'
      have hlen : i < l.length := (List.getElem?_eq_some_iff.1 h1).1
      have e : (Lib.index l [b]).toNat = i := by omega
      have hne : ¬ (Lib.index l [b] == -1) = true := by simpa using h
      rw [Lib.splitK, if_neg hne, e]
      cases n with
      | zero => omega
      | succ n =>
        rw [split_pcs b n _ (by simp; omega), pcs_cut b i l h1 h2]
        rfl

/-- Pieces as strings in memory. -/
def strs (ps : List (List UInt8)) : List Value := ps.map fun p => .string ⟨p.toArray⟩

theorem strs_get (ps : List (List UInt8)) (i : Nat) : (strs ps)[i]? = (ps[i]?).map fun p => .string ⟨p.toArray⟩ := by simp [strs]
theorem strs_append (a b : List (List UInt8)) : strs (a ++ b) = strs a ++ strs b := by simp [strs]
theorem strs_length (a : List (List UInt8)) : (strs a).length = a.length := by simp [strs]

theorem splitB_strs (b : UInt8) (s : ByteArray) : (Lib.splitB ⟨#[b]⟩ 0 (Lib.countB s ⟨#[b]⟩) s).map Value.string = strs (pcs b s.data.toList) := by
  have h := Lib.splitB_data ⟨#[b]⟩ 0 (Lib.countB s ⟨#[b]⟩) s
  have h2 : Lib.splitK (⟨#[b]⟩ : ByteArray).data.toList 0 (Lib.countB s ⟨#[b]⟩) s.data.toList = pcs b s.data.toList := split_pcs b _ _ (Nat.le_refl _)
  rw [← h2, ← h, strs, List.map_map]
  rfl

/-- What lies in a block from its head on, and may be written. -/
structure Row (w : World) (g : Nat) (xs : List Value) : Prop where
  cell : ∀ i u, xs[i]? = some u → w.cell? ⟨g, i, none⟩ = some u
  free : ∀ i, w.frozen? ⟨g, i, none⟩ = false
  lt : g < w.heap.size

theorem Row.below {w w' : World} {g : Nat} {xs : List Value} (h : Row w g xs) (hb : Below w.heap.size w w') : Row w' g xs :=
  ⟨fun i u hu => (hb.cell (p := ⟨g, i, none⟩) h.lt).trans (h.cell i u hu), fun i => (hb.frozen (p := ⟨g, i, none⟩) h.lt).trans (h.free i), Nat.lt_of_lt_of_le h.lt hb.size⟩

theorem Row.far {w w' : World} {g : Nat} {r : Option Nat} {xs : List Value} (h : Row w g xs) (hg : w.grownBy w' r) (hne : some g ≠ r) : Row w' g xs :=
  ⟨fun i u hu => (World.cell?_of_block (a := ⟨g, i, none⟩) (hg.block g h.lt hne)).trans (h.cell i u hu), fun i => (World.frozen?_of_block (a := ⟨g, i, none⟩) (hg.block g h.lt hne)).trans (h.free i), Nat.lt_of_lt_of_le h.lt hg.size⟩

theorem Row.set {w : World} {g : Nat} {xs : List Value} (h : Row w g xs) (k : Nat) (hk : k < xs.length) (v : Value) : Row (w.setCell ⟨g, k, none⟩ v) g (xs.set k v) := by
  have hc := h.cell k xs[k] (List.getElem?_eq_getElem hk)
  refine ⟨fun i u hu => ?_, fun i => ?_, ?_⟩
  · by_cases e : i = k
    · subst e
      rw [List.getElem?_set_self hk] at hu
      rw [World.cell?_setCell_same _ _ _ hc]
      exact hu
    · rw [List.getElem?_set_ne (fun e' => e e'.symm)] at hu
      rw [World.cell?_setCell_other _ _ _ _ (fun e1 => by cases e1; exact e rfl)]
      exact h.cell i u hu
  · rw [World.frozen?_setCell]; exact h.free i
  · rw [World.size_setCell]; exact h.lt
end Go.Proofs.YtmpjebkjopfejaaGreat

namespace Go.Proofs.YtmpjebkjopfejaaGreat
open Go.ChangeShapes Go.WideShapes Go.ChangeAt Go.RowKit

/-- What a slice shows from its address on: cells of blocks that lie there. -/
structure Sq (w : World) (a : Option Addr) (xs : List Value) : Prop where
  cell : ∀ i u, xs[i]? = some u → ∃ p, a = some p ∧ p.block < w.heap.size ∧ w.cell? (p.add i) = some u

theorem Sq.below {w w' : World} {a : Option Addr} {xs : List Value} (h : Sq w a xs) (hb : Below w.heap.size w w') : Sq w' a xs :=
  ⟨fun i u hu => by
    obtain ⟨p, ha, hp, hc⟩ := h.cell i u hu
    exact ⟨p, ha, Nat.lt_of_lt_of_le hp hb.size, (hb.cell (p := p.add i) (by rw [block_add]; exact hp)).trans hc⟩⟩

/-- Numbers as they lie. -/
def ints (xs : List Int) : List Value := xs.map fun x => .int .i64 x
theorem ints_get (xs : List Int) (i : Nat) : (ints xs)[i]? = (xs[i]?).map fun x => .int .i64 x := by simp [ints]
theorem ints_len (xs : List Int) : (ints xs).length = xs.length := by simp [ints]
theorem ints_at (xs : List Int) (i : Nat) (h : i < xs.length) : (ints xs)[i]? = some (.int .i64 xs[i]) := by rw [ints_get, List.getElem?_eq_getElem h]; rfl

theorem row_fresh (w : World) (xs : List Value) (t : TypeId) : Row (w.alloc (.cells xs.toArray t)) w.heap.size xs := by
  refine ⟨fun i u hu => ?_, fun i => ?_, by go_size⟩
  · rw [World.cell?_alloc_at _ _ _ _ rfl]
    simpa using hu
  · exact World.frozen?_alloc_at _ _ _ _ rfl

theorem infoInt : (Tryz.prog.info? 3).map (fun i => (i.zero, i.size, i.bytes)) = some (some (.int .i64 0), 1, 8) := by kernel_rfl

/-- 'make([]int, n)'. -/
theorem make_ints (n : Nat) (hn : n ≤ 1048576) : ∃ Z : List Value, Z.length = n ∧ ∀ w : World, (Instr.makeSlice 22 (.int .i64 (n : Int)) (.int .i64 (n : Int))).run Tryz.prog w = .ok (.slice (some ⟨w.heap.size, 0, none⟩) n n) (w.alloc (.cells Z.toArray 3)) := by
  obtain ⟨i0, hi, hz0, hz1, hz2⟩ := info_parts infoInt
  refine ⟨(madeCells (Value.int .i64 0).cells (n * i0.size)).toList, ?_, fun w => ?_⟩
  · rw [hz1]
    simp [madeCells, Value.cells]
  · have h := run_make (P := Tryz.prog) (w := w) 22 3 i0 (.int .i64 0) Tryz.underlying22 hi hz0 .i64 .i64 (n : Int) (n : Int) (by omega) (Int.le_refl _) (by rw [hz2]; omega) (by omega)
    simpa using h

/-- Part of the numbers lies there already. -/
def Part (ys : List Value) (xs : List Int) (j : Nat) : Prop := ys.length = xs.length ∧ ∀ i (h : i < xs.length), i < j → ys[i]? = some (.int .i64 xs[i])

theorem Part.set {ys : List Value} {xs : List Int} {j : Nat} (h : Part ys xs j) (hj : j < xs.length) : Part (ys.set j (.int .i64 xs[j])) xs (j + 1) := by
  refine ⟨by rw [List.length_set]; exact h.1, fun i hi hij => ?_⟩
  by_cases e : i = j
  · subst e
    rw [List.getElem?_set_self (by rw [h.1]; exact hi)]
  · rw [List.getElem?_set_ne (fun e' => e e'.symm)]
    exact h.2 i hi (by omega)

theorem Part.all {ys : List Value} {xs : List Int} {j : Nat} (h : Part ys xs j) (hj : xs.length ≤ j) : ys = ints xs := by
  apply List.ext_getElem?
  intro i
  by_cases hi : i < xs.length
  · rw [h.2 i hi (by omega), ints_at xs i hi]
  · rw [List.getElem?_eq_none (by rw [h.1]; omega), List.getElem?_eq_none (by rw [ints_len]; omega)]

set_option maxHeartbeats 1000000 in
theorem toIntS_c (a : Option Addr) (cap : Nat) (xs : List Int) (hl : xs.length ≤ 1048576) (w : World) (h : Sq w a (ints xs)) :
    Calls Tryz.prog 9 #[.slice a xs.length cap] w fun e w' =>
      ∃ g, e = .returned (.slice (some ⟨g, 0, none⟩) xs.length xs.length) ∧ w.heap.size ≤ g ∧ Row w' g (ints xs) ∧ Below w.heap.size w w' := by
  have H : Hid (Sq w a (ints xs)) := h
  clear h
  obtain ⟨Z, hZ, hmk⟩ := make_ints xs.length hl
  go_enter Tryz.func9, Tryz.ntmps9
  go_wp2_with fail
  go_loopw [4] (fun i wr => ∃ (j : Nat) (ys : List Value), j ≤ xs.length ∧ i = .int .i64 j ∧ Part ys xs j ∧ Row wr w.heap.size ys ∧ Below w.heap.size w wr) (fun i _ => xs.length - (intOf i).toNat)
  case atStart => exact ⟨0, Z, Nat.zero_le _, rfl, ⟨hZ, fun i _ h => by omega⟩, row_fresh w Z 3, by go_grown⟩
  case round =>
    obtain ⟨j, ys, hj, rfl, hp, hr, hb⟩ := hrel
    have HP : Hid (Part ys xs j) := hp
    have HR : Hid (Row wr w.heap.size ys) := hr
    have HB : Hid (Below w.heap.size w wr) := hb
    clear hp hr hb hmk hZ
    by_cases hlt : j < xs.length
    · have hi0 : (0 : Int) ≤ (j : Int) := by omega
      have hi1 : (j : Int) < (xs.length : Int) := by omega
      obtain ⟨p, rfl, hp, hc⟩ := (H.out.below HB.out).cell j _ (ints_at xs j hlt)
      have hy : j < ys.length := by rw [HP.out.1]; exact hlt
      have hu : wr.cell? ⟨w.heap.size, j, none⟩ = some ys[j] := HR.out.cell j _ (List.getElem?_eq_getElem hy)
      have hf : wr.frozen? ⟨w.heap.size, j, none⟩ = false := HR.out.free j
      have HS : Hid (Row (wr.setCell ⟨w.heap.size, j, none⟩ (.int .i64 xs[j])) w.heap.size (ys.set j (.int .i64 xs[j]))) := HR.out.set j hy _
      have HD : Hid (Below w.heap.size w (wr.setCell ⟨w.heap.size, j, none⟩ (.int .i64 xs[j]))) := HB.out.setCell (Nat.le_refl _) _
      generalize hyj : ys[j] = u at hu
      go_wp2_with fail
      go_roundw
      case rel => exact ⟨j + 1, _, by omega, by go_num, HP.out.set hlt, HS.out, HD.out⟩
      case measure => simp [intOf]; omega
    · have HE : Hid (ys = ints xs) := HP.out.all (by omega)
      go_wp2_with fail
      go_ret
      exact ⟨_, rfl, Nat.le_refl _, by rw [← HE.out]; exact HR.out, HB.out⟩

set_option maxHeartbeats 1000000 in
theorem eqIntS_c (a b : Option Addr) (c d : Nat) (xs ys : List Int) (hl : xs.length ≤ 1048576) (w : World) (h : Sq w a (ints xs)) (h' : Sq w b (ints ys)) :
    Calls Tryz.prog 12 #[.slice a xs.length c, .slice b ys.length d] w fun e w' => e = .returned (.bool (decide (xs = ys))) ∧ Below w.heap.size w w' := by
  have H : Hid (Sq w a (ints xs)) := h
  have H' : Hid (Sq w b (ints ys)) := h'
  clear h h'
  by_cases hlen : xs.length = ys.length
  · go_enter Tryz.func12, Tryz.ntmps12
    go_wp2_with fail
    go_loopw [5] (fun i wr => ∃ j : Nat, j ≤ xs.length ∧ i = .int .i64 j ∧ (∀ k, k < j → xs[k]? = ys[k]?) ∧ Below w.heap.size w wr) (fun i _ => xs.length - (intOf i).toNat)
    case atStart => exact ⟨0, Nat.zero_le _, rfl, fun k h => by omega, Below.refl _ _⟩
    case round =>
      obtain ⟨j, hj, rfl, he, hb⟩ := hrel
      have HE : Hid (∀ k, k < j → xs[k]? = ys[k]?) := he
      have HB : Hid (Below w.heap.size w wr) := hb
      clear he hb
      by_cases hlt : j < xs.length
      · have hlt' : j < ys.length := by omega
        have hi0 : (0 : Int) ≤ (j : Int) := by omega
        have hi1 : (j : Int) < (xs.length : Int) := by omega
        have hi2 : (j : Int) < (ys.length : Int) := by omega
        obtain ⟨p, rfl, _, hc⟩ := (H.out.below HB.out).cell j _ (ints_at xs j hlt)
        obtain ⟨q, rfl, _, hc'⟩ := (H'.out.below HB.out).cell j _ (ints_at ys j hlt')
        have HX : Hid (xs[j]? = some xs[j]) := List.getElem?_eq_getElem hlt
        have HY : Hid (ys[j]? = some ys[j]) := List.getElem?_eq_getElem hlt'
        generalize xs[j] = x at hc HX
        generalize ys[j] = y at hc' HY
        by_cases hxy : x = y
        · subst hxy
          have HE1 : Hid (∀ k, k < j + 1 → xs[k]? = ys[k]?) := fun k hk => by
            by_cases e : k = j
            · subst e; rw [HX.out, HY.out]
            · exact HE.out k (by omega)
          go_wp2_with fail
          go_quiet (fail)
          go_wp2
          exact ⟨⟨j + 1, by omega, by go_num, HE1.out, below_then HB.out ⟨rfl, rfl, rfl, Nat.le_refl _, fun _ _ => rfl⟩⟩, by simp [intOf]; omega⟩
        · have hne : decide (xs = ys) = false := by
            simp
            intro e
            have := HX.out
            rw [e, HY.out] at this
            exact hxy (Option.some.inj this).symm
          have hi : (x != y) = true := by simpa using hxy
          go_wp2_with fail
          go_quiet (fail)
          go_wp2
          go_ret
          exact ⟨by rw [hne]; rfl, below_then HB.out ⟨rfl, rfl, rfl, Nat.le_refl _, fun _ _ => rfl⟩⟩
      · have heq : decide (xs = ys) = true := by
          simp
          apply List.ext_getElem?
          intro k
          by_cases hk : k < xs.length
          · exact HE.out k (by omega)
          · rw [List.getElem?_eq_none (by omega), List.getElem?_eq_none (by omega)]
        go_wp2_with fail
        go_ret
        exact ⟨by rw [heq]; rfl, HB.out⟩
  · have hne : decide (xs = ys) = false := by simp; intro e; exact hlen (by rw [e])
    have hi : ((xs.length : Int) == (ys.length : Int)) = false := by simp; omega
    go_enter Tryz.func12, Tryz.ntmps12
    go_wp2_with fail
    go_ret
    exact ⟨by rw [hne]; rfl, Below.refl _ _⟩
end Go.Proofs.YtmpjebkjopfejaaGreat

namespace Go.Proofs.YtmpjebkjopfejaaGreat
open Go.ChangeShapes Go.WideShapes Go.ChangeAt Go.RowKit

/-- n numbers from k on. -/
def upFrom (k n : Nat) : List Value := (List.range n).map fun i => .int .i64 ((k + i : Nat) : Int)
theorem upFrom_len (k n : Nat) : (upFrom k n).length = n := by simp [upFrom]
theorem upFrom_get (k n i : Nat) (h : i < n) : (upFrom k n)[i]? = some (.int .i64 ((k + i : Nat) : Int)) := by simp [upFrom, h]

/-- The first j of the cells are marked. -/
def Marked (ys : List Value) (k n j : Nat) : Prop := ys.length = n ∧ ∀ i, i < n → i < j → ys[i]? = some (.int .i64 ((k + i : Nat) : Int))

theorem Marked.set {ys : List Value} {k n j : Nat} (h : Marked ys k n j) (hj : j < n) : Marked (ys.set j (.int .i64 ((k + j : Nat) : Int))) k n (j + 1) := by
  refine ⟨by rw [List.length_set]; exact h.1, fun i hi hij => ?_⟩
  by_cases e : i = j
  · subst e
    rw [List.getElem?_set_self (by rw [h.1]; exact hi)]
  · rw [List.getElem?_set_ne (fun e' => e e'.symm)]
    exact h.2 i hi (by omega)

theorem Marked.all {ys : List Value} {k n j : Nat} (h : Marked ys k n j) (hj : n ≤ j) : ys = upFrom k n := by
  apply List.ext_getElem?
  intro i
  by_cases hi : i < n
  · rw [h.2 i hi (by omega), upFrom_get k n i hi]
  · rw [List.getElem?_eq_none (by rw [h.1]; omega), List.getElem?_eq_none (by rw [upFrom_len]; omega)]

set_option maxHeartbeats 1000000 in
theorem markIntS_c (g cap k0 : Nat) (xs : List Value) (hl : xs.length ≤ 2147483648) (hk : k0 ≤ 4294967296) (w : World) (h : Row w g xs) :
    Calls Tryz.prog 14 #[.slice (some ⟨g, 0, none⟩) xs.length cap, .int .i64 (k0 : Int)] w fun e w' => e = .returned (.int .i64 ((k0 + xs.length : Nat) : Int)) ∧ w.grownBy w' (some g) ∧ Row w' g (upFrom k0 xs.length) := by
  have H : Hid (Row w g xs) := h
  clear h
  go_enter Tryz.func14, Tryz.ntmps14
  go_wp2_with fail
  go_loopw [1, 5] (fun k i wr => ∃ (j : Nat) (ys : List Value), j ≤ xs.length ∧ i = .int .i64 j ∧ k = .int .i64 ((k0 + j : Nat) : Int) ∧ Marked ys k0 xs.length j ∧ w.grownBy wr (some g) ∧ Row wr g ys) (fun _ i _ => xs.length - (intOf i).toNat)
  case atStart => exact ⟨0, xs, Nat.zero_le _, rfl, rfl, ⟨rfl, fun i _ h => by omega⟩, ⟨rfl, rfl, rfl, Nat.le_refl _, fun _ _ _ => rfl⟩, H.out⟩
  case round =>
    obtain ⟨j, ys, hj, rfl, rfl, hm, hg, hr⟩ := hrel
    have HM : Hid (Marked ys k0 xs.length j) := hm
    have HG : Hid (w.grownBy wr (some g)) := hg
    have HR : Hid (Row wr g ys) := hr
    clear hm hg hr
    by_cases hlt : j < xs.length
    · have hi1 : (j : Int) < (xs.length : Int) := by omega
      have hi0 : (0 : Int) ≤ (j : Int) := by omega
      have hy : j < ys.length := by rw [HM.out.1]; exact hlt
      obtain ⟨u, hu⟩ : ∃ u, wr.cell? ⟨g, j, none⟩ = some u := ⟨_, HR.out.cell j _ (List.getElem?_eq_getElem hy)⟩
      have hf : wr.frozen? ⟨g, j, none⟩ = false := HR.out.free j
      have HS : Hid (Row (wr.setCell ⟨g, j, none⟩ (.int .i64 ((k0 + j : Nat) : Int))) g (ys.set j (.int .i64 ((k0 + j : Nat) : Int)))) := HR.out.set j hy _
      go_wp2_with fail
      go_roundw
      case rel => exact ⟨j + 1, _, by omega, by go_num, by go_num, HM.out.set hlt, Lib.grownBy_setB HG.out _ _, HS.out⟩
      case measure => simp [intOf]; omega
    · obtain rfl : j = xs.length := by omega
      have HE : Hid (ys = upFrom k0 xs.length) := HM.out.all (Nat.le_refl _)
      go_wp2_with fail
      go_ret
      exact ⟨rfl, HG.out, by rw [← HE.out]; exact HR.out⟩

set_option maxHeartbeats 1000000 in
theorem heldIntS_c (g cap k0 n : Nat) (hl : n ≤ 2147483648) (hk : k0 ≤ 4294967296) (w : World) (h : Row w g (upFrom k0 n)) :
    Calls Tryz.prog 69 #[.slice (some ⟨g, 0, none⟩) n cap, .int .i64 (k0 : Int)] w fun e w' => e = .returned (.int .i64 ((k0 + n : Nat) : Int)) ∧ Below w.heap.size w w' := by
  have H : Hid (Row w g (upFrom k0 n)) := h
  clear h
  go_enter Tryz.func69, Tryz.ntmps69
  go_wp2_with fail
  go_loopw [1, 5] (fun k i wr => ∃ j : Nat, j ≤ n ∧ i = .int .i64 j ∧ k = .int .i64 ((k0 + j : Nat) : Int) ∧ Below w.heap.size w wr) (fun _ i _ => n - (intOf i).toNat)
  case atStart => exact ⟨0, Nat.zero_le _, rfl, rfl, Below.refl _ _⟩
  case round =>
    obtain ⟨j, hj, rfl, rfl, hb⟩ := hrel
    have HB : Hid (Below w.heap.size w wr) := hb
    have HR : Hid (Row wr g (upFrom k0 n)) := H.out.below hb
    clear hb
    by_cases hlt : j < n
    · have hi1 : (j : Int) < (n : Int) := by omega
      have hi0 : (0 : Int) ≤ (j : Int) := by omega
      have hc : wr.cell? ⟨g, j, none⟩ = some (.int .i64 ((k0 + j : Nat) : Int)) := HR.out.cell j _ (upFrom_get k0 n j hlt)
      go_wp2_with fail
      exact ⟨⟨j + 1, by omega, by go_num, by go_num, HB.out⟩, by simp [intOf]; omega⟩
    · obtain rfl : j = n := by omega
      go_wp2_with fail
      go_ret
      exact ⟨rfl, HB.out⟩
end Go.Proofs.YtmpjebkjopfejaaGreat

namespace Go.Proofs.YtmpjebkjopfejaaGreat
open Go.ChangeShapes Go.WideShapes Go.ChangeAt Go.RowKit

/-- An amount is right. -/
def resB (n : Int) : Bool := decide (0 ≤ n) && decide (n ≤ 1000000)
/-- The three are right. -/
def vokB (a b c : Int) : Bool := resB a && resB b && resB c
/-- None of the first three is above that of the second three. -/
def nabB (a b c x y z : Int) : Bool := decide (a ≤ x) && decide (b ≤ y) && decide (c ≤ z)

theorem res_yes {n : Int} (h : resB n = true) : 0 ≤ n ∧ n ≤ 1000000 := by
  simpa [resB] using h
theorem res_no {n : Int} (h : resB n = false) : n < 0 ∨ 1000000 < n := by
  simp [resB] at h; omega

theorem l01Res_c (n : Int) (w : World) :
    Calls Tryz.prog 103 #[.int .i64 n] w fun e w' => e = .returned (.bool (resB n)) ∧ w' = w := by
  by_cases h0 : 0 ≤ n
  · by_cases h1 : n ≤ 1000000
    · go_enter Tryz.func103, Tryz.ntmps103
      go_wp2
      go_ret
      exact ⟨by simp [resB, h0, h1], rfl⟩
    · go_enter Tryz.func103, Tryz.ntmps103
      go_wp2
      go_ret
      exact ⟨by simp [resB, h0, h1], rfl⟩
  · go_enter Tryz.func103, Tryz.ntmps103
    go_wp2
    go_ret
    exact ⟨by simp [resB]; omega, rfl⟩

theorem specVecOk_c (a b c : Int) (w : World) :
    Calls Tryz.prog 75 #[.agg #[.int .i64 a, .int .i64 b, .int .i64 c]] w fun e w' => e = .returned (.bool (vokB a b c)) ∧ Below w.heap.size w w' := by
  go_enter Tryz.func75, Tryz.ntmps75
  go_wp2_with (go_at_call 103; refine (l01Res_c _ _).mono ?_; rintro e w' ⟨rfl, rfl⟩)
  all_goals (go_ret; exact ⟨by simp [vokB, *], by go_grown⟩)

theorem toVec_c (a b c : Int) (w : World) :
    Calls Tryz.prog 30 #[.agg #[.int .i64 a, .int .i64 b, .int .i64 c]] w fun e w' => e = .returned (.agg #[.int .i64 a, .int .i64 b, .int .i64 c]) ∧ Below w.heap.size w w' := by
  go_enter Tryz.func30, Tryz.ntmps30
  go_wp2
  go_returns
  exact ⟨rfl, by go_grown⟩

theorem amounts_c (a b c : Int) (w : World) :
    Calls Tryz.prog 122 #[.agg #[.int .i64 a, .int .i64 b, .int .i64 c]] w fun e w' => e = .returned (.agg #[.int .i64 a, .int .i64 b, .int .i64 c]) ∧ Below w.heap.size w w' := by
  go_enter Tryz.func122, Tryz.ntmps122
  go_wp2
  go_returns
  exact ⟨rfl, by go_grown⟩

theorem lesser_c (x y : Int) (w : World) :
    Calls Tryz.prog 132 #[.int .i64 x, .int .i64 y] w fun e w' => e = .returned (.int .i64 (min x y)) ∧ w' = w := by
  go_enter Tryz.func132, Tryz.ntmps132
  go_wp2
  all_goals (go_ret; exact ⟨by simp; omega, rfl⟩)

theorem sum_c (x y : Int) (w : World) :
    Calls Tryz.prog 100 #[.int .i64 x, .int .i64 y] w fun e w' => e = .returned (.int .i64 (wrap64 (x + y))) ∧ w' = w := by
  go_enter Tryz.func100, Tryz.ntmps100
  go_wp2
  go_ret
  exact ⟨rfl, rfl⟩

theorem difference_c (x y : Int) (w : World) :
    Calls Tryz.prog 97 #[.int .i64 x, .int .i64 y] w fun e w' => e = .returned (.int .i64 (wrap64 (x - y))) ∧ w' = w := by
  go_enter Tryz.func97, Tryz.ntmps97
  go_wp2
  go_ret
  exact ⟨rfl, rfl⟩

theorem l01Min_c (x y : Int) (w : World) :
    Calls Tryz.prog 104 #[.int .i64 x, .int .i64 y] w fun e w' => e = .returned (.int .i64 (min x y)) ∧ w' = w := by
  go_enter Tryz.func104, Tryz.ntmps104
  go_wp2
  all_goals (go_ret; exact ⟨by simp; omega, rfl⟩)

theorem vecOf_c (a b c : Int) (w : World) :
    Calls Tryz.prog 120 #[.agg #[.int .i64 a, .int .i64 b, .int .i64 c]] w fun e w' => e = .returned (.agg #[.int .i64 a, .int .i64 b, .int .i64 c]) ∧ Below w.heap.size w w' := by
  go_enter Tryz.func120, Tryz.ntmps120
  go_wp2
  go_returns
  exact ⟨rfl, by go_grown⟩

theorem eqVec_c (a b c x y z : Int) (w : World) :
    Calls Tryz.prog 123 #[.agg #[.int .i64 a, .int .i64 b, .int .i64 c], .agg #[.int .i64 x, .int .i64 y, .int .i64 z]] w fun e w' => e = .returned (.bool (a == x && b == y && c == z)) ∧ Below w.heap.size w w' := by
  go_enter Tryz.func123, Tryz.ntmps123
  go_wp2
  all_goals (go_ret; exact ⟨by simp_all, by go_grown⟩)
end Go.Proofs.YtmpjebkjopfejaaGreat

namespace Go.Proofs.YtmpjebkjopfejaaGreat
open Go.ChangeShapes Go.WideShapes Go.ChangeAt Go.RowKit

theorem low_refl (w : World) : Below w.heap.size w w := Below.refl _ _
theorem low_alloc (w : World) (o : Obj) : Below w.heap.size w (w.alloc o) := (Below.refl _ _).alloc (Nat.le_refl _) _

/-- A node: its leaf and its three amounts. -/
structure Nd where
  l : Int
  a : Int
  b : Int
  c : Int
deriving DecidableEq

def Nd.val (n : Nd) : Value := .agg #[.int .i64 n.l, .int .i64 n.a, .int .i64 n.b, .int .i64 n.c]

set_option maxHeartbeats 1000000 in
theorem toNode_c (l a b c : Int) (w : World) :
    Calls Tryz.prog 81 #[.agg #[.int .i64 l, .int .i64 a, .int .i64 b, .int .i64 c]] w fun e w' => e = .returned (.agg #[.int .i64 l, .int .i64 a, .int .i64 b, .int .i64 c]) ∧ Below w.heap.size w w' := by
  go_enter Tryz.func81, Tryz.ntmps81
  go_wp2_with fail
  generalize hV : (((w.alloc (.cells #[.int .i64 l, .int .i64 a, .int .i64 b, .int .i64 c] 116)).alloc (.cells #[.int .i64 0, .int .i64 0, .int .i64 0, .int .i64 0] 113)).alloc (.cells #[.int .i64 l, .int .i64 0, .int .i64 0, .int .i64 0] 113)) = V
  have HR : Hid (Row V (w.heap.size + 1) [.int .i64 0, .int .i64 0, .int .i64 0, .int .i64 0]) := by
    subst hV
    have h := row_fresh (w.alloc (.cells #[.int .i64 l, .int .i64 a, .int .i64 b, .int .i64 c] 116)) [.int .i64 0, .int .i64 0, .int .i64 0, .int .i64 0] 113
    rw [show (w.alloc (.cells #[.int .i64 l, .int .i64 a, .int .i64 b, .int .i64 c] 116)).heap.size = w.heap.size + 1 by simp [go_sem]] at h
    exact h.below (low_alloc _ _)
  have HO : Hid (Row V (w.heap.size + 1 + 1) [.int .i64 l, .int .i64 0, .int .i64 0, .int .i64 0]) := by
    subst hV
    have h := row_fresh ((w.alloc (.cells #[.int .i64 l, .int .i64 a, .int .i64 b, .int .i64 c] 116)).alloc (.cells #[.int .i64 0, .int .i64 0, .int .i64 0, .int .i64 0] 113)) [.int .i64 l, .int .i64 0, .int .i64 0, .int .i64 0] 113
    rw [show ((w.alloc (.cells #[.int .i64 l, .int .i64 a, .int .i64 b, .int .i64 c] 116)).alloc (.cells #[.int .i64 0, .int .i64 0, .int .i64 0, .int .i64 0] 113)).heap.size = w.heap.size + 1 + 1 by simp [go_sem]] at h
    exact h
  have HB : Hid (Below w.heap.size w V) := by subst hV; show Below _ _ _; go_grown
  clear hV
  refine (toVec_c a b c _).mono ?_
  rintro e w1 ⟨rfl, hb⟩
  have HR1 : Hid (Row w1 (w.heap.size + 1) [.int .i64 0, .int .i64 0, .int .i64 0, .int .i64 0]) := HR.out.below hb
  have HO1 : Hid (Row w1 (w.heap.size + 1 + 1) [.int .i64 l, .int .i64 0, .int .i64 0, .int .i64 0]) := HO.out.below hb
  have B8 : Below w.heap.size w w1 := below_then HB.out hb
  clear hb HR HO HB
  have r0 := HR1.out.cell 0 _ rfl
  have o0 := HO1.out.cell 0 _ rfl
  have fr0 := HR1.out.free 0
  have fo0 := HO1.out.free 0
  have r1 := HR1.out.cell 1 _ rfl
  have o1 := HO1.out.cell 1 _ rfl
  have fr1 := HR1.out.free 1
  have fo1 := HO1.out.free 1
  have r2 := HR1.out.cell 2 _ rfl
  have o2 := HO1.out.cell 2 _ rfl
  have fr2 := HR1.out.free 2
  have fo2 := HO1.out.free 2
  have r3 := HR1.out.cell 3 _ rfl
  have o3 := HO1.out.cell 3 _ rfl
  have fr3 := HR1.out.free 3
  have fo3 := HO1.out.free 3
  go_wp2_with fail
  exact bodyPost_ret (v := .agg #[.int .i64 l, .int .i64 a, .int .i64 b, .int .i64 c]) (by simp [results, Tryz.results81, go_sem, *]) rfl ⟨rfl, by go_grown⟩
end Go.Proofs.YtmpjebkjopfejaaGreat

namespace Go.Proofs.YtmpjebkjopfejaaGreat
open Go.ChangeShapes Go.WideShapes Go.ChangeAt Go.RowKit

def Nd.cells (n : Nd) : List Value := [.int .i64 n.l, .int .i64 n.a, .int .i64 n.b, .int .i64 n.c]
/-- Nodes as they lie. -/
def flat (ns : List Nd) : List Value := ns.flatMap Nd.cells
theorem flat_len (ns : List Nd) : (flat ns).length = 4 * ns.length := by
  induction ns with
  | nil => rfl
  | cons n r ih => simp [flat, Nd.cells] at ih ⊢; omega
theorem flat_get : ∀ (ns : List Nd) (i k : Nat) (h : i < ns.length), k < 4 → (flat ns)[i * 4 + k]? = (ns[i].cells)[k]?
  | [], i, k, h, _ => by simp at h
  | n :: r, 0, k, _, hk => by
    simp only [flat, List.flatMap_cons, List.getElem_cons_zero, Nat.zero_mul, Nat.zero_add]
    rw [List.getElem?_append_left (by simpa [Nd.cells] using hk)]
  | n :: r, i + 1, k, h, hk => by
    simp only [flat, List.flatMap_cons, List.getElem_cons_succ]
    rw [List.getElem?_append_right (by simp [Nd.cells]; omega)]
    have := flat_get r i k (by simpa using h) hk
    rw [← this]
    congr 1
    simp [Nd.cells]
    omega

theorem infoNode : (Tryz.prog.info? 113).map (fun i => (i.zero, i.size, i.bytes)) = some (some (.agg #[.int .i64 0, .int .i64 0, .int .i64 0, .int .i64 0]), 4, 32) := by kernel_rfl

/-- 'make([]impl.Node, n)'. -/
theorem make_nodes (n : Nat) (hn : n ≤ 1048576) : ∃ Z : List Value, Z.length = 4 * n ∧ ∀ w : World, (Instr.makeSlice 38 (.int .i64 (n : Int)) (.int .i64 (n : Int))).run Tryz.prog w = .ok (.slice (some ⟨w.heap.size, 0, none⟩) n n) (w.alloc (.cells Z.toArray 113)) := by
  obtain ⟨i0, hi, hz0, hz1, hz2⟩ := info_parts infoNode
  refine ⟨(madeCells (Value.agg #[.int .i64 0, .int .i64 0, .int .i64 0, .int .i64 0]).cells (n * i0.size)).toList, ?_, fun w => ?_⟩
  · rw [hz1]
    simp [madeCells, Value.cells]
    omega
  · have h := run_make (P := Tryz.prog) (w := w) 38 113 i0 (.agg #[.int .i64 0, .int .i64 0, .int .i64 0, .int .i64 0]) Tryz.underlying38 hi hz0 .i64 .i64 (n : Int) (n : Int) (by omega) (Int.le_refl _) (by rw [hz2]; omega) (by omega)
    simpa using h

theorem add_field (p : Addr) (m k : Nat) (hk : 0 < k) : (⟨(p.add m).block, (p.add m).off + k, none⟩ : Addr) = p.add (m + k) := by
  unfold Addr.add
  by_cases hm : m = 0
  · subst hm
    rw [if_pos rfl, if_neg (by omega)]
    simp
  · rw [if_neg hm, if_neg (by omega)]
    simp [Nat.add_assoc]

/-- One node of a slice, as the walk reads it. -/
theorem Sq.node {w : World} {a : Option Addr} {xs : List Nd} (h : Sq w a (flat xs)) (j : Nat) (hj : j < xs.length) :
    ∃ p, a = some p ∧ w.cell? (p.add (j * 4)) = some (.int .i64 xs[j].l) ∧ w.cell? ⟨(p.add (j * 4)).block, (p.add (j * 4)).off + 1, none⟩ = some (.int .i64 xs[j].a) ∧
      w.cell? ⟨(p.add (j * 4)).block, (p.add (j * 4)).off + 2, none⟩ = some (.int .i64 xs[j].b) ∧ w.cell? ⟨(p.add (j * 4)).block, (p.add (j * 4)).off + 3, none⟩ = some (.int .i64 xs[j].c) := by
  obtain ⟨p, ha, _, c0⟩ := h.cell (j * 4 + 0) _ (flat_get xs j 0 hj (by decide))
  obtain ⟨p1, h1, _, c1⟩ := h.cell (j * 4 + 1) _ (flat_get xs j 1 hj (by decide))
  obtain ⟨p2, h2, _, c2⟩ := h.cell (j * 4 + 2) _ (flat_get xs j 2 hj (by decide))
  obtain ⟨p3, h3, _, c3⟩ := h.cell (j * 4 + 3) _ (flat_get xs j 3 hj (by decide))
  rw [ha] at h1 h2 h3
  cases h1; cases h2; cases h3
  refine ⟨p, ha, by simpa using c0, ?_, ?_, ?_⟩
  · rw [add_field _ _ _ (by decide)]; simpa [Nd.cells] using c1
  · rw [add_field _ _ _ (by decide)]; simpa [Nd.cells] using c2
  · rw [add_field _ _ _ (by decide)]; simpa [Nd.cells] using c3

/-- The first j nodes lie there already. -/
def PartN (ys : List Value) (xs : List Nd) (j : Nat) : Prop := ys.length = 4 * xs.length ∧ ∀ i (h : i < xs.length) k, k < 4 → i < j → ys[i * 4 + k]? = (xs[i].cells)[k]?

def put4 (ys : List Value) (j : Nat) (n : Nd) : List Value := (((ys.set (j * 4) (.int .i64 n.l)).set (j * 4 + 1) (.int .i64 n.a)).set (j * 4 + 2) (.int .i64 n.b)).set (j * 4 + 3) (.int .i64 n.c)

theorem PartN.set {ys : List Value} {xs : List Nd} {j : Nat} (h : PartN ys xs j) (hj : j < xs.length) : PartN (put4 ys j xs[j]) xs (j + 1) := by
  refine ⟨by simp only [put4, List.length_set]; exact h.1, fun i hi k hk hij => ?_⟩
  have hl := h.1
  unfold put4
  by_cases e : i = j
  · subst e
    match k, hk with
    | 0, _ => rw [List.getElem?_set_ne (by omega), List.getElem?_set_ne (by omega), List.getElem?_set_ne (by omega), Nat.add_zero, List.getElem?_set_self (by omega)]; rfl
    | 1, _ => rw [List.getElem?_set_ne (by omega), List.getElem?_set_ne (by omega), List.getElem?_set_self (by simp; omega)]; rfl
    | 2, _ => rw [List.getElem?_set_ne (by omega), List.getElem?_set_self (by simp; omega)]; rfl
    | 3, _ => rw [List.getElem?_set_self (by simp; omega)]; rfl
  · rw [List.getElem?_set_ne (by omega), List.getElem?_set_ne (by omega), List.getElem?_set_ne (by omega), List.getElem?_set_ne (by omega)]
    exact h.2 i hi k hk (by omega)

theorem PartN.all {ys : List Value} {xs : List Nd} {j : Nat} (h : PartN ys xs j) (hj : xs.length ≤ j) : ys = flat xs := by
  apply List.ext_getElem?
  intro m
  by_cases hm : m < 4 * xs.length
  · have h1 := h.2 (m / 4) (by omega) (m % 4) (by omega) (by omega)
    have h2 := flat_get xs (m / 4) (m % 4) (by omega) (by omega)
    rw [show m / 4 * 4 + m % 4 = m by omega] at h1 h2
    rw [h1, h2]
  · rw [List.getElem?_eq_none (by rw [h.1]; omega), List.getElem?_eq_none (by rw [flat_len]; omega)]

theorem Row.put {w : World} {g : Nat} {ys : List Value} (h : Row w g ys) (j : Nat) (n : Nd) (hj : j * 4 + 3 < ys.length) :
    Row ((((w.setCell ⟨g, j * 4, none⟩ (.int .i64 n.l)).setCell ⟨g, j * 4 + 1, none⟩ (.int .i64 n.a)).setCell ⟨g, j * 4 + 2, none⟩ (.int .i64 n.b)).setCell ⟨g, j * 4 + 3, none⟩ (.int .i64 n.c)) g (put4 ys j n) :=
  (((h.set (j * 4) (by omega) _).set (j * 4 + 1) (by simp; omega) _).set (j * 4 + 2) (by simp; omega) _).set (j * 4 + 3) (by simp; omega) _

set_option maxHeartbeats 1000000 in
theorem toNodeS_c (a : Option Addr) (cap : Nat) (xs : List Nd) (hl : xs.length ≤ 1048576) (w : World) (h : Sq w a (flat xs)) :
    Calls Tryz.prog 57 #[.slice a xs.length cap] w fun e w' =>
      ∃ g, e = .returned (.slice (some ⟨g, 0, none⟩) xs.length xs.length) ∧ w.heap.size ≤ g ∧ Row w' g (flat xs) ∧ Below w.heap.size w w' := by
  have H : Hid (Sq w a (flat xs)) := h
  clear h
  obtain ⟨Z, hZ, hmk⟩ := make_nodes xs.length hl
  go_enter Tryz.func57, Tryz.ntmps57
  go_wp2_with fail
  go_loopw [4] (fun i wr => ∃ (j : Nat) (ys : List Value), j ≤ xs.length ∧ i = .int .i64 j ∧ PartN ys xs j ∧ Row wr w.heap.size ys ∧ Below w.heap.size w wr) (fun i _ => xs.length - (intOf i).toNat)
  case atStart => exact ⟨0, Z, Nat.zero_le _, rfl, ⟨hZ, fun i _ k _ h => by omega⟩, row_fresh w Z 113, by go_grown⟩
  case round =>
    obtain ⟨j, ys, hj, rfl, hp, hr, hb⟩ := hrel
    have HP : Hid (PartN ys xs j) := hp
    have HR : Hid (Row wr w.heap.size ys) := hr
    have HB : Hid (Below w.heap.size w wr) := hb
    clear hp hr hb hmk hZ
    by_cases hlt : j < xs.length
    · have hi0 : (0 : Int) ≤ (j : Int) := by omega
      have hi1 : (j : Int) < (xs.length : Int) := by omega
      obtain ⟨p, rfl, c0, c1, c2, c3⟩ := (H.out.below HB.out).node j hlt
      go_wp2_with fail
      refine (toNode_c _ _ _ _ _).mono ?_
      rintro e w1 ⟨rfl, hb1⟩
      have HB1 : Hid (Below w.heap.size w w1) := below_then HB.out hb1
      have HR1 : Hid (Row w1 w.heap.size ys) := HR.out.below hb1
      have hy : j * 4 + 3 < ys.length := by rw [HP.out.1]; omega
      have HS := HR1.out.put j xs[j] hy
      have d0 := HR1.out.cell (j * 4) _ (List.getElem?_eq_getElem (by omega))
      have d1 := HR1.out.cell (j * 4 + 1) _ (List.getElem?_eq_getElem (by omega))
      have d2 := HR1.out.cell (j * 4 + 2) _ (List.getElem?_eq_getElem (by omega))
      have d3 := HR1.out.cell (j * 4 + 3) _ (List.getElem?_eq_getElem (by omega))
      have f0 := HR1.out.free (j * 4)
      have f1 := HR1.out.free (j * 4 + 1)
      have f2 := HR1.out.free (j * 4 + 2)
      have f3 := HR1.out.free (j * 4 + 3)
      clear hb1 c0 c1 c2 c3
      have HT : Hid (Row _ _ _) := HS
      clear HS
      go_wp2_with fail
      exact ⟨⟨j + 1, put4 ys j xs[j], by omega, by go_num, HP.out.set hlt, HT.out, (((HB1.out.setCell (Nat.le_refl _) _).setCell (Nat.le_refl _) _).setCell (Nat.le_refl _) _).setCell (Nat.le_refl _) _⟩, by simp [intOf]; omega⟩
    · have HE : Hid (ys = flat xs) := HP.out.all (by omega)
      go_wp2_with fail
      go_ret
      exact ⟨_, rfl, Nat.le_refl _, by rw [← HE.out]; exact HR.out, HB.out⟩
end Go.Proofs.YtmpjebkjopfejaaGreat

namespace Go.Proofs.YtmpjebkjopfejaaGreat
open Go.ChangeShapes Go.WideShapes Go.ChangeAt Go.RowKit

theorem Row.apart {w : World} {g : Nat} {xs : List Value} (h : Row w g xs) (b i : Nat) (v : Value) (hne : g ≠ b) : Row (w.setCell ⟨b, i, none⟩ v) g xs := h.far (Lib.grownBy_setCell w b i v) (by intro e; exact hne (Option.some.inj e))

theorem szIntS_c (a : Option Addr) (n cap : Nat) (hn : n ≤ maxLen) (left : Int) (h0 : 0 ≤ left) (h1 : left ≤ 1048576) (w : World) :
    Calls Tryz.prog 47 #[.slice a n cap, .int .i64 left] w fun e w' => e = .returned (.int .i64 (if left - n < 0 then -1 else left - n)) ∧ w' = w := by
  unfold maxLen at hn
  by_cases h : left - n < 0
  · go_enter Tryz.func47, Tryz.ntmps47
    go_wp2_with fail
    go_ret
    exact ⟨rfl, rfl⟩
  · go_enter Tryz.func47, Tryz.ntmps47
    go_wp2_with fail
    go_ret
    exact ⟨rfl, rfl⟩

theorem szNodeS_c (a : Option Addr) (n cap : Nat) (hn : n ≤ maxLen) (left : Int) (h0 : 0 ≤ left) (h1 : left ≤ 1048576) (w : World) :
    Calls Tryz.prog 48 #[.slice a n cap, .int .i64 left] w fun e w' => e = .returned (.int .i64 (if left - n < 0 then -1 else left - n)) ∧ w' = w := by
  unfold maxLen at hn
  by_cases h : left - n < 0
  · go_enter Tryz.func48, Tryz.ntmps48
    go_wp2_with fail
    go_ret
    exact ⟨rfl, rfl⟩
  · go_enter Tryz.func48, Tryz.ntmps48
    go_wp2_with fail
    go_ret
    exact ⟨rfl, rfl⟩

/-- What is left of the measure behind a topology; -1 where it is too great. -/
def szT (n m : Nat) (left : Int) : Int := if left - n < 0 then -1 else if left - n - m < 0 then -1 else left - n - m

theorem szTopo_c (a b : Option Addr) (n m c d : Nat) (hn : n ≤ maxLen) (hm : m ≤ maxLen) (left : Int) (h0 : 0 ≤ left) (h1 : left ≤ 1048576) (w : World) :
    Calls Tryz.prog 18 #[.agg #[.slice a n c, .slice b m d], .int .i64 left] w fun e w' => e = .returned (.int .i64 (szT n m left)) ∧ Below w.heap.size w w' := by
  have Hn : Hid (n ≤ maxLen) := hn
  have Hm : Hid (m ≤ maxLen) := hm
  clear hn hm
  go_enter Tryz.func18, Tryz.ntmps18
  go_wp2_with fail
  refine (szIntS_c a n c Hn.out left h0 h1 _).mono ?_
  rintro e w1 ⟨rfl, rfl⟩
  by_cases h2 : left - n < 0
  · have H2 : Hid (left - n < 0) := h2
    rw [if_pos h2]
    go_wp2_with fail
    go_ret
    exact ⟨by rw [szT, if_pos H2.out]; rfl, by go_grown⟩
  · have H2 : Hid (¬ left - n < 0) := h2
    rw [if_neg h2]
    go_wp2_with fail
    refine (szNodeS_c b m d Hm.out (left - n) (by omega) (by omega) _).mono ?_
    rintro e w1 ⟨rfl, rfl⟩
    by_cases h3 : left - n - m < 0
    · have H3 : Hid (left - n - m < 0) := h3
      rw [if_pos h3]
      go_wp2_with fail
      go_ret
      exact ⟨by rw [szT, if_neg (by have := H2.out; omega), if_pos H3.out]; rfl, by go_grown⟩
    · have H3 : Hid (¬ left - n - m < 0) := h3
      rw [if_neg h3]
      go_wp2_with fail
      go_ret
      exact ⟨by rw [szT, if_neg (by have := H2.out; omega), if_neg (by have := H3.out; omega)]; rfl, by go_grown⟩

set_option maxHeartbeats 1000000 in
theorem toTopo_c (a b : Option Addr) (c d : Nat) (ps : List Int) (ns : List Nd) (hp : ps.length ≤ 1048576) (hn : ns.length ≤ 1048576) (w : World) (h : Sq w a (ints ps)) (h' : Sq w b (flat ns)) :
    Calls Tryz.prog 26 #[.agg #[.slice a ps.length c, .slice b ns.length d]] w fun e w' =>
      ∃ g h, e = .returned (.agg #[.slice (some ⟨g, 0, none⟩) ps.length ps.length, .slice (some ⟨h, 0, none⟩) ns.length ns.length]) ∧ w.heap.size ≤ g ∧ g < h ∧ Row w' g (ints ps) ∧ Row w' h (flat ns) ∧ Below w.heap.size w w' := by
  have H : Hid (Sq w a (ints ps)) := h
  have H' : Hid (Sq w b (flat ns)) := h'
  clear h h'
  go_enter Tryz.func26, Tryz.ntmps26
  go_wp2_with fail
  generalize hV : (((w.alloc (.cells #[.slice a ps.length c, .slice b ns.length d] 25)).alloc (.cells #[.slice none 0 0, .slice none 0 0] 40)).alloc (.cells #[.slice none 0 0, .slice none 0 0] 40)) = V
  have HA : Hid (Row V w.heap.size [.slice a ps.length c, .slice b ns.length d]) := by
    subst hV
    exact ((row_fresh w [.slice a ps.length c, .slice b ns.length d] 25).below (low_alloc _ _)).below (low_alloc _ _)
  have HR : Hid (Row V (w.heap.size + 1) [.slice none 0 0, .slice none 0 0]) := by
    subst hV
    have h := row_fresh (w.alloc (.cells #[.slice a ps.length c, .slice b ns.length d] 25)) [.slice none 0 0, .slice none 0 0] 40
    rw [show (w.alloc (.cells #[.slice a ps.length c, .slice b ns.length d] 25)).heap.size = w.heap.size + 1 by simp [go_sem]] at h
    exact h.below (low_alloc _ _)
  have HO : Hid (Row V (w.heap.size + 1 + 1) [.slice none 0 0, .slice none 0 0]) := by
    subst hV
    have h := row_fresh ((w.alloc (.cells #[.slice a ps.length c, .slice b ns.length d] 25)).alloc (.cells #[.slice none 0 0, .slice none 0 0] 40)) [.slice none 0 0, .slice none 0 0] 40
    rw [show ((w.alloc (.cells #[.slice a ps.length c, .slice b ns.length d] 25)).alloc (.cells #[.slice none 0 0, .slice none 0 0] 40)).heap.size = w.heap.size + 1 + 1 by simp [go_sem]] at h
    exact h
  have HB : Hid (Below w.heap.size w V) := by subst hV; show Below _ _ _; go_grown
  clear hV
  refine (toIntS_c a c ps hp _ (H.out.below HB.out)).mono ?_
  rintro e w1 ⟨g, rfl, hg, hr, hb⟩
  have hgo : w.heap.size + 1 + 1 < g := by have := HO.out.lt; omega
  have HG1 : Hid (Row w1 g (ints ps)) := hr
  have HA1 : Hid (Row w1 w.heap.size [.slice a ps.length c, .slice b ns.length d]) := HA.out.below hb
  have HR1 : Hid (Row w1 (w.heap.size + 1) [.slice none 0 0, .slice none 0 0]) := HR.out.below hb
  have HO1 : Hid (Row w1 (w.heap.size + 1 + 1) [.slice none 0 0, .slice none 0 0]) := HO.out.below hb
  have HB1 : Hid (Below w.heap.size w w1) := below_then HB.out hb
  clear hb hr HA HR HO HB
  have a1 := HA1.out.cell 1 _ rfl
  have o0 := HO1.out.cell 0 _ rfl
  have fo0 := HO1.out.free 0
  go_wp2_with fail
  have HA2 : Hid (Row (w1.setCell ⟨w.heap.size + 1 + 1, 0, none⟩ (.slice (some ⟨g, 0, none⟩) ps.length ps.length)) (w.heap.size + 1) [.slice none 0 0, .slice none 0 0]) := HR1.out.far (Lib.grownBy_setCell _ _ _ _) (by intro e; have := Option.some.inj e; omega)
  have HO2 : Hid (Row (w1.setCell ⟨w.heap.size + 1 + 1, 0, none⟩ (.slice (some ⟨g, 0, none⟩) ps.length ps.length)) (w.heap.size + 1 + 1) [.slice (some ⟨g, 0, none⟩) ps.length ps.length, .slice none 0 0]) := HO1.out.set 0 (by simp) _
  have HG2 : Hid (Row (w1.setCell ⟨w.heap.size + 1 + 1, 0, none⟩ (.slice (some ⟨g, 0, none⟩) ps.length ps.length)) g (ints ps)) := HG1.out.far (Lib.grownBy_setCell _ _ _ _) (by intro e; have := Option.some.inj e; omega)
  have HB2 : Hid (Below w.heap.size w (w1.setCell ⟨w.heap.size + 1 + 1, 0, none⟩ (.slice (some ⟨g, 0, none⟩) ps.length ps.length))) := HB1.out.setCell (by show w.heap.size ≤ w.heap.size + 1 + 1; omega) _
  generalize w1.setCell ⟨w.heap.size + 1 + 1, 0, none⟩ (.slice (some ⟨g, 0, none⟩) ps.length ps.length) = w2 at HA2 HO2 HG2 HB2
  clear a1 o0 fo0 HA1 HR1 HO1 HG1 HB1
  refine (toNodeS_c b d ns hn _ (H'.out.below HB2.out)).mono ?_
  rintro e w3 ⟨h, rfl, hh, hr, hb⟩
  have hgh : g < h := by have := HG2.out.lt; omega
  have HN3 : Hid (Row w3 h (flat ns)) := hr
  have HG3 : Hid (Row w3 g (ints ps)) := HG2.out.below hb
  have HR3 : Hid (Row w3 (w.heap.size + 1) [.slice none 0 0, .slice none 0 0]) := HA2.out.below hb
  have HO3 : Hid (Row w3 (w.heap.size + 1 + 1) [.slice (some ⟨g, 0, none⟩) ps.length ps.length, .slice none 0 0]) := HO2.out.below hb
  have HB3 : Hid (Below w.heap.size w w3) := below_then HB2.out hb
  clear hb hr HA2 HO2 HG2 HB2
  have o0 := HO3.out.cell 0 _ rfl
  have o1 := HO3.out.cell 1 _ rfl
  have fo1 := HO3.out.free 1
  have r0 := HR3.out.cell 0 _ rfl
  have r1 := HR3.out.cell 1 _ rfl
  have fr0 := HR3.out.free 0
  have fr1 := HR3.out.free 1
  have n1 : w.heap.size + 1 ≠ w.heap.size + 1 + 1 := by omega
  have n2 : w.heap.size + 1 + 1 ≠ w.heap.size + 1 := by omega
  go_wp2_with fail
  have G := ((HG3.out.apart (w.heap.size + 1 + 1) 1 (.slice (some ⟨h, 0, none⟩) ns.length ns.length) (by omega)).apart (w.heap.size + 1) 0 (.slice (some ⟨g, 0, none⟩) ps.length ps.length) (by omega)).apart (w.heap.size + 1) 1 (.slice (some ⟨h, 0, none⟩) ns.length ns.length) (by omega)
  have N := ((HN3.out.apart (w.heap.size + 1 + 1) 1 (.slice (some ⟨h, 0, none⟩) ns.length ns.length) (by omega)).apart (w.heap.size + 1) 0 (.slice (some ⟨g, 0, none⟩) ps.length ps.length) (by omega)).apart (w.heap.size + 1) 1 (.slice (some ⟨h, 0, none⟩) ns.length ns.length) (by omega)
  have B8 := HB3.out
  exact bodyPost_ret (v := .agg #[.slice (some ⟨g, 0, none⟩) ps.length ps.length, .slice (some ⟨h, 0, none⟩) ns.length ns.length]) (by simp [results, Tryz.results26, go_sem, *]) rfl ⟨g, h, rfl, by omega, hgh, G, N, by go_grown⟩
end Go.Proofs.YtmpjebkjopfejaaGreat

namespace Go.Proofs.YtmpjebkjopfejaaGreat
open Go.ChangeShapes Go.WideShapes Go.ChangeAt Go.RowKit

theorem Sq.of_row {w : World} {g : Nat} {xs : List Value} (h : Row w g xs) : Sq w (some ⟨g, 0, none⟩) xs :=
  ⟨fun i u hu => ⟨⟨g, 0, none⟩, rfl, h.lt, by
    have e : (⟨g, 0, none⟩ : Addr).add i = ⟨g, i, none⟩ := by unfold Addr.add; split <;> simp_all
    rw [e]
    exact h.cell i u hu⟩⟩

set_option maxHeartbeats 1000000 in
theorem eqNode_c (m n : Nd) (w : World) :
    Calls Tryz.prog 98 #[m.val, n.val] w fun e w' => e = .returned (.bool (decide (m = n))) ∧ Below w.heap.size w w' := by
  obtain ⟨l, a, b, c⟩ := m
  obtain ⟨k, x, y, z⟩ := n
  show Calls Tryz.prog 98 #[.agg #[.int .i64 l, .int .i64 a, .int .i64 b, .int .i64 c], .agg #[.int .i64 k, .int .i64 x, .int .i64 y, .int .i64 z]] w _
  by_cases h : l = k
  · subst h
    go_enter Tryz.func98, Tryz.ntmps98
    go_wp2_with fail
    refine (eqVec_c a b c x y z _).mono ?_
    rintro e w1 ⟨rfl, hb⟩
    have HB : Hid (Below w.heap.size w w1) := below_then (by go_grown) hb
    clear hb
    cases he : (a == x && b == y && c == z)
    · have hd : Hid (decide ((⟨l, a, b, c⟩ : Nd) = ⟨l, x, y, z⟩) = false) := by
        show _ = _
        simp only [decide_eq_false_iff_not, Nd.mk.injEq, true_and]
        rintro ⟨rfl, rfl, rfl⟩
        simp at he
      go_wp2_with fail
      go_ret
      exact ⟨by rw [hd.out]; rfl, HB.out⟩
    · have hd : Hid (decide ((⟨l, a, b, c⟩ : Nd) = ⟨l, x, y, z⟩) = true) := by
        show _ = _
        simpa [and_assoc] using he
      go_wp2_with fail
      go_ret
      exact ⟨by rw [hd.out]; rfl, HB.out⟩
  · have hd : decide ((⟨l, a, b, c⟩ : Nd) = ⟨k, x, y, z⟩) = false := by simp [h]
    have hi : (l != k) = true := by simpa using h
    go_enter Tryz.func98, Tryz.ntmps98
    have Hd : Hid (decide ((⟨l, a, b, c⟩ : Nd) = ⟨k, x, y, z⟩) = false) := hd
    clear hd
    go_wp2_with fail
    go_ret
    exact ⟨by rw [Hd.out]; rfl, by go_grown⟩

theorem Sq.nodeAt {w : World} {p : Addr} {xs : List Nd} {x : Nd} {j : Nat} (h : Sq w (some p) (flat xs)) (hx : xs[j]? = some x) :
    w.cell? (p.add (j * 4)) = some (.int .i64 x.l) ∧ w.cell? ⟨(p.add (j * 4)).block, (p.add (j * 4)).off + 1, none⟩ = some (.int .i64 x.a) ∧
      w.cell? ⟨(p.add (j * 4)).block, (p.add (j * 4)).off + 2, none⟩ = some (.int .i64 x.b) ∧ w.cell? ⟨(p.add (j * 4)).block, (p.add (j * 4)).off + 3, none⟩ = some (.int .i64 x.c) := by
  obtain ⟨hj, rfl⟩ := List.getElem?_eq_some_iff.1 hx
  obtain ⟨q, hq, h0⟩ := h.node j hj
  cases hq
  exact h0

theorem held_nodes {V w' : World} {p q : Addr} {xs ys : List Nd} {x y : Nd} {j : Nat} (h : Sq V (some p) (flat xs)) (h' : Sq V (some q) (flat ys)) (hx : xs[j]? = some x) (hy : ys[j]? = some y) (hb : Below V.heap.size V w') :
    Below V.heap.size V w' ∧ (w'.cell? (p.add (j * 4)) = some (.int .i64 x.l) ∧ w'.cell? ⟨(p.add (j * 4)).block, (p.add (j * 4)).off + 1, none⟩ = some (.int .i64 x.a) ∧
      w'.cell? ⟨(p.add (j * 4)).block, (p.add (j * 4)).off + 2, none⟩ = some (.int .i64 x.b) ∧ w'.cell? ⟨(p.add (j * 4)).block, (p.add (j * 4)).off + 3, none⟩ = some (.int .i64 x.c)) ∧
     (w'.cell? (q.add (j * 4)) = some (.int .i64 y.l) ∧ w'.cell? ⟨(q.add (j * 4)).block, (q.add (j * 4)).off + 1, none⟩ = some (.int .i64 y.a) ∧
      w'.cell? ⟨(q.add (j * 4)).block, (q.add (j * 4)).off + 2, none⟩ = some (.int .i64 y.b) ∧ w'.cell? ⟨(q.add (j * 4)).block, (q.add (j * 4)).off + 3, none⟩ = some (.int .i64 y.c)) :=
  ⟨hb, (h.below hb).nodeAt hx, (h'.below hb).nodeAt hy⟩

set_option maxHeartbeats 1000000 in
theorem eqNodeS_c (a b : Option Addr) (c d : Nat) (xs ys : List Nd) (hl : xs.length ≤ 1048576) (w : World) (h : Sq w a (flat xs)) (h' : Sq w b (flat ys)) :
    Calls Tryz.prog 65 #[.slice a xs.length c, .slice b ys.length d] w fun e w' => e = .returned (.bool (decide (xs = ys))) ∧ Below w.heap.size w w' := by
  have H : Hid (Sq w a (flat xs)) := h
  have H' : Hid (Sq w b (flat ys)) := h'
  clear h h'
  by_cases hlen : xs.length = ys.length
  · rw [← hlen]
    have Hlen : Hid (xs.length = ys.length) := by show _ = _; exact hlen
    clear hlen
    go_enter Tryz.func65, Tryz.ntmps65
    go_wp2_with fail
    go_loopw [5] (fun i wr => ∃ j : Nat, j ≤ xs.length ∧ i = .int .i64 j ∧ (∀ k, k < j → xs[k]? = ys[k]?) ∧ Below w.heap.size w wr) (fun i _ => xs.length - (intOf i).toNat)
    case atStart => exact ⟨0, Nat.zero_le _, rfl, fun k h => by omega, Below.refl _ _⟩
    case round =>
      obtain ⟨j, hj, rfl, he, hb⟩ := hrel
      have HE : Hid (∀ k, k < j → xs[k]? = ys[k]?) := he
      have HB : Hid (Below w.heap.size w wr) := hb
      clear he hb
      by_cases hlt : j < xs.length
      · have hlt' : j < ys.length := by have := Hlen.out; omega
        have hi0 : (0 : Int) ≤ (j : Int) := by omega
        have hi1 : (j : Int) < (xs.length : Int) := by omega
        obtain ⟨p, rfl, c0, c1, c2, c3⟩ := (H.out.below HB.out).node j hlt
        obtain ⟨q, rfl, d0, d1, d2, d3⟩ := (H'.out.below HB.out).node j hlt'
        have HX : Hid (xs[j]? = some xs[j]) := List.getElem?_eq_getElem hlt
        have HY : Hid (ys[j]? = some ys[j]) := List.getElem?_eq_getElem hlt'
        generalize xs[j] = x at c0 c1 c2 c3 HX
        generalize ys[j] = y at d0 d1 d2 d3 HY
        have HSX : Hid (Sq wr (some p) (flat xs)) := H.out.below HB.out
        have HSY : Hid (Sq wr (some q) (flat ys)) := H'.out.below HB.out
        have H0 : Hid (Below wr.heap.size wr wr) := Below.refl _ _
        have HQ : Hid (∀ W, Calls Tryz.prog 98 #[.agg #[.int .i64 x.l, .int .i64 x.a, .int .i64 x.b, .int .i64 x.c], .agg #[.int .i64 y.l, .int .i64 y.a, .int .i64 y.b, .int .i64 y.c]] W fun e w' => e = .returned (.bool (decide (x = y))) ∧ Below W.heap.size W w') := fun W => eqNode_c x y W
        cases hd : decide (x = y)
        all_goals rw [hd] at HQ
        · go_wp2_with fail
          go_region_held3 (fun w' => Below wr.heap.size wr w' ∧ (w'.cell? (p.add (j * 4)) = some (.int .i64 x.l) ∧ w'.cell? ⟨(p.add (j * 4)).block, (p.add (j * 4)).off + 1, none⟩ = some (.int .i64 x.a) ∧ w'.cell? ⟨(p.add (j * 4)).block, (p.add (j * 4)).off + 2, none⟩ = some (.int .i64 x.b) ∧ w'.cell? ⟨(p.add (j * 4)).block, (p.add (j * 4)).off + 3, none⟩ = some (.int .i64 x.c)) ∧ (w'.cell? (q.add (j * 4)) = some (.int .i64 y.l) ∧ w'.cell? ⟨(q.add (j * 4)).block, (q.add (j * 4)).off + 1, none⟩ = some (.int .i64 y.a) ∧ w'.cell? ⟨(q.add (j * 4)).block, (q.add (j * 4)).off + 2, none⟩ = some (.int .i64 y.b) ∧ w'.cell? ⟨(q.add (j * 4)).block, (q.add (j * 4)).off + 3, none⟩ = some (.int .i64 y.c))) ((go_split_ands; refine held_nodes HSX.out HSY.out HX.out HY.out ?_; first | (exact Hid.out (by with_reducible assumption)) | (with_reducible assumption) | (exact behind (by with_reducible assumption) (by with_reducible assumption)) | (go_grown; done))) ((go_at_call 98; refine (HQ.out _).mono ?_; rintro e w1 ⟨rfl, hb1⟩))
          all_goals
            go_split_ands
            have HB1 : Hid (Below w.heap.size w w1) := below_then HB.out (show Below wr.heap.size wr w1 by with_reducible assumption)
            have HN : Hid (decide (xs = ys) = false) := by
              show _ = _
              rw [decide_eq_false_iff_not] at hd ⊢
              intro e
              have e1 := HX.out
              rw [e, HY.out] at e1
              exact hd (Option.some.inj e1).symm
            go_wp2_with fail
            go_ret
            exact ⟨by rw [HN.out]; rfl, HB1.out⟩
        · have Hd : Hid (x = y) := by show _ = _; exact of_decide_eq_true hd
          clear hd
          go_wp2_with fail
          go_region_held3 (fun w' => Below wr.heap.size wr w' ∧ (w'.cell? (p.add (j * 4)) = some (.int .i64 x.l) ∧ w'.cell? ⟨(p.add (j * 4)).block, (p.add (j * 4)).off + 1, none⟩ = some (.int .i64 x.a) ∧ w'.cell? ⟨(p.add (j * 4)).block, (p.add (j * 4)).off + 2, none⟩ = some (.int .i64 x.b) ∧ w'.cell? ⟨(p.add (j * 4)).block, (p.add (j * 4)).off + 3, none⟩ = some (.int .i64 x.c)) ∧ (w'.cell? (q.add (j * 4)) = some (.int .i64 y.l) ∧ w'.cell? ⟨(q.add (j * 4)).block, (q.add (j * 4)).off + 1, none⟩ = some (.int .i64 y.a) ∧ w'.cell? ⟨(q.add (j * 4)).block, (q.add (j * 4)).off + 2, none⟩ = some (.int .i64 y.b) ∧ w'.cell? ⟨(q.add (j * 4)).block, (q.add (j * 4)).off + 3, none⟩ = some (.int .i64 y.c))) ((go_split_ands; refine held_nodes HSX.out HSY.out HX.out HY.out ?_; first | (exact Hid.out (by with_reducible assumption)) | (with_reducible assumption) | (exact behind (by with_reducible assumption) (by with_reducible assumption)) | (go_grown; done))) ((go_at_call 98; refine (HQ.out _).mono ?_; rintro e w1 ⟨rfl, hb1⟩))
          all_goals
            go_split_ands
            have HB1 : Hid (Below w.heap.size w w1) := below_then HB.out (show Below wr.heap.size wr w1 by with_reducible assumption)
            have HE1 : Hid (∀ k, k < j + 1 → xs[k]? = ys[k]?) := fun k hk => by
              by_cases e : k = j
              · subst e
                rw [HX.out, HY.out, Hd.out]
              · exact HE.out k (by omega)
            go_wp2_with fail
            go_roundw
            case rel => exact ⟨j + 1, by omega, by go_num, HE1.out, HB1.out⟩
            case measure => simp [intOf]; omega
      · have heq : decide (xs = ys) = true := by
          simp
          apply List.ext_getElem?
          intro k
          by_cases hk : k < xs.length
          · exact HE.out k (by omega)
          · rw [List.getElem?_eq_none (by omega), List.getElem?_eq_none (by have := Hlen.out; omega)]
        go_wp2_with fail
        go_ret
        exact ⟨by rw [heq]; rfl, HB.out⟩
  · have hne : decide (xs = ys) = false := by simp; intro e; exact hlen (by rw [e])
    have hi : ((xs.length : Int) == (ys.length : Int)) = false := by simp; omega
    go_enter Tryz.func65, Tryz.ntmps65
    go_wp2_with fail
    go_ret
    exact ⟨by rw [hne]; rfl, Below.refl _ _⟩

set_option maxHeartbeats 1000000 in
theorem eqTopo_c (a b a' b' : Option Addr) (c d c' d' : Nat) (ps ps' : List Int) (ns ns' : List Nd) (hp : ps.length ≤ 1048576) (hn : ns.length ≤ 1048576) (w : World)
    (h1 : Sq w a (ints ps)) (h2 : Sq w b (flat ns)) (h3 : Sq w a' (ints ps')) (h4 : Sq w b' (flat ns')) :
    Calls Tryz.prog 33 #[.agg #[.slice a ps.length c, .slice b ns.length d], .agg #[.slice a' ps'.length c', .slice b' ns'.length d']] w fun e w' => e = .returned (.bool (decide (ps = ps') && decide (ns = ns'))) ∧ Below w.heap.size w w' := by
  have H1 : Hid (Sq w a (ints ps)) := h1
  have H2 : Hid (Sq w b (flat ns)) := h2
  have H3 : Hid (Sq w a' (ints ps')) := h3
  have H4 : Hid (Sq w b' (flat ns')) := h4
  clear h1 h2 h3 h4
  go_enter Tryz.func33, Tryz.ntmps33
  go_wp2_with fail
  generalize hV : (w.alloc (.cells #[.slice a ps.length c, .slice b ns.length d] 40)).alloc (.cells #[.slice a' ps'.length c', .slice b' ns'.length d'] 40) = V
  have HA : Hid (Row V w.heap.size [.slice a ps.length c, .slice b ns.length d]) := by
    subst hV
    exact (row_fresh w [.slice a ps.length c, .slice b ns.length d] 40).below (low_alloc _ _)
  have HA' : Hid (Row V (w.heap.size + 1) [.slice a' ps'.length c', .slice b' ns'.length d']) := by
    subst hV
    have h := row_fresh (w.alloc (.cells #[.slice a ps.length c, .slice b ns.length d] 40)) [.slice a' ps'.length c', .slice b' ns'.length d'] 40
    rw [show (w.alloc (.cells #[.slice a ps.length c, .slice b ns.length d] 40)).heap.size = w.heap.size + 1 by simp [go_sem]] at h
    exact h
  have HB : Hid (Below w.heap.size w V) := by subst hV; show Below _ _ _; go_grown
  clear hV
  refine (eqIntS_c a a' c c' ps ps' hp _ (H1.out.below HB.out) (H3.out.below HB.out)).mono ?_
  rintro e w1 ⟨rfl, hb⟩
  have HB1 : Hid (Below w.heap.size w w1) := below_then HB.out hb
  have a1 := (HA.out.below hb).cell 1 _ rfl
  have a2 := (HA'.out.below hb).cell 1 _ rfl
  clear hb HA HA' HB
  cases he : decide (ps = ps')
  · have He : Hid (decide (ps = ps') = false) := he
    clear he
    go_wp2_with fail
    go_ret
    exact ⟨by rw [He.out]; rfl, HB1.out⟩
  · have He : Hid (decide (ps = ps') = true) := he
    clear he
    go_wp2_with fail
    refine (eqNodeS_c b b' d d' ns ns' hn _ (H2.out.below HB1.out) (H4.out.below HB1.out)).mono ?_
    rintro e w2 ⟨rfl, hb⟩
    have HB2 : Hid (Below w.heap.size w w2) := below_then HB1.out hb
    clear hb
    cases hf : decide (ns = ns')
    · have Hf : Hid (decide (ns = ns') = false) := hf
      clear hf
      go_wp2_with fail
      go_ret
      exact ⟨by rw [He.out, Hf.out]; rfl, HB2.out⟩
    · have Hf : Hid (decide (ns = ns') = true) := hf
      clear hf
      go_wp2_with fail
      go_ret
      exact ⟨by rw [He.out, Hf.out]; rfl, HB2.out⟩
end Go.Proofs.YtmpjebkjopfejaaGreat
