/- Slices of nodes: copied. -/
import Derived.Test.YtbnbikmnembciaaTopA
namespace Go.Proofs.Ytbnbikmnembciaa
open Go.ChangeShapes Go.WideShapes Go.ChangeAt Go.RowKit

def Nd.cells (n : Nd) : List Value := [.int .i64 n.l, .int .i64 n.a, .int .i64 n.b, .int .i64 n.c]
/-- Nodes as they lie. -/
def flat (ns : List Nd) : List Value := ns.flatMap Nd.cells
theorem flat_len (ns : List Nd) : (flat ns).length = 4 * ns.length := by
  induction ns with
  | nil => rfl
  | cons n r ih => simp [flat, Nd.cells] at ih ⊢; omega
theorem flat_get : ∀ (ns : List Nd) (i k : Nat) (h : i < ns.length), k < 4 → (flat ns)[i * 4 + k]? = (ns[i].cells)[k]?
  | [], i, k, h, _ => by simp at h
  | n :: r, 0, k, _, hk => by
    simp only [flat, List.flatMap_cons, List.getElem_cons_zero, Nat.zero_mul, Nat.zero_add]
    rw [List.getElem?_append_left (by simpa [Nd.cells] using hk)]
  | n :: r, i + 1, k, h, hk => by
    simp only [flat, List.flatMap_cons, List.getElem_cons_succ]
    rw [List.getElem?_append_right (by simp [Nd.cells]; omega)]
    have := flat_get r i k (by simpa using h) hk
    rw [← this]
    congr 1
    simp [Nd.cells]
    omega

theorem infoNode : (Try.prog.info? 97).map (fun i => (i.zero, i.size, i.bytes)) = some (some (.agg #[.int .i64 0, .int .i64 0, .int .i64 0, .int .i64 0]), 4, 32) := by kernel_rfl

/-- 'make([]impl.Node, n)'. -/
theorem make_nodes (n : Nat) (hn : n ≤ 1048576) : ∃ Z : List Value, Z.length = 4 * n ∧ ∀ w : World, (Instr.makeSlice 37 (.int .i64 (n : Int)) (.int .i64 (n : Int))).run Try.prog w = .ok (.slice (some ⟨w.heap.size, 0, none⟩) n n) (w.alloc (.cells Z.toArray 97)) := by
  obtain ⟨i0, hi, hz0, hz1, hz2⟩ := info_parts infoNode
  refine ⟨(madeCells (Value.agg #[.int .i64 0, .int .i64 0, .int .i64 0, .int .i64 0]).cells (n * i0.size)).toList, ?_, fun w => ?_⟩
  · rw [hz1]
    simp [madeCells, Value.cells]
    omega
  · have h := run_make (P := Try.prog) (w := w) 37 97 i0 (.agg #[.int .i64 0, .int .i64 0, .int .i64 0, .int .i64 0]) Try.underlying37 hi hz0 .i64 .i64 (n : Int) (n : Int) (by omega) (Int.le_refl _) (by rw [hz2]; omega) (by omega)
    simpa using h

theorem add_field (p : Addr) (m k : Nat) (hk : 0 < k) : (⟨(p.add m).block, (p.add m).off + k, none⟩ : Addr) = p.add (m + k) := by
  unfold Addr.add
  by_cases hm : m = 0
  · subst hm
    rw [if_pos rfl, if_neg (by omega)]
    simp
  · rw [if_neg hm, if_neg (by omega)]
    simp [Nat.add_assoc]

/-- One node of a slice, as the walk reads it. -/
theorem Sq.node {w : World} {a : Option Addr} {xs : List Nd} (h : Sq w a (flat xs)) (j : Nat) (hj : j < xs.length) :
    ∃ p, a = some p ∧ w.cell? (p.add (j * 4)) = some (.int .i64 xs[j].l) ∧ w.cell? ⟨(p.add (j * 4)).block, (p.add (j * 4)).off + 1, none⟩ = some (.int .i64 xs[j].a) ∧
      w.cell? ⟨(p.add (j * 4)).block, (p.add (j * 4)).off + 2, none⟩ = some (.int .i64 xs[j].b) ∧ w.cell? ⟨(p.add (j * 4)).block, (p.add (j * 4)).off + 3, none⟩ = some (.int .i64 xs[j].c) := by
  obtain ⟨p, ha, _, c0⟩ := h.cell (j * 4 + 0) _ (flat_get xs j 0 hj (by decide))
  obtain ⟨p1, h1, _, c1⟩ := h.cell (j * 4 + 1) _ (flat_get xs j 1 hj (by decide))
  obtain ⟨p2, h2, _, c2⟩ := h.cell (j * 4 + 2) _ (flat_get xs j 2 hj (by decide))
  obtain ⟨p3, h3, _, c3⟩ := h.cell (j * 4 + 3) _ (flat_get xs j 3 hj (by decide))
  rw [ha] at h1 h2 h3
  cases h1; cases h2; cases h3
  refine ⟨p, ha, by simpa using c0, ?_, ?_, ?_⟩
  · rw [add_field _ _ _ (by decide)]; simpa [Nd.cells] using c1
  · rw [add_field _ _ _ (by decide)]; simpa [Nd.cells] using c2
  · rw [add_field _ _ _ (by decide)]; simpa [Nd.cells] using c3

/-- The first j nodes lie there already. -/
def PartN (ys : List Value) (xs : List Nd) (j : Nat) : Prop := ys.length = 4 * xs.length ∧ ∀ i (h : i < xs.length) k, k < 4 → i < j → ys[i * 4 + k]? = (xs[i].cells)[k]?

def put4 (ys : List Value) (j : Nat) (n : Nd) : List Value := (((ys.set (j * 4) (.int .i64 n.l)).set (j * 4 + 1) (.int .i64 n.a)).set (j * 4 + 2) (.int .i64 n.b)).set (j * 4 + 3) (.int .i64 n.c)

theorem PartN.set {ys : List Value} {xs : List Nd} {j : Nat} (h : PartN ys xs j) (hj : j < xs.length) : PartN (put4 ys j xs[j]) xs (j + 1) := by
  refine ⟨by simp only [put4, List.length_set]; exact h.1, fun i hi k hk hij => ?_⟩
  have hl := h.1
  unfold put4
  by_cases e : i = j
  · subst e
    match k, hk with
    | 0, _ => rw [List.getElem?_set_ne (by omega), List.getElem?_set_ne (by omega), List.getElem?_set_ne (by omega), Nat.add_zero, List.getElem?_set_self (by omega)]; rfl
    | 1, _ => rw [List.getElem?_set_ne (by omega), List.getElem?_set_ne (by omega), List.getElem?_set_self (by simp; omega)]; rfl
    | 2, _ => rw [List.getElem?_set_ne (by omega), List.getElem?_set_self (by simp; omega)]; rfl
    | 3, _ => rw [List.getElem?_set_self (by simp; omega)]; rfl
  · rw [List.getElem?_set_ne (by omega), List.getElem?_set_ne (by omega), List.getElem?_set_ne (by omega), List.getElem?_set_ne (by omega)]
    exact h.2 i hi k hk (by omega)

theorem PartN.all {ys : List Value} {xs : List Nd} {j : Nat} (h : PartN ys xs j) (hj : xs.length ≤ j) : ys = flat xs := by
  apply List.ext_getElem?
  intro m
  by_cases hm : m < 4 * xs.length
  · have h1 := h.2 (m / 4) (by omega) (m % 4) (by omega) (by omega)
    have h2 := flat_get xs (m / 4) (m % 4) (by omega) (by omega)
    rw [show m / 4 * 4 + m % 4 = m by omega] at h1 h2
    rw [h1, h2]
  · rw [List.getElem?_eq_none (by rw [h.1]; omega), List.getElem?_eq_none (by rw [flat_len]; omega)]

theorem Row.put {w : World} {g : Nat} {ys : List Value} (h : Row w g ys) (j : Nat) (n : Nd) (hj : j * 4 + 3 < ys.length) :
    Row ((((w.setCell ⟨g, j * 4, none⟩ (.int .i64 n.l)).setCell ⟨g, j * 4 + 1, none⟩ (.int .i64 n.a)).setCell ⟨g, j * 4 + 2, none⟩ (.int .i64 n.b)).setCell ⟨g, j * 4 + 3, none⟩ (.int .i64 n.c)) g (put4 ys j n) :=
  (((h.set (j * 4) (by omega) _).set (j * 4 + 1) (by simp; omega) _).set (j * 4 + 2) (by simp; omega) _).set (j * 4 + 3) (by simp; omega) _

set_option maxHeartbeats 1000000 in
theorem toNodeS_c (a : Option Addr) (cap : Nat) (xs : List Nd) (hl : xs.length ≤ 1048576) (w : World) (h : Sq w a (flat xs)) :
    Calls Try.prog 47 #[.slice a xs.length cap] w fun e w' =>
      ∃ g, e = .returned (.slice (some ⟨g, 0, none⟩) xs.length xs.length) ∧ w.heap.size ≤ g ∧ Row w' g (flat xs) ∧ Below w.heap.size w w' := by
  have H : Hid (Sq w a (flat xs)) := h
  clear h
  obtain ⟨Z, hZ, hmk⟩ := make_nodes xs.length hl
  go_enter Try.func47, Try.ntmps47
  go_wp2_with fail
  go_loopw [4] (fun i wr => ∃ (j : Nat) (ys : List Value), j ≤ xs.length ∧ i = .int .i64 j ∧ PartN ys xs j ∧ Row wr w.heap.size ys ∧ Below w.heap.size w wr) (fun i _ => xs.length - (intOf i).toNat)
  case atStart => exact ⟨0, Z, Nat.zero_le _, rfl, ⟨hZ, fun i _ k _ h => by omega⟩, row_fresh w Z 97, by go_grown⟩
  case round =>
    obtain ⟨j, ys, hj, rfl, hp, hr, hb⟩ := hrel
    have HP : Hid (PartN ys xs j) := hp
    have HR : Hid (Row wr w.heap.size ys) := hr
    have HB : Hid (Below w.heap.size w wr) := hb
    clear hp hr hb hmk hZ
    by_cases hlt : j < xs.length
    · have hi0 : (0 : Int) ≤ (j : Int) := by omega
      have hi1 : (j : Int) < (xs.length : Int) := by omega
      obtain ⟨p, rfl, c0, c1, c2, c3⟩ := (H.out.below HB.out).node j hlt
      go_wp2_with fail
      refine (toNode_c _ _ _ _ _).mono ?_
      rintro e w1 ⟨rfl, hb1⟩
      have HB1 : Hid (Below w.heap.size w w1) := below_then HB.out hb1
      have HR1 : Hid (Row w1 w.heap.size ys) := HR.out.below hb1
      have hy : j * 4 + 3 < ys.length := by rw [HP.out.1]; omega
      have HS := HR1.out.put j xs[j] hy
      have d0 := HR1.out.cell (j * 4) _ (List.getElem?_eq_getElem (by omega))
      have d1 := HR1.out.cell (j * 4 + 1) _ (List.getElem?_eq_getElem (by omega))
      have d2 := HR1.out.cell (j * 4 + 2) _ (List.getElem?_eq_getElem (by omega))
      have d3 := HR1.out.cell (j * 4 + 3) _ (List.getElem?_eq_getElem (by omega))
      have f0 := HR1.out.free (j * 4)
      have f1 := HR1.out.free (j * 4 + 1)
      have f2 := HR1.out.free (j * 4 + 2)
      have f3 := HR1.out.free (j * 4 + 3)
      clear hb1 c0 c1 c2 c3
      have HT : Hid (Row _ _ _) := HS
      clear HS
      go_wp2_with fail
      exact ⟨⟨j + 1, put4 ys j xs[j], by omega, by go_num, HP.out.set hlt, HT.out, (((HB1.out.setCell (Nat.le_refl _) _).setCell (Nat.le_refl _) _).setCell (Nat.le_refl _) _).setCell (Nat.le_refl _) _⟩, by simp [intOf]; omega⟩
    · have HE : Hid (ys = flat xs) := HP.out.all (by omega)
      go_wp2_with fail
      go_ret
      exact ⟨_, rfl, Nat.le_refl _, by rw [← HE.out]; exact HR.out, HB.out⟩
end Go.Proofs.Ytbnbikmnembciaa
