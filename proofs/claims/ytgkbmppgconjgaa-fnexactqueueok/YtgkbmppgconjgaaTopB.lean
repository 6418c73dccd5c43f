/- Slices of nodes: copied. -/
import Derived.Test.YtgkbmppgconjgaaTopA
namespace Go.Proofs.Ytgkbmppgconjgaa
open Go.ChangeShapes Go.WideShapes Go.ChangeAt Go.RowKit

def Nd.cells (n : Nd) : List Value := [.int .i64 n.l, .int .i64 n.a, .int .i64 n.b, .int .i64 n.c]
/-- Nodes as they lie. -/
def flat (ns : List Nd) : List Value := ns.flatMap Nd.cells
theorem flat_len (ns : List Nd) : (flat ns).length = 4 * ns.length := by
  induction ns with
  | nil => rfl
  | cons n r ih => simp [flat, Nd.cells] at ih ⊢; omega
theorem flat_get : ∀ (ns : List Nd) (i k : Nat) (h : i < ns.length), k < 4 → (flat ns)[i * 4 + k]? = (ns[i].cells)[k]?
  | [], i, k, h, _ => by simp at h
  | n :: r, 0, k, _, hk => by
    simp only [flat, List.flatMap_cons, List.getElem_cons_zero, Nat.zero_mul, Nat.zero_add]
    rw [List.getElem?_append_left (by simpa [Nd.cells] using hk)]
  | n :: r, i + 1, k, h, hk => by
    simp only [flat, List.flatMap_cons, List.getElem_cons_succ]
    rw [List.getElem?_append_right (by simp [Nd.cells]; omega)]
    have := flat_get r i k (by simpa using h) hk
    rw [← this]
    congr 1
    simp [Nd.cells]
    omega

theorem add_field (p : Addr) (m k : Nat) (hk : 0 < k) : (⟨(p.add m).block, (p.add m).off + k, none⟩ : Addr) = p.add (m + k) := by
  unfold Addr.add
  by_cases hm : m = 0
  · subst hm
    rw [if_pos rfl, if_neg (by omega)]
    simp
  · rw [if_neg hm, if_neg (by omega)]
    simp [Nat.add_assoc]

/-- One node of a slice, as the walk reads it. -/
theorem Sq.node {w : World} {a : Option Addr} {xs : List Nd} (h : Sq w a (flat xs)) (j : Nat) (hj : j < xs.length) :
    ∃ p, a = some p ∧ w.cell? (p.add (j * 4)) = some (.int .i64 xs[j].l) ∧ w.cell? ⟨(p.add (j * 4)).block, (p.add (j * 4)).off + 1, none⟩ = some (.int .i64 xs[j].a) ∧
      w.cell? ⟨(p.add (j * 4)).block, (p.add (j * 4)).off + 2, none⟩ = some (.int .i64 xs[j].b) ∧ w.cell? ⟨(p.add (j * 4)).block, (p.add (j * 4)).off + 3, none⟩ = some (.int .i64 xs[j].c) := by
  obtain ⟨p, ha, _, c0⟩ := h.cell (j * 4 + 0) _ (flat_get xs j 0 hj (by decide))
  obtain ⟨p1, h1, _, c1⟩ := h.cell (j * 4 + 1) _ (flat_get xs j 1 hj (by decide))
  obtain ⟨p2, h2, _, c2⟩ := h.cell (j * 4 + 2) _ (flat_get xs j 2 hj (by decide))
  obtain ⟨p3, h3, _, c3⟩ := h.cell (j * 4 + 3) _ (flat_get xs j 3 hj (by decide))
  rw [ha] at h1 h2 h3
  cases h1; cases h2; cases h3
  refine ⟨p, ha, by simpa using c0, ?_, ?_, ?_⟩
  · rw [add_field _ _ _ (by decide)]; simpa [Nd.cells] using c1
  · rw [add_field _ _ _ (by decide)]; simpa [Nd.cells] using c2
  · rw [add_field _ _ _ (by decide)]; simpa [Nd.cells] using c3

/-- The first j nodes lie there already. -/
def PartN (ys : List Value) (xs : List Nd) (j : Nat) : Prop := ys.length = 4 * xs.length ∧ ∀ i (h : i < xs.length) k, k < 4 → i < j → ys[i * 4 + k]? = (xs[i].cells)[k]?

def put4 (ys : List Value) (j : Nat) (n : Nd) : List Value := (((ys.set (j * 4) (.int .i64 n.l)).set (j * 4 + 1) (.int .i64 n.a)).set (j * 4 + 2) (.int .i64 n.b)).set (j * 4 + 3) (.int .i64 n.c)

theorem PartN.set {ys : List Value} {xs : List Nd} {j : Nat} (h : PartN ys xs j) (hj : j < xs.length) : PartN (put4 ys j xs[j]) xs (j + 1) := by
  refine ⟨by simp only [put4, List.length_set]; exact h.1, fun i hi k hk hij => ?_⟩
  have hl := h.1
  unfold put4
  by_cases e : i = j
  · subst e
    match k, hk with
    | 0, _ => rw [List.getElem?_set_ne (by omega), List.getElem?_set_ne (by omega), List.getElem?_set_ne (by omega), Nat.add_zero, List.getElem?_set_self (by omega)]; rfl
    | 1, _ => rw [List.getElem?_set_ne (by omega), List.getElem?_set_ne (by omega), List.getElem?_set_self (by simp; omega)]; rfl
    | 2, _ => rw [List.getElem?_set_ne (by omega), List.getElem?_set_self (by simp; omega)]; rfl
    | 3, _ => rw [List.getElem?_set_self (by simp; omega)]; rfl
  · rw [List.getElem?_set_ne (by omega), List.getElem?_set_ne (by omega), List.getElem?_set_ne (by omega), List.getElem?_set_ne (by omega)]
    exact h.2 i hi k hk (by omega)

theorem PartN.all {ys : List Value} {xs : List Nd} {j : Nat} (h : PartN ys xs j) (hj : xs.length ≤ j) : ys = flat xs := by
  apply List.ext_getElem?
  intro m
  by_cases hm : m < 4 * xs.length
  · have h1 := h.2 (m / 4) (by omega) (m % 4) (by omega) (by omega)
    have h2 := flat_get xs (m / 4) (m % 4) (by omega) (by omega)
    rw [show m / 4 * 4 + m % 4 = m by omega] at h1 h2
    rw [h1, h2]
  · rw [List.getElem?_eq_none (by rw [h.1]; omega), List.getElem?_eq_none (by rw [flat_len]; omega)]

theorem Row.put {w : World} {g : Nat} {ys : List Value} (h : Row w g ys) (j : Nat) (n : Nd) (hj : j * 4 + 3 < ys.length) :
    Row ((((w.setCell ⟨g, j * 4, none⟩ (.int .i64 n.l)).setCell ⟨g, j * 4 + 1, none⟩ (.int .i64 n.a)).setCell ⟨g, j * 4 + 2, none⟩ (.int .i64 n.b)).setCell ⟨g, j * 4 + 3, none⟩ (.int .i64 n.c)) g (put4 ys j n) :=
  (((h.set (j * 4) (by omega) _).set (j * 4 + 1) (by simp; omega) _).set (j * 4 + 2) (by simp; omega) _).set (j * 4 + 3) (by simp; omega) _

end Go.Proofs.Ytgkbmppgconjgaa
