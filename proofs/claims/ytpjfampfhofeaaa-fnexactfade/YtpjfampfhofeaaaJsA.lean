/- Lists of jobs: as they lie, copied, measured, held against themselves. -/
import Derived.Test.YtpjfampfhofeaaaJbA
import Derived.Test.YtpjfampfhofeaaaTopD
import Derived.Test.YtpjfampfhofeaaaBehA
namespace Go.Proofs.Ytpjfampfhofeaaa
open Go.ChangeShapes Go.WideShapes Go.ChangeAt Go.RowKit

theorem Jb.len (x : Jb) : x.cells.length = 11 := rfl
/-- Jobs as they lie. -/
def flatJ (xs : List Jb) : List Value := xs.flatMap Jb.cells
theorem flatJ_len (xs : List Jb) : (flatJ xs).length = 11 * xs.length := by
  induction xs with
  | nil => rfl
  | cons n r ih => simp [flatJ, Jb.cells] at ih ⊢; omega
theorem flatJ_get : ∀ (xs : List Jb) (i k : Nat) (h : i < xs.length), k < 11 → (flatJ xs)[i * 11 + k]? = (xs[i].cells)[k]?
  | [], i, k, h, _ => by simp at h
  | n :: r, 0, k, _, hk => by
    simp only [flatJ, List.flatMap_cons, List.getElem_cons_zero, Nat.zero_mul, Nat.zero_add]
    rw [List.getElem?_append_left (by rw [Jb.len]; exact hk)]
  | n :: r, i + 1, k, h, hk => by
    simp only [flatJ, List.flatMap_cons, List.getElem_cons_succ]
    rw [List.getElem?_append_right (by rw [Jb.len]; omega)]
    have := flatJ_get r i k (by simpa using h) hk
    rw [← this]
    congr 1
    rw [Jb.len]
    omega

theorem Sq.some_of {w : World} {a : Option Addr} {xs : List Jb} (h : Sq w a (flatJ xs)) (j : Nat) (hj : j < xs.length) : ∃ p, a = some p := by
  obtain ⟨p, ha, _⟩ := h.cell (j * 11 + 0) _ (flatJ_get xs j 0 hj (by decide))
  exact ⟨p, ha⟩
theorem Sq.job0 {w : World} {p : Addr} {xs : List Jb} {x : Jb} {j : Nat} (h : Sq w (some p) (flatJ xs)) (hx : xs[j]? = some x) : w.cell? (p.add (j * 11)) = some (.int .i64 x.id) := by
  obtain ⟨hj, rfl⟩ := List.getElem?_eq_some_iff.1 hx
  obtain ⟨q, hq, _, c⟩ := h.cell (j * 11 + 0) _ (flatJ_get xs j 0 hj (by decide))
  cases hq
  simpa using c
theorem Sq.jobK {w : World} {p : Addr} {xs : List Jb} {x : Jb} {j : Nat} (h : Sq w (some p) (flatJ xs)) (hx : xs[j]? = some x) (k : Nat) (hk : 0 < k) (u : Value) (hu : x.cells[k]? = some u) : w.cell? ⟨(p.add (j * 11)).block, (p.add (j * 11)).off + k, none⟩ = some u := by
  obtain ⟨hj, rfl⟩ := List.getElem?_eq_some_iff.1 hx
  have hk2 : k < 11 := by have := (List.getElem?_eq_some_iff.1 hu).1; rwa [Jb.len] at this
  obtain ⟨q, hq, _, c⟩ := h.cell (j * 11 + k) u ((flatJ_get xs j k hj hk2).trans hu)
  cases hq
  rw [add_field _ _ _ hk]
  exact c
theorem Beh.job0 {U : World} {p : Addr} {xs : List Jb} {x : Jb} {j : Nat} (h : Sq U (some p) (flatJ xs)) (hx : xs[j]? = some x) : ∀ n : Beh U, n.w.cell? (p.add (j * 11)) = some (.int .i64 x.id) := fun n => (h.below n.low).job0 hx
theorem Beh.jobK {U : World} {p : Addr} {xs : List Jb} {x : Jb} {j : Nat} (h : Sq U (some p) (flatJ xs)) (hx : xs[j]? = some x) (k : Nat) (hk : 0 < k) (u : Value) (hu : x.cells[k]? = some u) : ∀ n : Beh U, n.w.cell? ⟨(p.add (j * 11)).block, (p.add (j * 11)).off + k, none⟩ = some u := fun n => (h.below n.low).jobK hx k hk u hu

/-- Values put one behind the other. -/
def putL (ys : List Value) : Nat → List Value → List Value
  | _, [] => ys
  | m, v :: r => putL (ys.set m v) (m + 1) r
def setL (w : World) (g : Nat) : Nat → List Value → World
  | _, [] => w
  | m, v :: r => setL (w.setCell ⟨g, m, none⟩ v) g (m + 1) r
theorem putL_len (vs : List Value) : ∀ (ys : List Value) (m : Nat), (putL ys m vs).length = ys.length := by
  induction vs with
  | nil => intro ys m; rfl
  | cons v r ih => intro ys m; rw [putL, ih, List.length_set]
theorem putL_out (vs : List Value) : ∀ (ys : List Value) (m i : Nat), i < m ∨ m + vs.length ≤ i → (putL ys m vs)[i]? = ys[i]? := by
  induction vs with
  | nil => intro ys m i _; rfl
  | cons v r ih =>
    intro ys m i h
    simp only [List.length_cons] at h
    rw [putL, ih _ _ _ (by omega), List.getElem?_set_ne (by omega)]
theorem putL_in (vs : List Value) : ∀ (ys : List Value) (m k : Nat), m + vs.length ≤ ys.length → k < vs.length → (putL ys m vs)[m + k]? = vs[k]? := by
  induction vs with
  | nil => intro ys m k _ h; simp at h
  | cons v r ih =>
    intro ys m k h hk
    simp only [List.length_cons] at h hk
    rw [putL]
    cases k with
    | zero => rw [putL_out _ _ _ _ (by omega), Nat.add_zero, List.getElem?_set_self (by omega)]; rfl
    | succ k => rw [show m + (k + 1) = m + 1 + k by omega, ih _ _ _ (by rw [List.length_set]; omega) (by omega)]; rfl
theorem Row.putL {g : Nat} (vs : List Value) : ∀ {w : World} {ys : List Value} (m : Nat), Row w g ys → m + vs.length ≤ ys.length → Row (setL w g m vs) g (putL ys m vs) := by
  induction vs with
  | nil => intro w ys m h _; exact h
  | cons v r ih =>
    intro w ys m h hl
    simp only [List.length_cons] at hl
    exact ih (m + 1) (h.set m (by omega) v) (by rw [List.length_set]; omega)
theorem below_setL {g n : Nat} {A : World} (hg : n ≤ g) (vs : List Value) : ∀ {w : World} (m : Nat), Below n A w → Below n A (setL w g m vs) := by
  induction vs with
  | nil => intro w m h; exact h
  | cons v r ih => intro w m h; exact ih (m + 1) (h.setCell hg v)

/-- The first j jobs lie there already. -/
def PartJ (ys : List Value) (xs : List Jb) (j : Nat) : Prop := ys.length = 11 * xs.length ∧ ∀ i (h : i < xs.length) k, k < 11 → i < j → ys[i * 11 + k]? = (xs[i].cells)[k]?
theorem PartJ.set {ys : List Value} {xs : List Jb} {j : Nat} {x : Jb} (h : PartJ ys xs j) (hx : xs[j]? = some x) : PartJ (Go.Proofs.Ytpjfampfhofeaaa.putL ys (j * 11) x.cells) xs (j + 1) := by
  obtain ⟨hj, rfl⟩ := List.getElem?_eq_some_iff.1 hx
  refine ⟨by rw [putL_len]; exact h.1, fun i hi k hk hij => ?_⟩
  have hl := h.1
  by_cases e : i = j
  · subst e
    exact putL_in _ _ _ _ (by rw [Jb.len]; omega) (by rw [Jb.len]; exact hk)
  · rw [putL_out _ _ _ _ (by rw [Jb.len]; omega)]
    exact h.2 i hi k hk (by omega)
theorem PartJ.all {ys : List Value} {xs : List Jb} {j : Nat} (h : PartJ ys xs j) (hj : xs.length ≤ j) : ys = flatJ xs := by
  apply List.ext_getElem?
  intro m
  by_cases hm : m < 11 * xs.length
  · have h1 := h.2 (m / 11) (by omega) (m % 11) (by omega) (by omega)
    have h2 := flatJ_get xs (m / 11) (m % 11) (by omega) (by omega)
    rw [show m / 11 * 11 + m % 11 = m by omega] at h1 h2
    rw [h1, h2]
  · rw [List.getElem?_eq_none (by rw [h.1]; omega), List.getElem?_eq_none (by rw [flatJ_len]; omega)]

end Go.Proofs.Ytpjfampfhofeaaa
