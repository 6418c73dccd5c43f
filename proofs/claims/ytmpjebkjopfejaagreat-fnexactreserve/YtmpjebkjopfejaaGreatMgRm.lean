/- An answer that is a profile, and the box that it is laid into. -/
import Derived.Test.YtmpjebkjopfejaaGreatMzJbA
import Derived.Test.YtmpjebkjopfejaaGreatMgRa
import Derived.Test.YtmpjebkjopfejaaGreatMgRb
import Derived.Test.YtmpjebkjopfejaaGreatMgRi
import Derived.Test.YtmpjebkjopfejaaGreatMgRd
namespace Go.Proofs.YtmpjebkjopfejaaGreat
open Go.ChangeShapes Go.WideShapes Go.ChangeAt Go.RowKit

theorem Jb.len (x : Jb) : x.cells.length = 11 := rfl
/-- Jobs as they lie. -/
def flatJ (xs : List Jb) : List Value := xs.flatMap Jb.cells
theorem flatJ_len (xs : List Jb) : (flatJ xs).length = 11 * xs.length := by
  induction xs with
  | nil => rfl
  | cons n r ih => simp [flatJ, Jb.cells] at ih ⊢; omega
theorem flatJ_get : ∀ (xs : List Jb) (i k : Nat) (h : i < xs.length), k < 11 → (flatJ xs)[i * 11 + k]? = (xs[i].cells)[k]?
  | [], i, k, h, _ => by simp at h
  | n :: r, 0, k, _, hk => by
    simp only [flatJ, List.flatMap_cons, List.getElem_cons_zero, Nat.zero_mul, Nat.zero_add]
    rw [List.getElem?_append_left (by rw [Jb.len]; exact hk)]
  | n :: r, i + 1, k, h, hk => by
    simp only [flatJ, List.flatMap_cons, List.getElem_cons_succ]
    rw [List.getElem?_append_right (by rw [Jb.len]; omega)]
    have := flatJ_get r i k (by simpa using h) hk
    rw [← this]
    congr 1
    rw [Jb.len]
    omega

theorem Sq.some_of {w : World} {a : Option Addr} {xs : List Jb} (h : Sq w a (flatJ xs)) (j : Nat) (hj : j < xs.length) : ∃ p, a = some p := by
  obtain ⟨p, ha, _⟩ := h.cell (j * 11 + 0) _ (flatJ_get xs j 0 hj (by decide))
  exact ⟨p, ha⟩
theorem Sq.job0 {w : World} {p : Addr} {xs : List Jb} {x : Jb} {j : Nat} (h : Sq w (some p) (flatJ xs)) (hx : xs[j]? = some x) : w.cell? (p.add (j * 11)) = some (.int .i64 x.id) := by
  obtain ⟨hj, rfl⟩ := List.getElem?_eq_some_iff.1 hx
  obtain ⟨q, hq, _, c⟩ := h.cell (j * 11 + 0) _ (flatJ_get xs j 0 hj (by decide))
  cases hq
  simpa using c
theorem Sq.jobK {w : World} {p : Addr} {xs : List Jb} {x : Jb} {j : Nat} (h : Sq w (some p) (flatJ xs)) (hx : xs[j]? = some x) (k : Nat) (hk : 0 < k) (u : Value) (hu : x.cells[k]? = some u) : w.cell? ⟨(p.add (j * 11)).block, (p.add (j * 11)).off + k, none⟩ = some u := by
  obtain ⟨hj, rfl⟩ := List.getElem?_eq_some_iff.1 hx
  have hk2 : k < 11 := by have := (List.getElem?_eq_some_iff.1 hu).1; rwa [Jb.len] at this
  obtain ⟨q, hq, _, c⟩ := h.cell (j * 11 + k) u ((flatJ_get xs j k hj hk2).trans hu)
  cases hq
  rw [add_field _ _ _ hk]
  exact c
theorem Beh.job0 {U : World} {p : Addr} {xs : List Jb} {x : Jb} {j : Nat} (h : Sq U (some p) (flatJ xs)) (hx : xs[j]? = some x) : ∀ n : Beh U, n.w.cell? (p.add (j * 11)) = some (.int .i64 x.id) := fun n => (h.below n.low).job0 hx
theorem Beh.jobK {U : World} {p : Addr} {xs : List Jb} {x : Jb} {j : Nat} (h : Sq U (some p) (flatJ xs)) (hx : xs[j]? = some x) (k : Nat) (hk : 0 < k) (u : Value) (hu : x.cells[k]? = some u) : ∀ n : Beh U, n.w.cell? ⟨(p.add (j * 11)).block, (p.add (j * 11)).off + k, none⟩ = some u := fun n => (h.below n.low).jobK hx k hk u hu

/-- Values put one behind the other. -/
def putL (ys : List Value) : Nat → List Value → List Value
  | _, [] => ys
  | m, v :: r => putL (ys.set m v) (m + 1) r
def setL (w : World) (g : Nat) : Nat → List Value → World
  | _, [] => w
  | m, v :: r => setL (w.setCell ⟨g, m, none⟩ v) g (m + 1) r
theorem putL_len (vs : List Value) : ∀ (ys : List Value) (m : Nat), (putL ys m vs).length = ys.length := by
  induction vs with
  | nil => intro ys m; rfl
  | cons v r ih => intro ys m; rw [putL, ih, List.length_set]
theorem putL_out (vs : List Value) : ∀ (ys : List Value) (m i : Nat), i < m ∨ m + vs.length ≤ i → (putL ys m vs)[i]? = ys[i]? := by
  induction vs with
  | nil => intro ys m i _; rfl
  | cons v r ih =>
    intro ys m i h
    simp only [List.length_cons] at h
    rw [putL, ih _ _ _ (by omega), List.getElem?_set_ne (by omega)]
theorem putL_in (vs : List Value) : ∀ (ys : List Value) (m k : Nat), m + vs.length ≤ ys.length → k < vs.length → (putL ys m vs)[m + k]? = vs[k]? := by
  induction vs with
  | nil => intro ys m k _ h; simp at h
  | cons v r ih =>
    intro ys m k h hk
    simp only [List.length_cons] at h hk
    rw [putL]
    cases k with
    | zero => rw [putL_out _ _ _ _ (by omega), Nat.add_zero, List.getElem?_set_self (by omega)]; rfl
    | succ k => rw [show m + (k + 1) = m + 1 + k by omega, ih _ _ _ (by rw [List.length_set]; omega) (by omega)]; rfl
theorem Row.putL {g : Nat} (vs : List Value) : ∀ {w : World} {ys : List Value} (m : Nat), Row w g ys → m + vs.length ≤ ys.length → Row (setL w g m vs) g (putL ys m vs) := by
  induction vs with
  | nil => intro w ys m h _; exact h
  | cons v r ih =>
    intro w ys m h hl
    simp only [List.length_cons] at hl
    exact ih (m + 1) (h.set m (by omega) v) (by rw [List.length_set]; omega)
theorem below_setL {g n : Nat} {A : World} (hg : n ≤ g) (vs : List Value) : ∀ {w : World} (m : Nat), Below n A w → Below n A (setL w g m vs) := by
  induction vs with
  | nil => intro w m h; exact h
  | cons v r ih => intro w m h; exact ih (m + 1) (h.setCell hg v)

/-- The first j jobs lie there already. -/
def PartJ (ys : List Value) (xs : List Jb) (j : Nat) : Prop := ys.length = 11 * xs.length ∧ ∀ i (h : i < xs.length) k, k < 11 → i < j → ys[i * 11 + k]? = (xs[i].cells)[k]?
theorem PartJ.set {ys : List Value} {xs : List Jb} {j : Nat} {x : Jb} (h : PartJ ys xs j) (hx : xs[j]? = some x) : PartJ (Go.Proofs.YtmpjebkjopfejaaGreat.putL ys (j * 11) x.cells) xs (j + 1) := by
  obtain ⟨hj, rfl⟩ := List.getElem?_eq_some_iff.1 hx
  refine ⟨by rw [putL_len]; exact h.1, fun i hi k hk hij => ?_⟩
  have hl := h.1
  by_cases e : i = j
  · subst e
    exact putL_in _ _ _ _ (by rw [Jb.len]; omega) (by rw [Jb.len]; exact hk)
  · rw [putL_out _ _ _ _ (by rw [Jb.len]; omega)]
    exact h.2 i hi k hk (by omega)
theorem PartJ.all {ys : List Value} {xs : List Jb} {j : Nat} (h : PartJ ys xs j) (hj : xs.length ≤ j) : ys = flatJ xs := by
  apply List.ext_getElem?
  intro m
  by_cases hm : m < 11 * xs.length
  · have h1 := h.2 (m / 11) (by omega) (m % 11) (by omega) (by omega)
    have h2 := flatJ_get xs (m / 11) (m % 11) (by omega) (by omega)
    rw [show m / 11 * 11 + m % 11 = m by omega] at h1 h2
    rw [h1, h2]
  · rw [List.getElem?_eq_none (by rw [h.1]; omega), List.getElem?_eq_none (by rw [flatJ_len]; omega)]

theorem infoJob : (Tryz.prog.info? 52).map (fun i => (i.zero, i.size, i.bytes)) = some (some (.agg #[.int .i64 0, .int .i64 0, .int .i64 0, .int .i64 0, .int .i64 0, .int .i64 0, .int .i64 0, .int .i64 0, .int .i64 0, .int .i64 0, .int .i64 0]), 11, 88) := by kernel_rfl
end Go.Proofs.YtmpjebkjopfejaaGreat

namespace Go.Proofs.YtmpjebkjopfejaaGreat
open Go.ChangeShapes Go.WideShapes Go.ChangeAt Go.RowKit

/-- Since U the answer and its box Z have been made, apart from each other. -/
def BoxR (U W : World) (Z : Nat) (o : Option Rm) (c0 c1 c2 c3 c4 : Value) : Prop :=
  Row W Z [c0, c1, c2, c3, c4] ∧ Below U.heap.size U W ∧ U.heap.size ≤ Z ∧ ∃ B T, RmV B T W o c0 c1 c2 c3 c4 ∧ U.heap.size ≤ B ∧ T ≤ W.heap.size ∧ (Z < B ∨ T ≤ Z)
theorem fin_boxR {U W W2 : World} {X : Nat} {o : Option Rm} {c0 c1 c2 c3 c4 : Value} (hX : Row W X [.slice none 0 0, .slice none 0 0, .slice none 0 0, .slice none 0 0, .slice none 0 0]) (hans : RmV W.heap.size W2.heap.size W2 o c0 c1 c2 c3 c4) (hb : Below W.heap.size W W2) (hV : Below U.heap.size U W2) (hUX : U.heap.size ≤ X) :
    BoxR U (setL W2 X 0 [c0, c1, c2, c3, c4]) X o c0 c1 c2 c3 c4 := by
  have hl := hX.lt
  have hsz : (setL W2 X 0 [c0, c1, c2, c3, c4]).heap.size = W2.heap.size := by simp only [setL, World.size_setCell]
  refine ⟨Row.putL [c0, c1, c2, c3, c4] 0 (hX.below hb) (by simp), below_setL hUX _ _ hV, hUX, W.heap.size, W2.heap.size, hans.keep (fun g ys h1 _ hr => ((((hr.apart X 0 _ (by omega)).apart X 1 _ (by omega)).apart X 2 _ (by omega)).apart X 3 _ (by omega)).apart X 4 _ (by omega)), by omega, ?_, .inl hl⟩
  rw [hsz]
  exact Nat.le_refl _
theorem fin_newR {U W2 : World} {B : Nat} {o : Option Rm} {c0 c1 c2 c3 c4 : Value} {t : TypeId} (hans : RmV B W2.heap.size W2 o c0 c1 c2 c3 c4) (hB : U.heap.size ≤ B) (hV : Below U.heap.size U W2) :
    BoxR U (W2.alloc (.cells #[c0, c1, c2, c3, c4] t)) W2.heap.size o c0 c1 c2 c3 c4 :=
  ⟨row_fresh W2 [c0, c1, c2, c3, c4] t, behind_alloc hV _, hV.size, B, W2.heap.size, hans.below (low_alloc _ _), hB, by simp [go_sem], .inr (Nat.le_refl _)⟩
end Go.Proofs.YtmpjebkjopfejaaGreat

namespace Go.Proofs.YtmpjebkjopfejaaGreat
open Go.ChangeShapes Go.WideShapes Go.ChangeAt Go.RowKit

/-- Since U the answer and its box Z have been made, apart from each other. -/
def Boxd (U W : World) (Z : Nat) (a : Option Addr) (c : Nat) (r : List Nd) : Prop :=
  Row W Z [.slice a r.length c] ∧ AnsP U.heap.size W.heap.size W r.length (flat r) (.slice a r.length c) ∧ Below U.heap.size U W ∧ U.heap.size ≤ Z ∧ ∃ G, AnsP G (G + 1) W r.length (flat r) (.slice a r.length c) ∧ U.heap.size ≤ G ∧ Z ≠ G

theorem AnsP.one {B T : Nat} {w : World} {n Z : Nat} {xs : List Value} {v : Value} (h : AnsP B T w n xs v) (hne : Z < B ∨ T ≤ Z) : ∃ G, AnsP G (G + 1) w n xs v ∧ (B ≤ G ∨ G = Z + 1) ∧ Z ≠ G := by
  obtain ⟨hx, a, cap, hv, h⟩ := h
  rcases h with rfl | ⟨g, rfl, hg, hT, hr⟩
  · exact ⟨Z + 1, ⟨hx, a, cap, hv, .inl rfl⟩, .inr rfl, by omega⟩
  · exact ⟨g, ⟨hx, _, cap, hv, .inr ⟨g, rfl, Nat.le_refl _, Nat.lt_succ_self _, hr⟩⟩, .inl hg, by omega⟩

theorem fin_box {U W W2 : World} {X : Nat} {z : Value} {r : List Nd} {a : Option Addr} {c : Nat} (hX : Row W X [z]) (hans : AnsP W.heap.size W2.heap.size W2 r.length (flat r) (.slice a r.length c)) (hb : Below W.heap.size W W2) (hV : Below U.heap.size U W2) (hUX : U.heap.size ≤ X) :
    Boxd U (W2.setCell ⟨X, 0, none⟩ (.slice a r.length c)) X a c r := by
  have hl := hX.lt
  have h2 := hans.keep (w' := W2.setCell ⟨X, 0, none⟩ (.slice a r.length c)) (fun g h1 _ hr => hr.apart X 0 _ (by omega))
  obtain ⟨G, hG, hBG, hZG⟩ := h2.one (Z := X) (.inl hl)
  exact ⟨(hX.below hb).set 0 (by simp) _, h2.wide (by omega) (by rw [World.size_setCell]; exact Nat.le_refl _), hV.setCell (p := ⟨X, 0, none⟩) hUX _, hUX, G, hG, by omega, hZG⟩

theorem fin_new {U W2 : World} {B : Nat} {r : List Nd} {a : Option Addr} {c : Nat} {t : TypeId} (hans : AnsP B W2.heap.size W2 r.length (flat r) (.slice a r.length c)) (hB : U.heap.size ≤ B) (hV : Below U.heap.size U W2) :
    Boxd U (W2.alloc (.cells #[.slice a r.length c] t)) W2.heap.size a c r := by
  have h2 := hans.below (low_alloc W2 (.cells #[.slice a r.length c] t))
  have hs := hV.size
  obtain ⟨G, hG, hBG, hZG⟩ := h2.one (Z := W2.heap.size) (.inr (Nat.le_refl _))
  exact ⟨row_fresh W2 [.slice a r.length c] t, h2.wide hB (by simp [go_sem]), behind_alloc hV _, hs, G, hG, by omega, hZG⟩
end Go.Proofs.YtmpjebkjopfejaaGreat
