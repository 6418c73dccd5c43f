/- Answers that are lists of jobs: they own their memory; marked and found marked. -/
import Derived.Test.YtpjfampfhofeaaaJsA
import Derived.Test.YtpjfampfhofeaaaAnsA
namespace Go.Proofs.Ytpjfampfhofeaaa
open Go.ChangeShapes Go.WideShapes Go.ChangeAt Go.RowKit

/-- A slice of so many jobs in a block from B on and below T (none at all where there is no job). -/
def AnsJ (B T : Nat) (w : World) (n : Nat) (xs : List Value) (v : Value) : Prop := xs.length = 11 * n ∧ ∃ a cap, v = .slice a n cap ∧ (n = 0 ∨ ∃ g, a = some ⟨g, 0, none⟩ ∧ B ≤ g ∧ g < T ∧ Row w g xs)

theorem AnsJ.of_row {w : World} {g n cap : Nat} {xs : List Value} (hx : xs.length = 11 * n) (h : Row w g xs) {B T : Nat} (hB : B ≤ g) (hT : g < T) : AnsJ B T w n xs (.slice (some ⟨g, 0, none⟩) n cap) := ⟨hx, _, cap, rfl, .inr ⟨g, rfl, hB, hT, h⟩⟩
theorem AnsJ.none (B T : Nat) (w : World) (a : Option Addr) (cap : Nat) : AnsJ B T w 0 [] (.slice a 0 cap) := ⟨rfl, a, cap, rfl, .inl rfl⟩

theorem AnsJ.of_owns {w : World} {B n : Nat} {e : TypeId} {v : Value} {xs : List Value} (h : w.ownsRow B e 11 v n xs) : AnsJ B w.heap.size w n xs v := by
  obtain ⟨hlen, h⟩ := h
  refine ⟨by omega, ?_⟩
  rcases h with ⟨rfl, rfl⟩ | ⟨g, cap, cur, rfl, hB, hg, hnc, _, hsz, hx⟩
  · exact ⟨_, 0, rfl, .inl rfl⟩
  · have hlt : g < w.heap.size := by
      rcases Nat.lt_or_ge g w.heap.size with h' | h'
      · exact h'
      · rw [Array.getElem?_eq_none h'] at hg; cases hg
    refine ⟨_, cap, rfl, .inr ⟨g, rfl, hB, hlt, fun i u hu => ?_, fun i => ?_, hlt⟩⟩
    · rw [← hx] at hu
      have hi : cur.toList[i]? = some u := by
        rw [List.getElem?_take] at hu
        split at hu
        · exact hu
        · cases hu
      simp only [World.cell?, hg]
      simpa using hi
    · simp [World.frozen?, hg]

theorem AnsJ.form {B T : Nat} {w : World} {n : Nat} {xs : List Value} {v : Value} (h : AnsJ B T w n xs v) : ∃ a cap, v = .slice a n cap ∧ Sq w a xs := by
  obtain ⟨hx, a, cap, rfl, h⟩ := h
  refine ⟨a, cap, rfl, ?_⟩
  rcases h with rfl | ⟨g, rfl, _, _, hr⟩
  · have : xs = [] := List.length_eq_zero_iff.1 (by omega)
    subst this
    exact ⟨fun i u hu => by simp at hu⟩
  · exact Sq.of_row hr
/-- What keeps its row keeps it. -/
theorem AnsJ.keep {B T : Nat} {w w' : World} {n : Nat} {xs : List Value} {v : Value} (h : AnsJ B T w n xs v) (hk : ∀ g, B ≤ g → g < T → Row w g xs → Row w' g xs) : AnsJ B T w' n xs v := by
  obtain ⟨hx, a, cap, hv, h⟩ := h
  refine ⟨hx, a, cap, hv, ?_⟩
  rcases h with rfl | ⟨g, rfl, hg, hT, hr⟩
  · exact .inl rfl
  · exact .inr ⟨g, rfl, hg, hT, hk g hg hT hr⟩
theorem AnsJ.below {B T : Nat} {w w' : World} {n : Nat} {xs : List Value} {v : Value} (h : AnsJ B T w n xs v) (hb : Below w.heap.size w w') : AnsJ B T w' n xs v := h.keep fun _ _ _ hr => hr.below hb
theorem AnsJ.wide {B B' T T' : Nat} {w : World} {n : Nat} {xs : List Value} {v : Value} (h : AnsJ B T w n xs v) (hB : B' ≤ B) (hT : T ≤ T') : AnsJ B' T' w n xs v := by
  obtain ⟨hx, a, cap, hv, h⟩ := h
  refine ⟨hx, a, cap, hv, ?_⟩
  rcases h with rfl | ⟨g, rfl, hg, hT', hr⟩
  · exact .inl rfl
  · exact .inr ⟨g, rfl, by omega, by omega, hr⟩

/-- The first m cells bear numbers from k on. -/
def UpTo (ys : List Value) (k m : Nat) : Prop := ∀ i, i < m → ys[i]? = some (.int .i64 ((k + i : Nat) : Int))
theorem UpTo.next {ys : List Value} {k j n : Nat} {vs : List Value} (h : UpTo ys k (11 * j)) (hl : ys.length = 11 * n) (hj : j < n) (hv : vs.length = 11) (hvs : ∀ i, i < 11 → vs[i]? = some (.int .i64 ((k + 11 * j + i : Nat) : Int))) : UpTo (putL ys (j * 11) vs) k (11 * (j + 1)) := fun i hi => by
  by_cases e : i < 11 * j
  · rw [putL_out _ _ _ _ (.inl (by omega))]
    exact h i e
  · obtain ⟨q, rfl⟩ : ∃ q, i = j * 11 + q := ⟨i - j * 11, by omega⟩
    rw [putL_in _ _ _ _ (by omega) (by omega), hvs q (by omega)]
    congr 3
    omega
theorem UpTo.all {ys : List Value} {k m : Nat} (h : UpTo ys k m) (hl : ys.length = m) : ys = upFrom k m := by
  apply List.ext_getElem?
  intro i
  by_cases hi : i < m
  · rw [h i hi, upFrom_get k m i hi]
  · rw [List.getElem?_eq_none (by omega), List.getElem?_eq_none (by rw [upFrom_len]; omega)]
theorem grown_setL {w : World} {g : Nat} (vs : List Value) : ∀ {wr : World} (m : Nat), w.grownBy wr (some g) → w.grownBy (setL wr g m vs) (some g) := by
  induction vs with
  | nil => intro wr m h; exact h
  | cons v r ih => intro wr m h; exact ih (m + 1) (Lib.grownBy_setB h _ _)

theorem kv_get (K : Int) (k j i : Nat) (hK : K = ((k + 11 * j : Nat) : Int)) (hi : i < 11) : ([.int .i64 K, .int .i64 (K + 1), .int .i64 (K + 1 + 1), .int .i64 (K + 1 + 1 + 1), .int .i64 (K + 1 + 1 + 1 + 1), .int .i64 (K + 1 + 1 + 1 + 1 + 1), .int .i64 (K + 1 + 1 + 1 + 1 + 1 + 1), .int .i64 (K + 1 + 1 + 1 + 1 + 1 + 1 + 1), .int .i64 (K + 1 + 1 + 1 + 1 + 1 + 1 + 1 + 1), .int .i64 (K + 1 + 1 + 1 + 1 + 1 + 1 + 1 + 1 + 1), .int .i64 (K + 1 + 1 + 1 + 1 + 1 + 1 + 1 + 1 + 1 + 1)] : List Value)[i]? = some (.int .i64 ((k + 11 * j + i : Nat) : Int)) := by
  match i, hi with
  | 0, _ | 1, _ | 2, _ | 3, _ | 4, _ | 5, _ | 6, _ | 7, _ | 8, _ | 9, _ | 10, _ => simp; omega


end Go.Proofs.Ytpjfampfhofeaaa
