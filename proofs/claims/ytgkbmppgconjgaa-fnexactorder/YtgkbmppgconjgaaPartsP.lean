/- Plain facts on the pieces of a text between bytes; rows of cells in a block. -/
import Derived.Test.YtgkbmppgconjgaaBase
import Derived.Lib.SplitLaws
import Derived.Lib.IndexBytes
import Derived.Lib.IndexLaws
import Derived.Lib.BufferOwn
import Derived.Lib.BufferWrite
namespace Go.Proofs.Ytgkbmppgconjgaa
open Go.RowKit

/-- The pieces of a text between the bytes b. -/
def pcs (b : UInt8) : List UInt8 → List (List UInt8)
  | [] => [[]]
  | c :: l => if c = b then [] :: pcs b l else
    match pcs b l with
    | [] => [[c]]
    | p :: r => (c :: p) :: r

theorem pcs_ne (b : UInt8) : ∀ l, pcs b l ≠ []
  | [] => by simp [pcs]
  | c :: l => by
    unfold pcs
    split
    · simp
    · split <;> simp

theorem pcs_hit (b : UInt8) : ∀ l, pcs b (l ++ [b]) = pcs b l ++ [[]]
  | [] => by simp [pcs]
  | c :: l => by
    simp only [List.cons_append, pcs, pcs_hit b l]
    split
    · rfl
    · cases h : pcs b l with
      | nil => exact absurd h (pcs_ne b l)
      | cons p r => rfl

theorem pcs_miss (b c : UInt8) (hc : c ≠ b) : ∀ (l : List UInt8) (acc : List (List UInt8)) (t : List UInt8), pcs b l = acc ++ [t] → pcs b (l ++ [c]) = acc ++ [t ++ [c]]
  | [], acc, t, h => by
    simp only [pcs] at h
    cases acc with
    | nil => simp at h; subst h; simp [pcs, hc]
    | cons a r => simp at h
  | d :: l, acc, t, h => by
    simp only [List.cons_append, pcs] at h ⊢
    by_cases hd : d = b
    · rw [if_pos hd] at h ⊢
      cases acc with
      | nil =>
        simp at h
        exact absurd h.2 (pcs_ne b l)
      | cons a r =>
        simp only [List.cons_append, List.cons.injEq] at h
        rw [pcs_miss b c hc l r t h.2, ← h.1]
        rfl
    · rw [if_neg hd] at h ⊢
      cases hp : pcs b l with
      | nil => exact absurd hp (pcs_ne b l)
      | cons p r =>
        rw [hp] at h
        cases acc with
        | nil =>
          simp at h
          obtain ⟨h1, h2⟩ := h
          subst h2
          have := pcs_miss b c hc l [] p (by rw [hp]; rfl)
          rw [this, ← h1]
          rfl
        | cons a q =>
          simp only [List.cons_append, List.cons.injEq] at h
          have := pcs_miss b c hc l (p :: q) t (by rw [hp, h.2]; rfl)
          rw [this, ← h.1]
          rfl

theorem pcs_none (b : UInt8) : ∀ l : List UInt8, (∀ k : Nat, l[k]? ≠ some b) → pcs b l = [l]
  | [], _ => rfl
  | c :: l, h => by
    have hc : c ≠ b := fun e => h 0 (by simp [e])
    simp only [pcs, if_neg hc, pcs_none b l (fun k => by have := h (k + 1); simpa using this)]

theorem pcs_cut (b : UInt8) : ∀ (i : Nat) (l : List UInt8), l[i]? = some b → (∀ k, k < i → l[k]? ≠ some b) → pcs b l = l.take i :: pcs b (l.drop (i + 1))
  | 0, [], h, _ => by simp at h
  | 0, c :: l, h, _ => by
    simp at h
    simp [pcs, h]
  | i + 1, [], h, _ => by simp at h
  | i + 1, c :: l, h, hk => by
    have hc : c ≠ b := fun e => hk 0 (by omega) (by simp [e])
    have := pcs_cut b i l (by simpa using h) (fun k hlt => by have := hk (k + 1) (by omega); simpa using this)
    simp only [pcs, if_neg hc, this, List.take_succ_cons, List.drop_succ_cons]

theorem split_pcs (b : UInt8) : ∀ (n : Nat) (l : List UInt8), l.length ≤ n → Lib.splitK [b] 0 (Lib.count l [b]) l = pcs b l
  | n, l, hn => by
    by_cases h : Lib.index l [b] = -1
    · rw [Lib.count_miss h]
      rw [Lib.index_one] at h
      rw [pcs_none b l (Lib.indexByte_none h)]
      rfl
    · have hge := Lib.index_ge l [b]
      obtain ⟨i, hi⟩ : ∃ i : Nat, Lib.index l [b] = i := ⟨(Lib.index l [b]).toNat, by omega⟩
      rw [Lib.count_hit (by simp) hi, Nat.add_comm 1]
      have hi' := hi
      rw [Lib.index_one] at hi'
      obtain ⟨h1, h2⟩ := Lib.indexByte_some hi'
      have hlen : i < l.length := (List.getElem?_eq_some_iff.1 h1).1
      have e : (Lib.index l [b]).toNat = i := by omega
      have hne : ¬ (Lib.index l [b] == -1) = true := by simpa using h
      rw [Lib.splitK, if_neg hne, e]
      cases n with
      | zero => omega
      | succ n =>
        rw [split_pcs b n _ (by simp; omega), pcs_cut b i l h1 h2]
        rfl

/-- Pieces as strings in memory. -/
def strs (ps : List (List UInt8)) : List Value := ps.map fun p => .string ⟨p.toArray⟩

theorem strs_get (ps : List (List UInt8)) (i : Nat) : (strs ps)[i]? = (ps[i]?).map fun p => .string ⟨p.toArray⟩ := by simp [strs]
theorem strs_append (a b : List (List UInt8)) : strs (a ++ b) = strs a ++ strs b := by simp [strs]
theorem strs_length (a : List (List UInt8)) : (strs a).length = a.length := by simp [strs]

theorem splitB_strs (b : UInt8) (s : ByteArray) : (Lib.splitB ⟨#[b]⟩ 0 (Lib.countB s ⟨#[b]⟩) s).map Value.string = strs (pcs b s.data.toList) := by
  have h := Lib.splitB_data ⟨#[b]⟩ 0 (Lib.countB s ⟨#[b]⟩) s
  have h2 : Lib.splitK (⟨#[b]⟩ : ByteArray).data.toList 0 (Lib.countB s ⟨#[b]⟩) s.data.toList = pcs b s.data.toList := split_pcs b _ _ (Nat.le_refl _)
  rw [← h2, ← h, strs, List.map_map]
  rfl

/-- What lies in a block from its head on, and may be written. -/
structure Row (w : World) (g : Nat) (xs : List Value) : Prop where
  cell : ∀ i u, xs[i]? = some u → w.cell? ⟨g, i, none⟩ = some u
  free : ∀ i, w.frozen? ⟨g, i, none⟩ = false
  lt : g < w.heap.size

theorem Row.below {w w' : World} {g : Nat} {xs : List Value} (h : Row w g xs) (hb : Below w.heap.size w w') : Row w' g xs :=
  ⟨fun i u hu => (hb.cell (p := ⟨g, i, none⟩) h.lt).trans (h.cell i u hu), fun i => (hb.frozen (p := ⟨g, i, none⟩) h.lt).trans (h.free i), Nat.lt_of_lt_of_le h.lt hb.size⟩

theorem Row.far {w w' : World} {g : Nat} {r : Option Nat} {xs : List Value} (h : Row w g xs) (hg : w.grownBy w' r) (hne : some g ≠ r) : Row w' g xs :=
  ⟨fun i u hu => (World.cell?_of_block (a := ⟨g, i, none⟩) (hg.block g h.lt hne)).trans (h.cell i u hu), fun i => (World.frozen?_of_block (a := ⟨g, i, none⟩) (hg.block g h.lt hne)).trans (h.free i), Nat.lt_of_lt_of_le h.lt hg.size⟩

theorem Row.set {w : World} {g : Nat} {xs : List Value} (h : Row w g xs) (k : Nat) (hk : k < xs.length) (v : Value) : Row (w.setCell ⟨g, k, none⟩ v) g (xs.set k v) := by
  have hc := h.cell k xs[k] (List.getElem?_eq_getElem hk)
  refine ⟨fun i u hu => ?_, fun i => ?_, ?_⟩
  · by_cases e : i = k
    · subst e
      rw [List.getElem?_set_self hk] at hu
      rw [World.cell?_setCell_same _ _ _ hc]
      exact hu
    · rw [List.getElem?_set_ne (fun e' => e e'.symm)] at hu
      rw [World.cell?_setCell_other _ _ _ _ (fun e1 => by cases e1; exact e rfl)]
      exact h.cell i u hu
  · rw [World.frozen?_setCell]; exact h.free i
  · rw [World.size_setCell]; exact h.lt
end Go.Proofs.Ytgkbmppgconjgaa
