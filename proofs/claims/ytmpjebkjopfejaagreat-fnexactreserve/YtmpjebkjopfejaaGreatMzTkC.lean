/- What is taken off or added at one time; a profile that grows, its other rows kept. -/
import Derived.Test.YtmpjebkjopfejaaGreatMzTkB
import Derived.Test.YtmpjebkjopfejaaGreatMzBxA
import Derived.Test.YtmpjebkjopfejaaGreatMzVecH
namespace Go.Proofs.YtmpjebkjopfejaaGreat
open Go.ChangeShapes Go.WideShapes Go.ChangeAt Go.RowKit

/-- v added to what is free, v taken off. -/
def chG (add : Bool) (v m : Nd) : Option Nd :=
  if add then (if addB m.a m.b m.c v.a v.b v.c then some ⟨0, m.a + v.a, m.b + v.b, m.c + v.c⟩ else none)
  else (if subB m.a m.b m.c v.a v.b v.c then some ⟨0, m.a - v.a, m.b - v.b, m.c - v.c⟩ else none)

theorem ch_vok (add : Bool) (v m m' : Nd) (h : chG add v m = some m') : vokN m' = true := by
  unfold chG at h
  cases add
  · simp only [Bool.false_eq_true, if_false] at h
    split at h
    · rename_i hc
      cases h
      simp only [subB, Bool.and_eq_true] at hc
      exact hc.2
    · cases h
  · simp only [if_true] at h
    split at h
    · rename_i hc
      cases h
      simp only [addB, Bool.and_eq_true] at hc
      exact hc.2
    · cases h

/-- What the vector function answers. -/
def chV (add : Bool) (v m : Nd) : Value := .tuple #[.agg #[.int .i64 ((chG add v m).getD nd0).a, .int .i64 ((chG add v m).getD nd0).b, .int .i64 ((chG add v m).getD nd0).c], .bool (chG add v m).isSome]

theorem specVecAdd_g (v m : Nd) (w : World) : Calls Tryz.prog 79 #[.agg #[.int .i64 m.a, .int .i64 m.b, .int .i64 m.c], .agg #[.int .i64 v.a, .int .i64 v.b, .int .i64 v.c]] w fun e w' => e = .returned (chV true v m) ∧ Below w.heap.size w w' := by
  cases h : addB m.a m.b m.c v.a v.b v.c
  · have e : chV true v m = .tuple #[.agg #[.int .i64 0, .int .i64 0, .int .i64 0], .bool false] := by simp [chV, chG, h, nd0]
    rw [e]
    first
      | exact implVecAdd_no m.a m.b m.c v.a v.b v.c w h
      | (cases h12 : vokB m.a m.b m.c && vokB v.a v.b v.c
         · exact specVecAdd_wrong m.a m.b m.c v.a v.b v.c w h12
         · have h3 : vokB (m.a + v.a) (m.b + v.b) (m.c + v.c) = false := by simpa [addB, h12] using h
           rw [Bool.and_eq_true] at h12
           exact specVecAdd_over m.a m.b m.c v.a v.b v.c w h12.1 h12.2 h3)
  · have e : chV true v m = .tuple #[.agg #[.int .i64 (m.a + v.a), .int .i64 (m.b + v.b), .int .i64 (m.c + v.c)], .bool true] := by simp [chV, chG, h]
    rw [e]
    first
      | exact implVecAdd_yes m.a m.b m.c v.a v.b v.c w h
      | (simp only [addB, Bool.and_eq_true] at h
         exact specVecAdd_yes m.a m.b m.c v.a v.b v.c w h.1.1 h.1.2 h.2)

theorem specVecSub_g (v m : Nd) (w : World) : Calls Tryz.prog 80 #[.agg #[.int .i64 m.a, .int .i64 m.b, .int .i64 m.c], .agg #[.int .i64 v.a, .int .i64 v.b, .int .i64 v.c]] w fun e w' => e = .returned (chV false v m) ∧ Below w.heap.size w w' := by
  cases h : subB m.a m.b m.c v.a v.b v.c
  · have e : chV false v m = .tuple #[.agg #[.int .i64 0, .int .i64 0, .int .i64 0], .bool false] := by simp [chV, chG, h, nd0]
    rw [e]
    first
      | exact implVecSub_no m.a m.b m.c v.a v.b v.c w h
      | exact specVecSub_no m.a m.b m.c v.a v.b v.c w h
  · have e : chV false v m = .tuple #[.agg #[.int .i64 (m.a - v.a), .int .i64 (m.b - v.b), .int .i64 (m.c - v.c)], .bool true] := by simp [chV, chG, h]
    rw [e]
    first
      | exact implVecSub_yes m.a m.b m.c v.a v.b v.c w h
      | (have h' := h
         simp only [subB, Bool.and_eq_true, vok_iff] at h'
         exact specVecSub_yes m.a m.b m.c v.a v.b v.c w h (by omega) (by omega) (by omega) (by omega) (by omega) (by omega))
theorem implVecAdd_g (v m : Nd) (w : World) : Calls Tryz.prog 72 #[.agg #[.int .i64 m.a, .int .i64 m.b, .int .i64 m.c], .agg #[.int .i64 v.a, .int .i64 v.b, .int .i64 v.c]] w fun e w' => e = .returned (chV true v m) ∧ Below w.heap.size w w' := by
  cases h : addB m.a m.b m.c v.a v.b v.c
  · have e : chV true v m = .tuple #[.agg #[.int .i64 0, .int .i64 0, .int .i64 0], .bool false] := by simp [chV, chG, h, nd0]
    rw [e]
    first
      | exact implVecAdd_no m.a m.b m.c v.a v.b v.c w h
      | (cases h12 : vokB m.a m.b m.c && vokB v.a v.b v.c
         · exact specVecAdd_wrong m.a m.b m.c v.a v.b v.c w h12
         · have h3 : vokB (m.a + v.a) (m.b + v.b) (m.c + v.c) = false := by simpa [addB, h12] using h
           rw [Bool.and_eq_true] at h12
           exact specVecAdd_over m.a m.b m.c v.a v.b v.c w h12.1 h12.2 h3)
  · have e : chV true v m = .tuple #[.agg #[.int .i64 (m.a + v.a), .int .i64 (m.b + v.b), .int .i64 (m.c + v.c)], .bool true] := by simp [chV, chG, h]
    rw [e]
    first
      | exact implVecAdd_yes m.a m.b m.c v.a v.b v.c w h
      | (simp only [addB, Bool.and_eq_true] at h
         exact specVecAdd_yes m.a m.b m.c v.a v.b v.c w h.1.1 h.1.2 h.2)

theorem implVecSub_g (v m : Nd) (w : World) : Calls Tryz.prog 64 #[.agg #[.int .i64 m.a, .int .i64 m.b, .int .i64 m.c], .agg #[.int .i64 v.a, .int .i64 v.b, .int .i64 v.c]] w fun e w' => e = .returned (chV false v m) ∧ Below w.heap.size w w' := by
  cases h : subB m.a m.b m.c v.a v.b v.c
  · have e : chV false v m = .tuple #[.agg #[.int .i64 0, .int .i64 0, .int .i64 0], .bool false] := by simp [chV, chG, h, nd0]
    rw [e]
    first
      | exact implVecSub_no m.a m.b m.c v.a v.b v.c w h
      | exact specVecSub_no m.a m.b m.c v.a v.b v.c w h
  · have e : chV false v m = .tuple #[.agg #[.int .i64 (m.a - v.a), .int .i64 (m.b - v.b), .int .i64 (m.c - v.c)], .bool true] := by simp [chV, chG, h]
    rw [e]
    first
      | exact implVecSub_yes m.a m.b m.c v.a v.b v.c w h
      | (have h' := h
         simp only [subB, Bool.and_eq_true, vok_iff] at h'
         exact specVecSub_yes m.a m.b m.c v.a v.b v.c w h (by omega) (by omega) (by omega) (by omega) (by omega) (by omega))

/-- A store into a block that is neither the box nor the points'. -/
theorem Bx.apart {w W : World} {B O F i : Nat} {v x : Value} {ns : List Nd} (h : Bx w W B O v ns) (h1 : F ≠ O) (h2 : v.ownBlock ≠ some F) (h3 : w.heap.size ≤ F) : Bx w (W.setCell ⟨F, i, none⟩ x) B O v ns :=
  ⟨h.box.apart F i x (fun e => h1 e.symm), h.own.kept (Lib.grownBy_setCell W F i x) (.inr h2), h.ne, h.low, h.high, by rw [World.size_setCell]; exact h.le, h.grown.setCell (p := ⟨F, i, none⟩) (by show w.heap.size ≤ F; exact h3) _⟩

/-- All rows of V but the box O are as they were. -/
def KeepR (V : World) (O : Nat) (W : World) : Prop := ∀ b xs, Row V b xs → b ≠ O → Row W b xs
theorem KeepR.below {V W W' : World} {O : Nat} (h : KeepR V O W) (hb : Below W.heap.size W W') : KeepR V O W' := fun b xs hr hne => (h b xs hr hne).below hb
theorem KeepR.apart {V W : World} {O F i : Nat} {x : Value} (h : KeepR V O W) (hF : V.heap.size ≤ F) : KeepR V O (W.setCell ⟨F, i, none⟩ x) := fun b xs hr hne => (h b xs hr hne).apart F i x (by have := hr.lt; omega)

/-- What a change answers. -/
noncomputable def chgR (add : Bool) (v : Nd) (ns : List Nd) (f u : Int) : Option (List Nd) := (chTo (chG add v) ns f u (tmsL ns f u) []).filter (fun r => decide (r.length ≤ 200))

/-- As 'RetP', the answer's memory with its room. -/
def RetO (w : World) (r : List Nd) (k : Bool) (e : Ending) (w' : World) : Prop := ∃ v, e = .returned (.tuple #[.agg #[v], .bool k]) ∧ w'.ownsRow w.heap.size 109 4 v r.length (flat r) ∧ Below w.heap.size w w'
theorem owns_nil (w : World) (B : Nat) (t : TypeId) : w.ownsRow B t 4 (.slice none 0 0) ([] : List Nd).length (flat []) := ⟨rfl, .inl ⟨rfl, rfl⟩⟩
theorem RetO.plain {w : World} {r : List Nd} {k : Bool} {e : Ending} {w' : World} (h : RetO w r k e w') : RetP w r k e w' := by
  obtain ⟨v, he, ho, hb⟩ := h
  exact ⟨v, he, AnsP.of_owns ho, hb⟩
theorem owns_set {w : World} {B n F i : Nat} {t : TypeId} {v x : Value} {xs : List Value} (h : w.ownsRow B t 4 v n xs) (hF : F < B) : (w.setCell ⟨F, i, none⟩ x).ownsRow B t 4 v n xs :=
  h.kept (Lib.grownBy_setCell w F i x) (.inr (fun e => by have := (h.lt F e).1; omega))
theorem owns_form {w : World} {B n : Nat} {t : TypeId} {v : Value} {xs : List Value} (h : w.ownsRow B t 4 v n xs) : ∃ a c, v = .slice a n c := by
  obtain ⟨a, c, hv, _⟩ := (AnsP.of_owns h).form
  exact ⟨a, c, hv⟩
end Go.Proofs.YtmpjebkjopfejaaGreat
