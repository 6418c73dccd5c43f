/- The times of a change: the specification. -/
import Derived.Test.YtmpjebkjopfejaaGreatMzTkL
import Derived.Test.YtmpjebkjopfejaaGreatMzPTm
namespace Go.Proofs.YtmpjebkjopfejaaGreat
open Go.ChangeShapes Go.WideShapes Go.ChangeAt Go.RowKit

/-- 'append(s, y)' of one number to a list of the call's own. -/
theorem wpl_app1 {ops : Array Oper} {rest : List Oper} {o : Oper} {a : Act} {Q : Exit → Act → World → Prop} {wr B : World} {base : Nat} {v : Value} {xs : List Int} {y : Int} {s x : Operand} (hgd : o.guard = none)
    (ho : o.op = .call { callee := .builtin .append, args := #[s, x], argTypes := #[22, 22] })
    (hown : wr.ownsRow base 3 1 v xs.length (ints xs)) (hlen : xs.length ≤ 100000) (hB : Below B.heap.size B wr) (hb1 : B.heap.size ≤ base) (hb2 : base ≤ wr.heap.size)
    (hs : a.eval s = v) (hx : a.eval x = .slice (some ⟨wr.heap.size, 0, none⟩) 1 1)
    (h : ∀ v' w', Hid (w'.ownsRow base 3 1 v' (xs.length + 1) (ints (xs ++ [y]))) → Hid (Below B.heap.size B w') → wpList Tryz.prog ops Q rest (a.put o.dst v') w') :
    wpList Tryz.prog ops Q (o :: rest) a (wr.alloc (.cells #[.int .i64 y] 3)) := by
  obtain ⟨i0, hi, hz0, hz1, hz2⟩ := info_parts infoInt
  refine wpList_append_own _ hgd s x 22 ho base 3 i0 (.int .i64 0) 1 8 Tryz.underlying22 hi hz0 hz1 hz2 rfl (by decide) v xs.length (ints xs) hs (hown.alloc _) ⟨wr.heap.size, 0, none⟩ 1 1 [.int .i64 y] hx rfl ?_ ?_ ?_ ?_ ?_ ?_
  · intro k u hk
    match k, hk with
    | 0, hk => simp at hk; subst hk; simp [Addr.add]
  · intro u hu; simp at hu; subst hu; rfl
  · unfold maxLen; omega
  · omega
  · simp; omega
  · intro v' w' h1 h2 _
    refine h v' w' ?_ ?_
    · show World.ownsRow _ _ _ _ _ _ _
      rw [ints, List.map_append]
      exact h1
    · exact (hB.alloc hB.size _).grown h2 (by simp; have := hB.size; omega) (fun q hq => by have := (hown.lt q hq).1; omega)

/-- How far the putting in has come. -/
def InsAt (t : Int) (xs : List Int) (j : Nat) (b : Bool) (acc : List Int) : Prop := acc.length ≤ j + 1 ∧ (b = false → acc.length ≤ j) ∧ acc ++ (bif b then (xs.drop j).filter (fun y => decide (y ≠ t)) else insT t (xs.drop j)) = insT t xs

theorem InsAt.start (t : Int) (xs : List Int) : InsAt t xs 0 false [] := ⟨by simp, by simp, by simp⟩
theorem InsAt.done1 {t : Int} {xs acc : List Int} {j : Nat} (h : InsAt t xs j true acc) (hj : xs.length ≤ j) : acc = insT t xs := by
  have := h.2.2
  rw [List.drop_eq_nil_of_le hj] at this
  simpa using this
theorem InsAt.done0 {t : Int} {xs acc : List Int} {j : Nat} (h : InsAt t xs j false acc) (hj : xs.length ≤ j) : acc ++ [t] = insT t xs := by
  have := h.2.2
  rw [List.drop_eq_nil_of_le hj] at this
  simpa [insT] using this
theorem InsAt.both {t x : Int} {xs acc : List Int} {j : Nat} (h : InsAt t xs j false acc) (hx : xs[j]? = some x) (h1 : t ≤ x) (h2 : x ≠ t) : InsAt t xs (j + 1) true (acc ++ [t] ++ [x]) := by
  obtain ⟨ha, hb, hc⟩ := h
  obtain ⟨hj, e⟩ := List.getElem?_eq_some_iff.1 hx
  rw [List.drop_eq_getElem_cons hj, e] at hc
  refine ⟨by simp; have := hb rfl; omega, by simp, ?_⟩
  rw [← hc]
  generalize xs.drop (j + 1) = r
  simp [insT, h1, h2]
theorem InsAt.meet {t : Int} {xs acc : List Int} {j : Nat} (h : InsAt t xs j false acc) (hx : xs[j]? = some t) : InsAt t xs (j + 1) true (acc ++ [t]) := by
  obtain ⟨ha, hb, hc⟩ := h
  obtain ⟨hj, e⟩ := List.getElem?_eq_some_iff.1 hx
  rw [List.drop_eq_getElem_cons hj, e] at hc
  refine ⟨by simp; have := hb rfl; omega, by simp, ?_⟩
  rw [← hc]
  simp [insT]
theorem InsAt.ahead {t x : Int} {xs acc : List Int} {j : Nat} (h : InsAt t xs j false acc) (hx : xs[j]? = some x) (h1 : x < t) : InsAt t xs (j + 1) false (acc ++ [x]) := by
  obtain ⟨ha, hb, hc⟩ := h
  obtain ⟨hj, rfl⟩ := List.getElem?_eq_some_iff.1 hx
  rw [List.drop_eq_getElem_cons hj] at hc
  refine ⟨by simp; have := hb rfl; omega, by simp; have := hb rfl; omega, ?_⟩
  rw [← hc]
  simp only [cond_false]
  rw [ins_le t _ _ h1]
  simp
theorem InsAt.more {t x : Int} {xs acc : List Int} {j : Nat} (h : InsAt t xs j true acc) (hx : xs[j]? = some x) (h2 : x ≠ t) : InsAt t xs (j + 1) true (acc ++ [x]) := by
  obtain ⟨ha, hb, hc⟩ := h
  obtain ⟨hj, e⟩ := List.getElem?_eq_some_iff.1 hx
  rw [List.drop_eq_getElem_cons hj, e] at hc
  refine ⟨by simp; omega, by simp, ?_⟩
  rw [← hc]
  generalize xs.drop (j + 1) = r
  simp [h2]
theorem InsAt.skip {t : Int} {xs acc : List Int} {j : Nat} (h : InsAt t xs j true acc) (hx : xs[j]? = some t) : InsAt t xs (j + 1) true acc := by
  obtain ⟨ha, hb, hc⟩ := h
  obtain ⟨hj, e⟩ := List.getElem?_eq_some_iff.1 hx
  rw [List.drop_eq_getElem_cons hj, e] at hc
  refine ⟨by omega, by simp, ?_⟩
  rw [← hc]
  simp

/-- The list behind k of the two times. -/
def stT (ns : List Nd) (f u : Int) : Nat → List Int
  | 0 => atsL ns
  | 1 => insT f (atsL ns)
  | _ => tmsL ns f u
theorem st_len (ns : List Nd) (f u : Int) (k : Nat) (hk : k ≤ 2) : (stT ns f u k).length ≤ ns.length + k := by
  match k, hk with
  | 0, _ => simp [stT, atsL]
  | 1, _ => have := ins_len f (atsL ns); rw [ats_len] at this; exact this
  | 2, _ => exact tms_len ns f u
theorem st_next (ns : List Nd) (f u : Int) (k : Nat) (hk : k < 2) (t : Int) (ht : [f, u][k]? = some t) : insT t (stT ns f u k) = stT ns f u (k + 1) := by
  match k, hk with
  | 0, _ => simp at ht; subst ht; rfl
  | 1, _ => simp at ht; subst ht; rfl
end Go.Proofs.YtmpjebkjopfejaaGreat
