/- Parts: the specification's. -/
import Derived.Test.YtgkbmppgconjgaaPartsP
import Derived.Deep.DeepCutAuto
import Derived.Lib.SmallJoins
namespace Go.Proofs.Ytgkbmppgconjgaa
open Go.ChangeShapes Go.WideShapes Go.ChangeAt Go.RowKit

theorem infoStr : (Try.prog.info? 9).map (fun i => (i.zero, i.size, i.bytes)) = some (some (.string ByteArray.empty), 1, 16) := by kernel_rfl

theorem extract_list (s : ByteArray) (f k : Nat) : s.extract f k = ⟨((s.data.toList.take k).drop f).toArray⟩ := by
  apply ByteArray.ext
  apply Array.ext'
  rw [Lib.extract_data]
  rw [List.drop_take]

/-- Out of what a slice of the call's own holds: where it lies. -/
theorem row_of_owns {w : World} {B n : Nat} {e : TypeId} {v : Value} {xs : List Value} (h : w.ownsRow B e 1 v n xs) (hn : 0 < n) : ∃ g cap, v = .slice (some ⟨g, 0, none⟩) n cap ∧ B ≤ g ∧ Row w g xs := by
  obtain ⟨hlen, h⟩ := h
  rcases h with ⟨_, h⟩ | ⟨g, cap, cur, rfl, hB, hg, hnc, _, hsz, hx⟩
  · omega
  · refine ⟨g, cap, rfl, hB, fun i u hu => ?_, fun i => ?_, ?_⟩
    · rw [← hx] at hu
      have hi : cur.toList[i]? = some u := by
        rw [List.getElem?_take] at hu
        split at hu
        · exact hu
        · cases hu
      simp only [World.cell?, hg]
      simpa using hi
    · simp [World.frozen?, hg]
    · rcases Nat.lt_or_ge g w.heap.size with h' | h'
      · exact h'
      · rw [Array.getElem?_eq_none h'] at hg; cases hg

/-- Where the loop over the bytes stands. -/
def ptInv (b : UInt8) (l : List UInt8) (k f : Nat) (acc : List (List UInt8)) : Prop := f ≤ k ∧ acc.length ≤ k ∧ pcs b (l.take k) = acc ++ [(l.take k).drop f]

theorem pt_start (b : UInt8) (l : List UInt8) : ptInv b l 0 0 [] := ⟨Nat.le_refl _, Nat.le_refl _, by simp [pcs]⟩

theorem pt_hit {b : UInt8} {l : List UInt8} {k f : Nat} {acc : List (List UInt8)} (h : ptInv b l k f acc) (hk : l[k]? = some b) : ptInv b l (k + 1) (k + 1) (acc ++ [(l.take k).drop f]) := by
  obtain ⟨h1, h2, h3⟩ := h
  have hlt : k < l.length := (List.getElem?_eq_some_iff.1 hk).1
  refine ⟨Nat.le_refl _, by simp; omega, ?_⟩
  rw [List.take_add_one, hk, Option.toList_some, pcs_hit, h3]
  have : (l.take k ++ [b]).drop (k + 1) = [] := by rw [List.drop_eq_nil_iff]; simp; omega
  rw [this]

theorem pt_miss {b c : UInt8} {l : List UInt8} {k f : Nat} {acc : List (List UInt8)} (h : ptInv b l k f acc) (hk : l[k]? = some c) (hc : c ≠ b) : ptInv b l (k + 1) f acc := by
  obtain ⟨h1, h2, h3⟩ := h
  have hlt : k < l.length := (List.getElem?_eq_some_iff.1 hk).1
  refine ⟨by omega, by omega, ?_⟩
  rw [List.take_add_one, hk, Option.toList_some, pcs_miss b c hc _ _ _ h3, List.drop_append_of_le_length (by simp; omega)]

theorem pt_end {b : UInt8} {l : List UInt8} {f : Nat} {acc : List (List UInt8)} (h : ptInv b l l.length f acc) : pcs b l = acc ++ [l.drop f] := by
  have := h.2.2
  rwa [List.take_of_length_le (Nat.le_refl _)] at this

end Go.Proofs.Ytgkbmppgconjgaa
