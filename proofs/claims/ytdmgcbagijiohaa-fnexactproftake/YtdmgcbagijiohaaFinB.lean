/- An answer that is a profile, and the box that it is laid into. -/
import Derived.Test.YtdmgcbagijiohaaPtB
import Derived.Test.YtdmgcbagijiohaaBehA
namespace Go.Proofs.Ytdmgcbagijiohaa
open Go.ChangeShapes Go.WideShapes Go.ChangeAt Go.RowKit

/-- Since U the answer and its box Z have been made, apart from each other. -/
def Boxd (U W : World) (Z : Nat) (a : Option Addr) (c : Nat) (r : List Nd) : Prop :=
  Row W Z [.slice a r.length c] ∧ AnsP U.heap.size W.heap.size W r.length (flat r) (.slice a r.length c) ∧ Below U.heap.size U W ∧ U.heap.size ≤ Z ∧ ∃ G, AnsP G (G + 1) W r.length (flat r) (.slice a r.length c) ∧ U.heap.size ≤ G ∧ Z ≠ G

theorem AnsP.one {B T : Nat} {w : World} {n Z : Nat} {xs : List Value} {v : Value} (h : AnsP B T w n xs v) (hne : Z < B ∨ T ≤ Z) : ∃ G, AnsP G (G + 1) w n xs v ∧ (B ≤ G ∨ G = Z + 1) ∧ Z ≠ G := by
  obtain ⟨hx, a, cap, hv, h⟩ := h
  rcases h with rfl | ⟨g, rfl, hg, hT, hr⟩
  · exact ⟨Z + 1, ⟨hx, a, cap, hv, .inl rfl⟩, .inr rfl, by omega⟩
  · exact ⟨g, ⟨hx, _, cap, hv, .inr ⟨g, rfl, Nat.le_refl _, Nat.lt_succ_self _, hr⟩⟩, .inl hg, by omega⟩

theorem fin_box {U W W2 : World} {X : Nat} {z : Value} {r : List Nd} {a : Option Addr} {c : Nat} (hX : Row W X [z]) (hans : AnsP W.heap.size W2.heap.size W2 r.length (flat r) (.slice a r.length c)) (hb : Below W.heap.size W W2) (hV : Below U.heap.size U W2) (hUX : U.heap.size ≤ X) :
    Boxd U (W2.setCell ⟨X, 0, none⟩ (.slice a r.length c)) X a c r := by
  have hl := hX.lt
  have h2 := hans.keep (w' := W2.setCell ⟨X, 0, none⟩ (.slice a r.length c)) (fun g h1 _ hr => hr.apart X 0 _ (by omega))
  obtain ⟨G, hG, hBG, hZG⟩ := h2.one (Z := X) (.inl hl)
  exact ⟨(hX.below hb).set 0 (by simp) _, h2.wide (by omega) (by rw [World.size_setCell]; exact Nat.le_refl _), hV.setCell (p := ⟨X, 0, none⟩) hUX _, hUX, G, hG, by omega, hZG⟩

theorem fin_new {U W2 : World} {B : Nat} {r : List Nd} {a : Option Addr} {c : Nat} {t : TypeId} (hans : AnsP B W2.heap.size W2 r.length (flat r) (.slice a r.length c)) (hB : U.heap.size ≤ B) (hV : Below U.heap.size U W2) :
    Boxd U (W2.alloc (.cells #[.slice a r.length c] t)) W2.heap.size a c r := by
  have h2 := hans.below (low_alloc W2 (.cells #[.slice a r.length c] t))
  have hs := hV.size
  obtain ⟨G, hG, hBG, hZG⟩ := h2.one (Z := W2.heap.size) (.inr (Nat.le_refl _))
  exact ⟨row_fresh W2 [.slice a r.length c] t, h2.wide hB (by simp [go_sem]), behind_alloc hV _, hs, G, hG, by omega, hZG⟩
end Go.Proofs.Ytdmgcbagijiohaa
