/- The walk up from a switch: the program's iterator. -/
import Derived.Test.YtmpjebkjopfejaaGreatMgRc
import Derived.RangeFuncNested
import Derived.RangeFuncBound
import Derived.RangeFuncCalls
import Derived.RangeFuncLeaves
import Derived.Shelf.Abstract
import Derived.Shelf.RegionOpen
import Derived.WalkKit
import Derived.OwnWalkIn
import Derived.TacticsInMore
import Derived.LoopNIn
import Derived.LoopIn
namespace Go.Proofs.YtmpjebkjopfejaaGreat
open Go.ChangeShapes Go.WideShapes Go.ChangeAt Go.RowKit Go.Shelf
attribute [local go_sem] Oper.semAt_some

theorem up_zero (ps : List Int) (f : Nat) : upF ps f 0 = [0] := by cases f <;> rfl
theorem up_step {ps : List Int} (ht : treeB ps) (j p : Nat) (hj : 0 < j) (hl : j < ps.length) (hp : ps[j]? = some (p : Int)) : upF ps j j = (j : Int) :: upF ps p p := by
  have htr := ht j p hj hp
  obtain ⟨jj, rfl⟩ : ∃ jj, j = jj + 1 := ⟨j - 1, by omega⟩
  rw [upF, if_pos (by omega), hp, Option.getD_some, Int.toNat_natCast, up_enough ht jj p p (by omega) (by omega) (Nat.le_refl _)]
theorem up_head (ps : List Int) (f s : Nat) : ∃ r, upF ps f s = (s : Int) :: r := by
  cases f with
  | zero => exact ⟨[], rfl⟩
  | succ f =>
    unfold upF
    split
    · exact ⟨_, rfl⟩
    · exact ⟨[], rfl⟩

theorem up_mem {ps : List Int} (ht : treeB ps) : ∀ (m s : Nat), s ≤ m → s < ps.length → ∀ x ∈ upF ps s s, 0 ≤ x ∧ x ≤ s := by
  intro m
  induction m with
  | zero =>
    intro s hs _ x hx
    obtain rfl : s = 0 := by omega
    rw [up_zero] at hx
    simp at hx
    omega
  | succ m ih =>
    intro s hs hl x hx
    by_cases h0 : s = 0
    · subst h0
      rw [up_zero] at hx
      simp at hx
      omega
    · have hp := ht s ps[s] (by omega) (List.getElem?_eq_getElem hl)
      obtain ⟨p, hpp⟩ : ∃ p : Nat, ps[s] = p := ⟨ps[s].toNat, by omega⟩
      rw [up_step ht s p (by omega) hl (by rw [List.getElem?_eq_getElem hl, hpp])] at hx
      rcases List.mem_cons.1 hx with rfl | hx
      · omega
      · have := ih p (by omega) (by omega) x hx
        omega

/-- Numbers of switches as they are handed to a round. -/
def vals (u : List (Fin 24)) : List Int := u.map fun x => (x.val : Int)
theorem vals_snoc (u : List (Fin 24)) (x : Fin 24) : vals (u ++ [x]) = vals u ++ [(x.val : Int)] := by simp [vals]

theorem way_fin {ps : List Int} (ht : treeB ps) (hf : ps.length ≤ 24) (s : Nat) (hs : s < ps.length) : ∃ u : List (Fin 24), vals u = upF ps s s := by
  have h := up_mem ht s s (Nat.le_refl _) hs
  generalize upF ps s s = l at h
  induction l with
  | nil => exact ⟨[], rfl⟩
  | cons x r ih =>
    obtain ⟨u, hu⟩ := ih (fun y hy => h y (by simp [hy]))
    have hx := h x (by simp)
    exact ⟨⟨x.toNat, by omega⟩ :: u, by simp [vals] at hu ⊢; exact ⟨by omega, hu⟩⟩

/-- What the walk up reads. -/
structure WayMem (a : Option Addr) (c : Nat) (ps : List Int) (Bp : Nat) (W : World) : Prop where
  box : W.cell? ⟨Bp, 0, none⟩ = some (.slice a ps.length c)
  all : Sq W a (ints ps)

theorem wayMem_t {a : Option Addr} {c : Nat} {ps : List Int} {Bp : Nat} {A B C : World} (h : WayMem a c ps Bp A → WayMem a c ps Bp B) (k : WayMem a c ps Bp B → WayMem a c ps Bp C) : WayMem a c ps Bp A → WayMem a c ps Bp C := fun x => k (h x)

theorem wayMem_b {a : Option Addr} {c : Nat} {ps : List Int} {Bp : Nat} (W : World) (l : Nat) (o o' : Obj) (h : W.heap[l]? = some o) (ho : o.isCells = false) : WayMem a c ps Bp W → WayMem a c ps Bp (W.putObj l o') := fun m => by
  have hk : ∀ {p : Addr} {v : Value}, W.cell? p = some v → (W.putObj l o').cell? p = some v := fun hc => cell_kept hc (grownBy_putObj' W l o') (fun r e => by cases e; exact ⟨o, h, ho⟩)
  refine ⟨hk m.box, ⟨fun i x hx => ?_⟩⟩
  obtain ⟨p, hp, hlt, hc⟩ := m.all.cell i x hx
  have hc' := hk hc
  exact ⟨p, hp, by have := World.block_lt_of_cell? _ _ hc'; rwa [block_add] at this, hc'⟩
end Go.Proofs.YtmpjebkjopfejaaGreat
