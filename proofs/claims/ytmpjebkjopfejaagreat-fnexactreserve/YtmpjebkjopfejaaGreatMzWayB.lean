/- What a walk up gives, collected; 'Above' by the program and by the specification. -/
import Derived.Test.YtmpjebkjopfejaaGreatMzWayA
import Derived.Test.YtmpjebkjopfejaaGreatMgRe
import Derived.RangeFuncBox
import Derived.Maps.AppendAt
namespace Go.Proofs.YtmpjebkjopfejaaGreat
open Go.ChangeShapes Go.WideShapes Go.ChangeAt Go.RowKit Go.Shelf
attribute [local go_sem] Oper.semAt_some

theorem wayMem_keep {a : Option Addr} {c : Nat} {ps : List Int} {Bp n₀ : Nat} {w W W' : World} (hM : WayMem a c ps Bp w) (hn : w.heap.size ≤ n₀) (hb : Below n₀ W W') : WayMem a c ps Bp W → WayMem a c ps Bp W' := fun m => by
  have h1 := World.block_lt_of_cell? _ _ hM.box
  refine ⟨(hb.cell (p := ⟨Bp, 0, none⟩) (Nat.lt_of_lt_of_le h1 hn)).trans m.box, ⟨fun i x hx => ?_⟩⟩
  obtain ⟨p, hp, hlt, hc⟩ := m.all.cell i x hx
  obtain ⟨p', hp', hlt', _⟩ := hM.all.cell i x hx
  rw [hp] at hp'
  cases hp'
  exact ⟨p, hp, Nat.lt_of_lt_of_le hlt hb.size, (hb.cell (p := p.add i) (by rw [block_add]; omega)).trans hc⟩

end Go.Proofs.YtmpjebkjopfejaaGreat
