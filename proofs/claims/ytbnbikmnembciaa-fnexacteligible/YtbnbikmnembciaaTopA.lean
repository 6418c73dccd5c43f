/- Nodes and topologies: the laws' own copies and looks. -/
import Derived.Test.YtbnbikmnembciaaIntB
import Derived.Test.YtbnbikmnembciaaVecA
namespace Go.Proofs.Ytbnbikmnembciaa
open Go.ChangeShapes Go.WideShapes Go.ChangeAt Go.RowKit

theorem low_refl (w : World) : Below w.heap.size w w := Below.refl _ _
theorem low_alloc (w : World) (o : Obj) : Below w.heap.size w (w.alloc o) := (Below.refl _ _).alloc (Nat.le_refl _) _

/-- A node: its leaf and its three amounts. -/
structure Nd where
  l : Int
  a : Int
  b : Int
  c : Int
deriving DecidableEq

def Nd.val (n : Nd) : Value := .agg #[.int .i64 n.l, .int .i64 n.a, .int .i64 n.b, .int .i64 n.c]

set_option maxHeartbeats 1000000 in
theorem toNode_c (l a b c : Int) (w : World) :
    Calls Try.prog 63 #[.agg #[.int .i64 l, .int .i64 a, .int .i64 b, .int .i64 c]] w fun e w' => e = .returned (.agg #[.int .i64 l, .int .i64 a, .int .i64 b, .int .i64 c]) ∧ Below w.heap.size w w' := by
  go_enter Try.func63, Try.ntmps63
  go_wp2_with fail
  generalize hV : (((w.alloc (.cells #[.int .i64 l, .int .i64 a, .int .i64 b, .int .i64 c] 102)).alloc (.cells #[.int .i64 0, .int .i64 0, .int .i64 0, .int .i64 0] 97)).alloc (.cells #[.int .i64 l, .int .i64 0, .int .i64 0, .int .i64 0] 97)) = V
  have HR : Hid (Row V (w.heap.size + 1) [.int .i64 0, .int .i64 0, .int .i64 0, .int .i64 0]) := by
    subst hV
    have h := row_fresh (w.alloc (.cells #[.int .i64 l, .int .i64 a, .int .i64 b, .int .i64 c] 102)) [.int .i64 0, .int .i64 0, .int .i64 0, .int .i64 0] 97
    rw [show (w.alloc (.cells #[.int .i64 l, .int .i64 a, .int .i64 b, .int .i64 c] 102)).heap.size = w.heap.size + 1 by simp [go_sem]] at h
    exact h.below (low_alloc _ _)
  have HO : Hid (Row V (w.heap.size + 1 + 1) [.int .i64 l, .int .i64 0, .int .i64 0, .int .i64 0]) := by
    subst hV
    have h := row_fresh ((w.alloc (.cells #[.int .i64 l, .int .i64 a, .int .i64 b, .int .i64 c] 102)).alloc (.cells #[.int .i64 0, .int .i64 0, .int .i64 0, .int .i64 0] 97)) [.int .i64 l, .int .i64 0, .int .i64 0, .int .i64 0] 97
    rw [show ((w.alloc (.cells #[.int .i64 l, .int .i64 a, .int .i64 b, .int .i64 c] 102)).alloc (.cells #[.int .i64 0, .int .i64 0, .int .i64 0, .int .i64 0] 97)).heap.size = w.heap.size + 1 + 1 by simp [go_sem]] at h
    exact h
  have HB : Hid (Below w.heap.size w V) := by subst hV; show Below _ _ _; go_grown
  clear hV
  refine (toVec_c a b c _).mono ?_
  rintro e w1 ⟨rfl, hb⟩
  have HR1 : Hid (Row w1 (w.heap.size + 1) [.int .i64 0, .int .i64 0, .int .i64 0, .int .i64 0]) := HR.out.below hb
  have HO1 : Hid (Row w1 (w.heap.size + 1 + 1) [.int .i64 l, .int .i64 0, .int .i64 0, .int .i64 0]) := HO.out.below hb
  have B8 : Below w.heap.size w w1 := below_then HB.out hb
  clear hb HR HO HB
  have r0 := HR1.out.cell 0 _ rfl
  have o0 := HO1.out.cell 0 _ rfl
  have fr0 := HR1.out.free 0
  have fo0 := HO1.out.free 0
  have r1 := HR1.out.cell 1 _ rfl
  have o1 := HO1.out.cell 1 _ rfl
  have fr1 := HR1.out.free 1
  have fo1 := HO1.out.free 1
  have r2 := HR1.out.cell 2 _ rfl
  have o2 := HO1.out.cell 2 _ rfl
  have fr2 := HR1.out.free 2
  have fo2 := HO1.out.free 2
  have r3 := HR1.out.cell 3 _ rfl
  have o3 := HO1.out.cell 3 _ rfl
  have fr3 := HR1.out.free 3
  have fo3 := HO1.out.free 3
  go_wp2_with fail
  exact bodyPost_ret (v := .agg #[.int .i64 l, .int .i64 a, .int .i64 b, .int .i64 c]) (by simp [results, Try.results63, go_sem, *]) rfl ⟨rfl, by go_grown⟩
end Go.Proofs.Ytbnbikmnembciaa
