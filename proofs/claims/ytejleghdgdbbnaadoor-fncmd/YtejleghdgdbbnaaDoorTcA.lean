/- The kind that a word names: the program's. -/
import Derived.Test.YtejleghdgdbbnaaDoorCmX
namespace Go.Proofs.YtejleghdgdbbnaaDoor
open Go.ChangeShapes Go.WideShapes Go.ChangeAt Go.RowKit

/-- The kind that a word names; 0 for any other. -/
def kdN (p : List UInt8) : Nat := if p = [115, 117, 98, 109, 105, 116] then 1 else if p = [99, 97, 110, 99, 101, 108] then 2 else if p = [100, 111, 110, 101] then 3 else if p = [102, 97, 105, 108] then 4 else if p = [114, 101, 115, 117, 109, 101] then 5 else if p = [108, 105, 99] then 6 else if p = [103, 111] then 7 else 0

set_option maxHeartbeats 2000000 in
set_option maxRecDepth 100000 in
theorem kindOf_c (p : List UInt8) (w : World) (hk : KwT w) : Calls Tryd.prog 64 #[.string ⟨p.toArray⟩] w fun e w' => e = .returned (.int .i64 (kdN p)) ∧ Below w.heap.size w w' := by
  have c0 := hk.cell 0 _ rfl
  have c1 := hk.cell 1 _ rfl
  have c2 := hk.cell 2 _ rfl
  have c3 := hk.cell 3 _ rfl
  have c4 := hk.cell 4 _ rfl
  have c5 := hk.cell 5 _ rfl
  have c6 := hk.cell 6 _ rfl
  have c7 := hk.cell 7 _ rfl
  clear hk
  have x0 : ∀ w : World, (Instr.index 100 (.agg #[.string ⟨#[]⟩, .string ⟨#[115, 117, 98, 109, 105, 116]⟩, .string ⟨#[99, 97, 110, 99, 101, 108]⟩, .string ⟨#[100, 111, 110, 101]⟩, .string ⟨#[102, 97, 105, 108]⟩, .string ⟨#[114, 101, 115, 117, 109, 101]⟩, .string ⟨#[108, 105, 99]⟩, .string ⟨#[103, 111]⟩]) (.int .i64 0)).run Tryd.prog w = .ok (.string ⟨#[]⟩) w := fun _ => by kernel_rfl
  have x1 : ∀ w : World, (Instr.index 100 (.agg #[.string ⟨#[]⟩, .string ⟨#[115, 117, 98, 109, 105, 116]⟩, .string ⟨#[99, 97, 110, 99, 101, 108]⟩, .string ⟨#[100, 111, 110, 101]⟩, .string ⟨#[102, 97, 105, 108]⟩, .string ⟨#[114, 101, 115, 117, 109, 101]⟩, .string ⟨#[108, 105, 99]⟩, .string ⟨#[103, 111]⟩]) (.int .i64 1)).run Tryd.prog w = .ok (.string ⟨#[115, 117, 98, 109, 105, 116]⟩) w := fun _ => by kernel_rfl
  have x2 : ∀ w : World, (Instr.index 100 (.agg #[.string ⟨#[]⟩, .string ⟨#[115, 117, 98, 109, 105, 116]⟩, .string ⟨#[99, 97, 110, 99, 101, 108]⟩, .string ⟨#[100, 111, 110, 101]⟩, .string ⟨#[102, 97, 105, 108]⟩, .string ⟨#[114, 101, 115, 117, 109, 101]⟩, .string ⟨#[108, 105, 99]⟩, .string ⟨#[103, 111]⟩]) (.int .i64 2)).run Tryd.prog w = .ok (.string ⟨#[99, 97, 110, 99, 101, 108]⟩) w := fun _ => by kernel_rfl
  have x3 : ∀ w : World, (Instr.index 100 (.agg #[.string ⟨#[]⟩, .string ⟨#[115, 117, 98, 109, 105, 116]⟩, .string ⟨#[99, 97, 110, 99, 101, 108]⟩, .string ⟨#[100, 111, 110, 101]⟩, .string ⟨#[102, 97, 105, 108]⟩, .string ⟨#[114, 101, 115, 117, 109, 101]⟩, .string ⟨#[108, 105, 99]⟩, .string ⟨#[103, 111]⟩]) (.int .i64 3)).run Tryd.prog w = .ok (.string ⟨#[100, 111, 110, 101]⟩) w := fun _ => by kernel_rfl
  have x4 : ∀ w : World, (Instr.index 100 (.agg #[.string ⟨#[]⟩, .string ⟨#[115, 117, 98, 109, 105, 116]⟩, .string ⟨#[99, 97, 110, 99, 101, 108]⟩, .string ⟨#[100, 111, 110, 101]⟩, .string ⟨#[102, 97, 105, 108]⟩, .string ⟨#[114, 101, 115, 117, 109, 101]⟩, .string ⟨#[108, 105, 99]⟩, .string ⟨#[103, 111]⟩]) (.int .i64 4)).run Tryd.prog w = .ok (.string ⟨#[102, 97, 105, 108]⟩) w := fun _ => by kernel_rfl
  have x5 : ∀ w : World, (Instr.index 100 (.agg #[.string ⟨#[]⟩, .string ⟨#[115, 117, 98, 109, 105, 116]⟩, .string ⟨#[99, 97, 110, 99, 101, 108]⟩, .string ⟨#[100, 111, 110, 101]⟩, .string ⟨#[102, 97, 105, 108]⟩, .string ⟨#[114, 101, 115, 117, 109, 101]⟩, .string ⟨#[108, 105, 99]⟩, .string ⟨#[103, 111]⟩]) (.int .i64 5)).run Tryd.prog w = .ok (.string ⟨#[114, 101, 115, 117, 109, 101]⟩) w := fun _ => by kernel_rfl
  have x6 : ∀ w : World, (Instr.index 100 (.agg #[.string ⟨#[]⟩, .string ⟨#[115, 117, 98, 109, 105, 116]⟩, .string ⟨#[99, 97, 110, 99, 101, 108]⟩, .string ⟨#[100, 111, 110, 101]⟩, .string ⟨#[102, 97, 105, 108]⟩, .string ⟨#[114, 101, 115, 117, 109, 101]⟩, .string ⟨#[108, 105, 99]⟩, .string ⟨#[103, 111]⟩]) (.int .i64 6)).run Tryd.prog w = .ok (.string ⟨#[108, 105, 99]⟩) w := fun _ => by kernel_rfl
  have x7 : ∀ w : World, (Instr.index 100 (.agg #[.string ⟨#[]⟩, .string ⟨#[115, 117, 98, 109, 105, 116]⟩, .string ⟨#[99, 97, 110, 99, 101, 108]⟩, .string ⟨#[100, 111, 110, 101]⟩, .string ⟨#[102, 97, 105, 108]⟩, .string ⟨#[114, 101, 115, 117, 109, 101]⟩, .string ⟨#[108, 105, 99]⟩, .string ⟨#[103, 111]⟩]) (.int .i64 7)).run Tryd.prog w = .ok (.string ⟨#[103, 111]⟩) w := fun _ => by kernel_rfl
  obtain ⟨y, hy, hyl⟩ : ∃ y : ByteArray, (⟨p.toArray⟩ : ByteArray) = y ∧ y.toList = p := ⟨_, rfl, by rw [ByteArray.toList_eq]⟩
  rw [hy]
  clear hy
  by_cases p0 : p = []
  · have HK : Hid (kdN p = 0) := by show _ = _; rw [p0]; rfl
    have e0 : y.toList.isEmpty = true := by rw [hyl, p0]; rfl
    clear p0
    clear hyl
    go_enter Tryd.func64, Tryd.ntmps64
    go_wp2_with fail
    clear c0 c1 c2 c3 c4 c5 c6 c7
    refine wp_loop_rounds 9 ?_
    rw [rounds_succ]
    go_wp2_with fail
    go_ret
    exact ⟨by rw [HK.out]; rfl, Below.refl _ _⟩
  have e0 : y.toList.isEmpty = false := by rw [hyl]; cases p with | nil => exact absurd rfl p0 | cons _ _ => rfl
  by_cases p1 : p = [115, 117, 98, 109, 105, 116]
  · have HK : Hid (kdN p = 1) := by show _ = _; rw [p1]; rfl
    have e1 : (([115, 117, 98, 109, 105, 116] : List UInt8) == y.toList) = true := by rw [hyl, p1]; rfl
    clear p1
    clear hyl
    go_enter Tryd.func64, Tryd.ntmps64
    go_wp2_with fail
    clear c0 c1 c2 c3 c4 c5 c6 c7
    refine wp_loop_rounds 9 ?_
    rw [rounds_succ]
    go_wp2_with fail
    rw [rounds_succ]
    go_wp2_with fail
    go_ret
    exact ⟨by rw [HK.out]; rfl, Below.refl _ _⟩
  have e1 : (([115, 117, 98, 109, 105, 116] : List UInt8) == y.toList) = false := by rw [hyl, beq_eq_false_iff_ne]; exact fun e => p1 e.symm
  by_cases p2 : p = [99, 97, 110, 99, 101, 108]
  · have HK : Hid (kdN p = 2) := by show _ = _; rw [p2]; rfl
    have e2 : (([99, 97, 110, 99, 101, 108] : List UInt8) == y.toList) = true := by rw [hyl, p2]; rfl
    clear p2
    clear hyl
    go_enter Tryd.func64, Tryd.ntmps64
    go_wp2_with fail
    clear c0 c1 c2 c3 c4 c5 c6 c7
    refine wp_loop_rounds 9 ?_
    rw [rounds_succ]
    go_wp2_with fail
    rw [rounds_succ]
    go_wp2_with fail
    rw [rounds_succ]
    go_wp2_with fail
    go_ret
    exact ⟨by rw [HK.out]; rfl, Below.refl _ _⟩
  have e2 : (([99, 97, 110, 99, 101, 108] : List UInt8) == y.toList) = false := by rw [hyl, beq_eq_false_iff_ne]; exact fun e => p2 e.symm
  by_cases p3 : p = [100, 111, 110, 101]
  · have HK : Hid (kdN p = 3) := by show _ = _; rw [p3]; rfl
    have e3 : (([100, 111, 110, 101] : List UInt8) == y.toList) = true := by rw [hyl, p3]; rfl
    clear p3
    clear hyl
    go_enter Tryd.func64, Tryd.ntmps64
    go_wp2_with fail
    clear c0 c1 c2 c3 c4 c5 c6 c7
    refine wp_loop_rounds 9 ?_
    rw [rounds_succ]
    go_wp2_with fail
    rw [rounds_succ]
    go_wp2_with fail
    rw [rounds_succ]
    go_wp2_with fail
    rw [rounds_succ]
    go_wp2_with fail
    go_ret
    exact ⟨by rw [HK.out]; rfl, Below.refl _ _⟩
  have e3 : (([100, 111, 110, 101] : List UInt8) == y.toList) = false := by rw [hyl, beq_eq_false_iff_ne]; exact fun e => p3 e.symm
  by_cases p4 : p = [102, 97, 105, 108]
  · have HK : Hid (kdN p = 4) := by show _ = _; rw [p4]; rfl
    have e4 : (([102, 97, 105, 108] : List UInt8) == y.toList) = true := by rw [hyl, p4]; rfl
    clear p4
    clear hyl
    go_enter Tryd.func64, Tryd.ntmps64
    go_wp2_with fail
    clear c0 c1 c2 c3 c4 c5 c6 c7
    refine wp_loop_rounds 9 ?_
    rw [rounds_succ]
    go_wp2_with fail
    rw [rounds_succ]
    go_wp2_with fail
    rw [rounds_succ]
    go_wp2_with fail
    rw [rounds_succ]
    go_wp2_with fail
    rw [rounds_succ]
    go_wp2_with fail
    go_ret
    exact ⟨by rw [HK.out]; rfl, Below.refl _ _⟩
  have e4 : (([102, 97, 105, 108] : List UInt8) == y.toList) = false := by rw [hyl, beq_eq_false_iff_ne]; exact fun e => p4 e.symm
  by_cases p5 : p = [114, 101, 115, 117, 109, 101]
  · have HK : Hid (kdN p = 5) := by show _ = _; rw [p5]; rfl
    have e5 : (([114, 101, 115, 117, 109, 101] : List UInt8) == y.toList) = true := by rw [hyl, p5]; rfl
    clear p5
    clear hyl
    go_enter Tryd.func64, Tryd.ntmps64
    go_wp2_with fail
    clear c0 c1 c2 c3 c4 c5 c6 c7
    refine wp_loop_rounds 9 ?_
    rw [rounds_succ]
    go_wp2_with fail
    rw [rounds_succ]
    go_wp2_with fail
    rw [rounds_succ]
    go_wp2_with fail
    rw [rounds_succ]
    go_wp2_with fail
    rw [rounds_succ]
    go_wp2_with fail
    rw [rounds_succ]
    go_wp2_with fail
    go_ret
    exact ⟨by rw [HK.out]; rfl, Below.refl _ _⟩
  have e5 : (([114, 101, 115, 117, 109, 101] : List UInt8) == y.toList) = false := by rw [hyl, beq_eq_false_iff_ne]; exact fun e => p5 e.symm
  by_cases p6 : p = [108, 105, 99]
  · have HK : Hid (kdN p = 6) := by show _ = _; rw [p6]; rfl
    have e6 : (([108, 105, 99] : List UInt8) == y.toList) = true := by rw [hyl, p6]; rfl
    clear p6
    clear hyl
    go_enter Tryd.func64, Tryd.ntmps64
    go_wp2_with fail
    clear c0 c1 c2 c3 c4 c5 c6 c7
    refine wp_loop_rounds 9 ?_
    rw [rounds_succ]
    go_wp2_with fail
    rw [rounds_succ]
    go_wp2_with fail
    rw [rounds_succ]
    go_wp2_with fail
    rw [rounds_succ]
    go_wp2_with fail
    rw [rounds_succ]
    go_wp2_with fail
    rw [rounds_succ]
    go_wp2_with fail
    rw [rounds_succ]
    go_wp2_with fail
    go_ret
    exact ⟨by rw [HK.out]; rfl, Below.refl _ _⟩
  have e6 : (([108, 105, 99] : List UInt8) == y.toList) = false := by rw [hyl, beq_eq_false_iff_ne]; exact fun e => p6 e.symm
  by_cases p7 : p = [103, 111]
  · have HK : Hid (kdN p = 7) := by show _ = _; rw [p7]; rfl
    have e7 : (([103, 111] : List UInt8) == y.toList) = true := by rw [hyl, p7]; rfl
    clear p7
    clear hyl
    go_enter Tryd.func64, Tryd.ntmps64
    go_wp2_with fail
    clear c0 c1 c2 c3 c4 c5 c6 c7
    refine wp_loop_rounds 9 ?_
    rw [rounds_succ]
    go_wp2_with fail
    rw [rounds_succ]
    go_wp2_with fail
    rw [rounds_succ]
    go_wp2_with fail
    rw [rounds_succ]
    go_wp2_with fail
    rw [rounds_succ]
    go_wp2_with fail
    rw [rounds_succ]
    go_wp2_with fail
    rw [rounds_succ]
    go_wp2_with fail
    rw [rounds_succ]
    go_wp2_with fail
    go_ret
    exact ⟨by rw [HK.out]; rfl, Below.refl _ _⟩
  have e7 : (([103, 111] : List UInt8) == y.toList) = false := by rw [hyl, beq_eq_false_iff_ne]; exact fun e => p7 e.symm
  have HK : Hid (kdN p = 0) := by show _ = _; unfold kdN; rw [if_neg p1, if_neg p2, if_neg p3, if_neg p4, if_neg p5, if_neg p6, if_neg p7]
  clear p0 p1 p2 p3 p4 p5 p6 p7
  clear hyl
  go_enter Tryd.func64, Tryd.ntmps64
  go_wp2_with fail
  clear c0 c1 c2 c3 c4 c5 c6 c7
  refine wp_loop_rounds 9 ?_
  rw [rounds_succ]
  go_wp2_with fail
  rw [rounds_succ]
  go_wp2_with fail
  rw [rounds_succ]
  go_wp2_with fail
  rw [rounds_succ]
  go_wp2_with fail
  rw [rounds_succ]
  go_wp2_with fail
  rw [rounds_succ]
  go_wp2_with fail
  rw [rounds_succ]
  go_wp2_with fail
  rw [rounds_succ]
  go_wp2_with fail
  rw [rounds_succ]
  go_wp2_with fail
  go_ret
  exact ⟨by rw [HK.out]; rfl, Below.refl _ _⟩
end Go.Proofs.YtejleghdgdbbnaaDoor
