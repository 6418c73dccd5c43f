/- A job read of words: the program's. -/
import Derived.Test.YtejleghdgdbbnaaGreatDoorMgUc
import Derived.Test.YtejleghdgdbbnaaGreatDoorTvB
import Derived.Test.YtejleghdgdbbnaaGreatDoorCmD
namespace Go.Proofs.YtejleghdgdbbnaaGreatDoor
open Go.ChangeShapes Go.WideShapes Go.ChangeAt Go.RowKit

/-- The kind that a word names; 0 for any other. -/
def kdN (p : List UInt8) : Nat := if p = [115, 117, 98, 109, 105, 116] then 1 else if p = [99, 97, 110, 99, 101, 108] then 2 else if p = [100, 111, 110, 101] then 3 else if p = [102, 97, 105, 108] then 4 else if p = [114, 101, 115, 117, 109, 101] then 5 else if p = [108, 105, 99] then 6 else if p = [103, 111] then 7 else 0

set_option maxHeartbeats 2000000 in
set_option maxRecDepth 100000 in
theorem kindOf_c (p : List UInt8) (w : World) (hk : KwT w) : Calls Tryz.prog 72 #[.string ⟨p.toArray⟩] w fun e w' => e = .returned (.int .i64 (kdN p)) ∧ Below w.heap.size w w' := by
  have c0 := hk.cell 0 _ rfl
  have c1 := hk.cell 1 _ rfl
  have c2 := hk.cell 2 _ rfl
  have c3 := hk.cell 3 _ rfl
  have c4 := hk.cell 4 _ rfl
  have c5 := hk.cell 5 _ rfl
  have c6 := hk.cell 6 _ rfl
  have c7 := hk.cell 7 _ rfl
  clear hk
  have x0 : ∀ w : World, (Instr.index 85 (.agg #[.string ⟨#[]⟩, .string ⟨#[115, 117, 98, 109, 105, 116]⟩, .string ⟨#[99, 97, 110, 99, 101, 108]⟩, .string ⟨#[100, 111, 110, 101]⟩, .string ⟨#[102, 97, 105, 108]⟩, .string ⟨#[114, 101, 115, 117, 109, 101]⟩, .string ⟨#[108, 105, 99]⟩, .string ⟨#[103, 111]⟩]) (.int .i64 0)).run Tryz.prog w = .ok (.string ⟨#[]⟩) w := fun _ => by kernel_rfl
  have x1 : ∀ w : World, (Instr.index 85 (.agg #[.string ⟨#[]⟩, .string ⟨#[115, 117, 98, 109, 105, 116]⟩, .string ⟨#[99, 97, 110, 99, 101, 108]⟩, .string ⟨#[100, 111, 110, 101]⟩, .string ⟨#[102, 97, 105, 108]⟩, .string ⟨#[114, 101, 115, 117, 109, 101]⟩, .string ⟨#[108, 105, 99]⟩, .string ⟨#[103, 111]⟩]) (.int .i64 1)).run Tryz.prog w = .ok (.string ⟨#[115, 117, 98, 109, 105, 116]⟩) w := fun _ => by kernel_rfl
  have x2 : ∀ w : World, (Instr.index 85 (.agg #[.string ⟨#[]⟩, .string ⟨#[115, 117, 98, 109, 105, 116]⟩, .string ⟨#[99, 97, 110, 99, 101, 108]⟩, .string ⟨#[100, 111, 110, 101]⟩, .string ⟨#[102, 97, 105, 108]⟩, .string ⟨#[114, 101, 115, 117, 109, 101]⟩, .string ⟨#[108, 105, 99]⟩, .string ⟨#[103, 111]⟩]) (.int .i64 2)).run Tryz.prog w = .ok (.string ⟨#[99, 97, 110, 99, 101, 108]⟩) w := fun _ => by kernel_rfl
  have x3 : ∀ w : World, (Instr.index 85 (.agg #[.string ⟨#[]⟩, .string ⟨#[115, 117, 98, 109, 105, 116]⟩, .string ⟨#[99, 97, 110, 99, 101, 108]⟩, .string ⟨#[100, 111, 110, 101]⟩, .string ⟨#[102, 97, 105, 108]⟩, .string ⟨#[114, 101, 115, 117, 109, 101]⟩, .string ⟨#[108, 105, 99]⟩, .string ⟨#[103, 111]⟩]) (.int .i64 3)).run Tryz.prog w = .ok (.string ⟨#[100, 111, 110, 101]⟩) w := fun _ => by kernel_rfl
  have x4 : ∀ w : World, (Instr.index 85 (.agg #[.string ⟨#[]⟩, .string ⟨#[115, 117, 98, 109, 105, 116]⟩, .string ⟨#[99, 97, 110, 99, 101, 108]⟩, .string ⟨#[100, 111, 110, 101]⟩, .string ⟨#[102, 97, 105, 108]⟩, .string ⟨#[114, 101, 115, 117, 109, 101]⟩, .string ⟨#[108, 105, 99]⟩, .string ⟨#[103, 111]⟩]) (.int .i64 4)).run Tryz.prog w = .ok (.string ⟨#[102, 97, 105, 108]⟩) w := fun _ => by kernel_rfl
  have x5 : ∀ w : World, (Instr.index 85 (.agg #[.string ⟨#[]⟩, .string ⟨#[115, 117, 98, 109, 105, 116]⟩, .string ⟨#[99, 97, 110, 99, 101, 108]⟩, .string ⟨#[100, 111, 110, 101]⟩, .string ⟨#[102, 97, 105, 108]⟩, .string ⟨#[114, 101, 115, 117, 109, 101]⟩, .string ⟨#[108, 105, 99]⟩, .string ⟨#[103, 111]⟩]) (.int .i64 5)).run Tryz.prog w = .ok (.string ⟨#[114, 101, 115, 117, 109, 101]⟩) w := fun _ => by kernel_rfl
  have x6 : ∀ w : World, (Instr.index 85 (.agg #[.string ⟨#[]⟩, .string ⟨#[115, 117, 98, 109, 105, 116]⟩, .string ⟨#[99, 97, 110, 99, 101, 108]⟩, .string ⟨#[100, 111, 110, 101]⟩, .string ⟨#[102, 97, 105, 108]⟩, .string ⟨#[114, 101, 115, 117, 109, 101]⟩, .string ⟨#[108, 105, 99]⟩, .string ⟨#[103, 111]⟩]) (.int .i64 6)).run Tryz.prog w = .ok (.string ⟨#[108, 105, 99]⟩) w := fun _ => by kernel_rfl
  have x7 : ∀ w : World, (Instr.index 85 (.agg #[.string ⟨#[]⟩, .string ⟨#[115, 117, 98, 109, 105, 116]⟩, .string ⟨#[99, 97, 110, 99, 101, 108]⟩, .string ⟨#[100, 111, 110, 101]⟩, .string ⟨#[102, 97, 105, 108]⟩, .string ⟨#[114, 101, 115, 117, 109, 101]⟩, .string ⟨#[108, 105, 99]⟩, .string ⟨#[103, 111]⟩]) (.int .i64 7)).run Tryz.prog w = .ok (.string ⟨#[103, 111]⟩) w := fun _ => by kernel_rfl
  obtain ⟨y, hy, hyl⟩ : ∃ y : ByteArray, (⟨p.toArray⟩ : ByteArray) = y ∧ y.toList = p := ⟨_, rfl, by rw [ByteArray.toList_eq]⟩
  rw [hy]
  clear hy
  by_cases p0 : p = []
  · have HK : Hid (kdN p = 0) := by show _ = _; rw [p0]; rfl
    have e0 : y.toList.isEmpty = true := by rw [hyl, p0]; rfl
    clear p0
    clear hyl
    go_enter Tryz.func72, Tryz.ntmps72
    go_wp2_with fail
    clear c0 c1 c2 c3 c4 c5 c6 c7
    refine wp_loop_rounds 9 ?_
    rw [rounds_succ]
    go_wp2_with fail
    go_ret
    exact ⟨by rw [HK.out]; rfl, Below.refl _ _⟩
  have e0 : y.toList.isEmpty = false := by rw [hyl]; cases p with | nil => exact absurd rfl p0 | cons _ _ => rfl
  by_cases p1 : p = [115, 117, 98, 109, 105, 116]
  · have HK : Hid (kdN p = 1) := by show _ = _; rw [p1]; rfl
    have e1 : (([115, 117, 98, 109, 105, 116] : List UInt8) == y.toList) = true := by rw [hyl, p1]; rfl
    clear p1
    clear hyl
    go_enter Tryz.func72, Tryz.ntmps72
    go_wp2_with fail
    clear c0 c1 c2 c3 c4 c5 c6 c7
    refine wp_loop_rounds 9 ?_
    rw [rounds_succ]
    go_wp2_with fail
    rw [rounds_succ]
    go_wp2_with fail
    go_ret
    exact ⟨by rw [HK.out]; rfl, Below.refl _ _⟩
  have e1 : (([115, 117, 98, 109, 105, 116] : List UInt8) == y.toList) = false := by rw [hyl, beq_eq_false_iff_ne]; exact fun e => p1 e.symm
  by_cases p2 : p = [99, 97, 110, 99, 101, 108]
  · have HK : Hid (kdN p = 2) := by show _ = _; rw [p2]; rfl
    have e2 : (([99, 97, 110, 99, 101, 108] : List UInt8) == y.toList) = true := by rw [hyl, p2]; rfl
    clear p2
    clear hyl
    go_enter Tryz.func72, Tryz.ntmps72
    go_wp2_with fail
    clear c0 c1 c2 c3 c4 c5 c6 c7
    refine wp_loop_rounds 9 ?_
    rw [rounds_succ]
    go_wp2_with fail
    rw [rounds_succ]
    go_wp2_with fail
    rw [rounds_succ]
    go_wp2_with fail
    go_ret
    exact ⟨by rw [HK.out]; rfl, Below.refl _ _⟩
  have e2 : (([99, 97, 110, 99, 101, 108] : List UInt8) == y.toList) = false := by rw [hyl, beq_eq_false_iff_ne]; exact fun e => p2 e.symm
  by_cases p3 : p = [100, 111, 110, 101]
  · have HK : Hid (kdN p = 3) := by show _ = _; rw [p3]; rfl
    have e3 : (([100, 111, 110, 101] : List UInt8) == y.toList) = true := by rw [hyl, p3]; rfl
    clear p3
    clear hyl
    go_enter Tryz.func72, Tryz.ntmps72
    go_wp2_with fail
    clear c0 c1 c2 c3 c4 c5 c6 c7
    refine wp_loop_rounds 9 ?_
    rw [rounds_succ]
    go_wp2_with fail
    rw [rounds_succ]
    go_wp2_with fail
    rw [rounds_succ]
    go_wp2_with fail
    rw [rounds_succ]
    go_wp2_with fail
    go_ret
    exact ⟨by rw [HK.out]; rfl, Below.refl _ _⟩
  have e3 : (([100, 111, 110, 101] : List UInt8) == y.toList) = false := by rw [hyl, beq_eq_false_iff_ne]; exact fun e => p3 e.symm
  by_cases p4 : p = [102, 97, 105, 108]
  · have HK : Hid (kdN p = 4) := by show _ = _; rw [p4]; rfl
    have e4 : (([102, 97, 105, 108] : List UInt8) == y.toList) = true := by rw [hyl, p4]; rfl
    clear p4
    clear hyl
    go_enter Tryz.func72, Tryz.ntmps72
    go_wp2_with fail
    clear c0 c1 c2 c3 c4 c5 c6 c7
    refine wp_loop_rounds 9 ?_
    rw [rounds_succ]
    go_wp2_with fail
    rw [rounds_succ]
    go_wp2_with fail
    rw [rounds_succ]
    go_wp2_with fail
    rw [rounds_succ]
    go_wp2_with fail
    rw [rounds_succ]
    go_wp2_with fail
    go_ret
    exact ⟨by rw [HK.out]; rfl, Below.refl _ _⟩
  have e4 : (([102, 97, 105, 108] : List UInt8) == y.toList) = false := by rw [hyl, beq_eq_false_iff_ne]; exact fun e => p4 e.symm
  by_cases p5 : p = [114, 101, 115, 117, 109, 101]
  · have HK : Hid (kdN p = 5) := by show _ = _; rw [p5]; rfl
    have e5 : (([114, 101, 115, 117, 109, 101] : List UInt8) == y.toList) = true := by rw [hyl, p5]; rfl
    clear p5
    clear hyl
    go_enter Tryz.func72, Tryz.ntmps72
    go_wp2_with fail
    clear c0 c1 c2 c3 c4 c5 c6 c7
    refine wp_loop_rounds 9 ?_
    rw [rounds_succ]
    go_wp2_with fail
    rw [rounds_succ]
    go_wp2_with fail
    rw [rounds_succ]
    go_wp2_with fail
    rw [rounds_succ]
    go_wp2_with fail
    rw [rounds_succ]
    go_wp2_with fail
    rw [rounds_succ]
    go_wp2_with fail
    go_ret
    exact ⟨by rw [HK.out]; rfl, Below.refl _ _⟩
  have e5 : (([114, 101, 115, 117, 109, 101] : List UInt8) == y.toList) = false := by rw [hyl, beq_eq_false_iff_ne]; exact fun e => p5 e.symm
  by_cases p6 : p = [108, 105, 99]
  · have HK : Hid (kdN p = 6) := by show _ = _; rw [p6]; rfl
    have e6 : (([108, 105, 99] : List UInt8) == y.toList) = true := by rw [hyl, p6]; rfl
    clear p6
    clear hyl
    go_enter Tryz.func72, Tryz.ntmps72
    go_wp2_with fail
    clear c0 c1 c2 c3 c4 c5 c6 c7
    refine wp_loop_rounds 9 ?_
    rw [rounds_succ]
    go_wp2_with fail
    rw [rounds_succ]
    go_wp2_with fail
    rw [rounds_succ]
    go_wp2_with fail
    rw [rounds_succ]
    go_wp2_with fail
    rw [rounds_succ]
    go_wp2_with fail
    rw [rounds_succ]
    go_wp2_with fail
    rw [rounds_succ]
    go_wp2_with fail
    go_ret
    exact ⟨by rw [HK.out]; rfl, Below.refl _ _⟩
  have e6 : (([108, 105, 99] : List UInt8) == y.toList) = false := by rw [hyl, beq_eq_false_iff_ne]; exact fun e => p6 e.symm
  by_cases p7 : p = [103, 111]
  · have HK : Hid (kdN p = 7) := by show _ = _; rw [p7]; rfl
    have e7 : (([103, 111] : List UInt8) == y.toList) = true := by rw [hyl, p7]; rfl
    clear p7
    clear hyl
    go_enter Tryz.func72, Tryz.ntmps72
    go_wp2_with fail
    clear c0 c1 c2 c3 c4 c5 c6 c7
    refine wp_loop_rounds 9 ?_
    rw [rounds_succ]
    go_wp2_with fail
    rw [rounds_succ]
    go_wp2_with fail
    rw [rounds_succ]
    go_wp2_with fail
    rw [rounds_succ]
    go_wp2_with fail
    rw [rounds_succ]
    go_wp2_with fail
    rw [rounds_succ]
    go_wp2_with fail
    rw [rounds_succ]
    go_wp2_with fail
    rw [rounds_succ]
    go_wp2_with fail
    go_ret
    exact ⟨by rw [HK.out]; rfl, Below.refl _ _⟩
  have e7 : (([103, 111] : List UInt8) == y.toList) = false := by rw [hyl, beq_eq_false_iff_ne]; exact fun e => p7 e.symm
  have HK : Hid (kdN p = 0) := by show _ = _; unfold kdN; rw [if_neg p1, if_neg p2, if_neg p3, if_neg p4, if_neg p5, if_neg p6, if_neg p7]
  clear p0 p1 p2 p3 p4 p5 p6 p7
  clear hyl
  go_enter Tryz.func72, Tryz.ntmps72
  go_wp2_with fail
  clear c0 c1 c2 c3 c4 c5 c6 c7
  refine wp_loop_rounds 9 ?_
  rw [rounds_succ]
  go_wp2_with fail
  rw [rounds_succ]
  go_wp2_with fail
  rw [rounds_succ]
  go_wp2_with fail
  rw [rounds_succ]
  go_wp2_with fail
  rw [rounds_succ]
  go_wp2_with fail
  rw [rounds_succ]
  go_wp2_with fail
  rw [rounds_succ]
  go_wp2_with fail
  rw [rounds_succ]
  go_wp2_with fail
  rw [rounds_succ]
  go_wp2_with fail
  go_ret
  exact ⟨by rw [HK.out]; rfl, Below.refl _ _⟩
end Go.Proofs.YtejleghdgdbbnaaGreatDoor

namespace Go.Proofs.YtejleghdgdbbnaaGreatDoor
open Go.ChangeShapes Go.WideShapes Go.ChangeAt Go.RowKit

/-- What seven words tell of a job. -/
def jrd (x1 x2 x3 x4 x5 x6 x7 : List UInt8) : Jb := ⟨(tnR x1).1, (tnR x2).1, (tnR x3).1, (tvR x4).1.1, (tvR x4).1.2.1, (tvR x4).1.2.2, (tvR x5).1.1, (tvR x5).1.2.1, (tvR x5).1.2.2, (tnR x6).1, (tnR x7).1⟩

set_option maxHeartbeats 4000000 in
set_option maxRecDepth 100000 in
theorem readJob_c (g cap : Nat) (x0 x1 x2 x3 x4 x5 x6 x7 : List UInt8) (hl : ∀ x ∈ [x0, x1, x2, x3, x4, x5, x6, x7], x.length ≤ 1048576) (w : World) (h : Row w g (strs [x0, x1, x2, x3, x4, x5, x6, x7])) (env : Env w) :
    Calls Tryz.prog 73 #[.slice (some ⟨g, 1, none⟩) 7 cap] w fun e w' => e = .returned (.agg (jrd x1 x2 x3 x4 x5 x6 x7).cells.toArray) ∧ Below w.heap.size w w' := by
  have H : Hid (Row w g (strs [x0, x1, x2, x3, x4, x5, x6, x7])) := h
  have HE : Hid (Env w) := env
  have z1 : (⟨x1.toArray⟩ : ByteArray).size ≤ 1048576 := by rw [ba_size]; exact hl x1 (by simp)
  obtain ⟨v1, b1, hv1, C1⟩ : ∃ v b, Hid ((tnR x1).1 = v) ∧ ∀ W, Env W → Calls Tryz.prog 39 #[.string ⟨x1.toArray⟩] W fun e w' => e = .returned (.tuple #[.int .i64 v, .bool b]) ∧ Below W.heap.size W w' := ⟨_, _, hid_rfl, fun W hW => implTextNum_p x1 W (by omega) hW.1 hW.2.1⟩
  have z2 : (⟨x2.toArray⟩ : ByteArray).size ≤ 1048576 := by rw [ba_size]; exact hl x2 (by simp)
  obtain ⟨v2, b2, hv2, C2⟩ : ∃ v b, Hid ((tnR x2).1 = v) ∧ ∀ W, Env W → Calls Tryz.prog 39 #[.string ⟨x2.toArray⟩] W fun e w' => e = .returned (.tuple #[.int .i64 v, .bool b]) ∧ Below W.heap.size W w' := ⟨_, _, hid_rfl, fun W hW => implTextNum_p x2 W (by omega) hW.1 hW.2.1⟩
  have z3 : (⟨x3.toArray⟩ : ByteArray).size ≤ 1048576 := by rw [ba_size]; exact hl x3 (by simp)
  obtain ⟨v3, b3, hv3, C3⟩ : ∃ v b, Hid ((tnR x3).1 = v) ∧ ∀ W, Env W → Calls Tryz.prog 39 #[.string ⟨x3.toArray⟩] W fun e w' => e = .returned (.tuple #[.int .i64 v, .bool b]) ∧ Below W.heap.size W w' := ⟨_, _, hid_rfl, fun W hW => implTextNum_p x3 W (by omega) hW.1 hW.2.1⟩
  have z4 : (⟨x4.toArray⟩ : ByteArray).size ≤ 1048576 := by rw [ba_size]; exact hl x4 (by simp)
  obtain ⟨a4, c4, d4, b4, ha4, hc4, hd4, C4⟩ : ∃ a c d b, Hid ((tvR x4).1.1 = a) ∧ Hid ((tvR x4).1.2.1 = c) ∧ Hid ((tvR x4).1.2.2 = d) ∧ ∀ W, Env W → Calls Tryz.prog 74 #[.string ⟨x4.toArray⟩] W fun e w' => e = .returned (.tuple #[.agg #[.int .i64 a, .int .i64 c, .int .i64 d], .bool b]) ∧ Below W.heap.size W w' := ⟨_, _, _, _, hid_rfl, hid_rfl, hid_rfl, fun W hW => implTextVec_c ⟨x4.toArray⟩ z4 W hW⟩
  have z5 : (⟨x5.toArray⟩ : ByteArray).size ≤ 1048576 := by rw [ba_size]; exact hl x5 (by simp)
  obtain ⟨a5, c5, d5, b5, ha5, hc5, hd5, C5⟩ : ∃ a c d b, Hid ((tvR x5).1.1 = a) ∧ Hid ((tvR x5).1.2.1 = c) ∧ Hid ((tvR x5).1.2.2 = d) ∧ ∀ W, Env W → Calls Tryz.prog 74 #[.string ⟨x5.toArray⟩] W fun e w' => e = .returned (.tuple #[.agg #[.int .i64 a, .int .i64 c, .int .i64 d], .bool b]) ∧ Below W.heap.size W w' := ⟨_, _, _, _, hid_rfl, hid_rfl, hid_rfl, fun W hW => implTextVec_c ⟨x5.toArray⟩ z5 W hW⟩
  have z6 : (⟨x6.toArray⟩ : ByteArray).size ≤ 1048576 := by rw [ba_size]; exact hl x6 (by simp)
  obtain ⟨v6, b6, hv6, C6⟩ : ∃ v b, Hid ((tnR x6).1 = v) ∧ ∀ W, Env W → Calls Tryz.prog 39 #[.string ⟨x6.toArray⟩] W fun e w' => e = .returned (.tuple #[.int .i64 v, .bool b]) ∧ Below W.heap.size W w' := ⟨_, _, hid_rfl, fun W hW => implTextNum_p x6 W (by omega) hW.1 hW.2.1⟩
  have z7 : (⟨x7.toArray⟩ : ByteArray).size ≤ 1048576 := by rw [ba_size]; exact hl x7 (by simp)
  obtain ⟨v7, b7, hv7, C7⟩ : ∃ v b, Hid ((tnR x7).1 = v) ∧ ∀ W, Env W → Calls Tryz.prog 39 #[.string ⟨x7.toArray⟩] W fun e w' => e = .returned (.tuple #[.int .i64 v, .bool b]) ∧ Below W.heap.size W w' := ⟨_, _, hid_rfl, fun W hW => implTextNum_p x7 W (by omega) hW.1 hW.2.1⟩
  have HEq : Hid ((jrd x1 x2 x3 x4 x5 x6 x7).cells.toArray = #[.int .i64 v1, .int .i64 v2, .int .i64 v3, .int .i64 a4, .int .i64 c4, .int .i64 d4, .int .i64 a5, .int .i64 c5, .int .i64 d5, .int .i64 v6, .int .i64 v7]) := by show _ = _; simp only [jrd, Jb.cells, hv1.out, hv2.out, hv3.out, ha4.out, hc4.out, hd4.out, ha5.out, hc5.out, hd5.out, hv6.out, hv7.out]
  rw [HEq.out]
  clear HEq hv1 hv2 hv3 ha4 hc4 hd4 ha5 hc5 hd5 hv6 hv7 z1 z2 z3 z4 z5 z6 z7 hl
  have s1 := h.cell 1 _ rfl
  have hgl := h.lt
  have hgn : g ≠ w.heap.size := by omega
  have hgn1 : g ≠ w.heap.size + 1 := by omega
  clear h env
  go_enter Tryz.func73, Tryz.ntmps73
  go_wp2_with fail
  clear s1
  have HX : Hid (Row ((w.alloc (.cells #[.int .i64 0, .int .i64 0, .int .i64 0, .int .i64 0, .int .i64 0, .int .i64 0, .int .i64 0, .int .i64 0, .int .i64 0, .int .i64 0, .int .i64 0] 26)).alloc (.cells #[.int .i64 0, .int .i64 0, .int .i64 0, .int .i64 0, .int .i64 0, .int .i64 0, .int .i64 0, .int .i64 0, .int .i64 0, .int .i64 0, .int .i64 0] 26)) g (strs [x0, x1, x2, x3, x4, x5, x6, x7])) := (H.out.below (low_alloc _ _)).below (low_alloc _ _)
  have HR : Hid (Row ((w.alloc (.cells #[.int .i64 0, .int .i64 0, .int .i64 0, .int .i64 0, .int .i64 0, .int .i64 0, .int .i64 0, .int .i64 0, .int .i64 0, .int .i64 0, .int .i64 0] 26)).alloc (.cells #[.int .i64 0, .int .i64 0, .int .i64 0, .int .i64 0, .int .i64 0, .int .i64 0, .int .i64 0, .int .i64 0, .int .i64 0, .int .i64 0, .int .i64 0] 26)) w.heap.size [.int .i64 0, .int .i64 0, .int .i64 0, .int .i64 0, .int .i64 0, .int .i64 0, .int .i64 0, .int .i64 0, .int .i64 0, .int .i64 0, .int .i64 0]) := (row_fresh w [.int .i64 0, .int .i64 0, .int .i64 0, .int .i64 0, .int .i64 0, .int .i64 0, .int .i64 0, .int .i64 0, .int .i64 0, .int .i64 0, .int .i64 0] 26).below (low_alloc _ _)
  have hs1 : (w.alloc (.cells #[.int .i64 0, .int .i64 0, .int .i64 0, .int .i64 0, .int .i64 0, .int .i64 0, .int .i64 0, .int .i64 0, .int .i64 0, .int .i64 0, .int .i64 0] 26)).heap.size = w.heap.size + 1 := by simp [go_sem]
  have hj := row_fresh (w.alloc (.cells #[.int .i64 0, .int .i64 0, .int .i64 0, .int .i64 0, .int .i64 0, .int .i64 0, .int .i64 0, .int .i64 0, .int .i64 0, .int .i64 0, .int .i64 0] 26)) [.int .i64 0, .int .i64 0, .int .i64 0, .int .i64 0, .int .i64 0, .int .i64 0, .int .i64 0, .int .i64 0, .int .i64 0, .int .i64 0, .int .i64 0] 26
  rw [hs1] at hj
  have HJ : Hid (Row ((w.alloc (.cells #[.int .i64 0, .int .i64 0, .int .i64 0, .int .i64 0, .int .i64 0, .int .i64 0, .int .i64 0, .int .i64 0, .int .i64 0, .int .i64 0, .int .i64 0] 26)).alloc (.cells #[.int .i64 0, .int .i64 0, .int .i64 0, .int .i64 0, .int .i64 0, .int .i64 0, .int .i64 0, .int .i64 0, .int .i64 0, .int .i64 0, .int .i64 0] 26)) (w.heap.size + 1) [.int .i64 0, .int .i64 0, .int .i64 0, .int .i64 0, .int .i64 0, .int .i64 0, .int .i64 0, .int .i64 0, .int .i64 0, .int .i64 0, .int .i64 0]) := hj
  have HB : Hid (Below w.heap.size w ((w.alloc (.cells #[.int .i64 0, .int .i64 0, .int .i64 0, .int .i64 0, .int .i64 0, .int .i64 0, .int .i64 0, .int .i64 0, .int .i64 0, .int .i64 0, .int .i64 0] 26)).alloc (.cells #[.int .i64 0, .int .i64 0, .int .i64 0, .int .i64 0, .int .i64 0, .int .i64 0, .int .i64 0, .int .i64 0, .int .i64 0, .int .i64 0, .int .i64 0] 26))) := behind_alloc (low_alloc _ _) _
  clear hs1 hj H
  generalize (w.alloc (.cells #[.int .i64 0, .int .i64 0, .int .i64 0, .int .i64 0, .int .i64 0, .int .i64 0, .int .i64 0, .int .i64 0, .int .i64 0, .int .i64 0, .int .i64 0] 26)).alloc (.cells #[.int .i64 0, .int .i64 0, .int .i64 0, .int .i64 0, .int .i64 0, .int .i64 0, .int .i64 0, .int .i64 0, .int .i64 0, .int .i64 0, .int .i64 0] 26) = u0 at HX HR HJ HB ⊢
  have hne : ¬ w.heap.size = w.heap.size + 1 := by omega
  refine (C1 _ (HE.out.on HB.out)).mono ?_
  rintro e w1 ⟨rfl, hb⟩
  replace HX : Hid (Row w1 g (strs [x0, x1, x2, x3, x4, x5, x6, x7])) := HX.out.below hb
  replace HR : Hid (Row w1 w.heap.size [.int .i64 0, .int .i64 0, .int .i64 0, .int .i64 0, .int .i64 0, .int .i64 0, .int .i64 0, .int .i64 0, .int .i64 0, .int .i64 0, .int .i64 0]) := HR.out.below hb
  replace HJ : Hid (Row w1 (w.heap.size + 1) [.int .i64 0, .int .i64 0, .int .i64 0, .int .i64 0, .int .i64 0, .int .i64 0, .int .i64 0, .int .i64 0, .int .i64 0, .int .i64 0, .int .i64 0]) := HJ.out.below hb
  replace HB : Hid (Below w.heap.size w w1) := below_then HB.out hb
  clear hb C1
  have dd := HJ.out.cell 0 _ rfl
  have ff := HJ.out.free 0
  have ss := HX.out.cell 2 _ rfl
  go_wp2_with fail
  clear dd ff ss
  replace HJ : Hid (Row (w1.setCell ⟨w.heap.size + 1, 0, none⟩ (.int .i64 v1)) (w.heap.size + 1) [.int .i64 v1, .int .i64 0, .int .i64 0, .int .i64 0, .int .i64 0, .int .i64 0, .int .i64 0, .int .i64 0, .int .i64 0, .int .i64 0, .int .i64 0]) := HJ.out.set 0 (by simp) _
  replace HX : Hid (Row (w1.setCell ⟨w.heap.size + 1, 0, none⟩ (.int .i64 v1)) g (strs [x0, x1, x2, x3, x4, x5, x6, x7])) := HX.out.apart (w.heap.size + 1) 0 _ hgn1
  replace HR : Hid (Row (w1.setCell ⟨w.heap.size + 1, 0, none⟩ (.int .i64 v1)) w.heap.size [.int .i64 0, .int .i64 0, .int .i64 0, .int .i64 0, .int .i64 0, .int .i64 0, .int .i64 0, .int .i64 0, .int .i64 0, .int .i64 0, .int .i64 0]) := HR.out.apart (w.heap.size + 1) 0 _ hne
  replace HB : Hid (Below w.heap.size w (w1.setCell ⟨w.heap.size + 1, 0, none⟩ (.int .i64 v1))) := HB.out.setCell (by show w.heap.size ≤ w.heap.size + 1; omega) _
  generalize w1.setCell ⟨w.heap.size + 1, 0, none⟩ (.int .i64 v1) = u1 at HX HR HJ HB ⊢
  refine (C2 _ (HE.out.on HB.out)).mono ?_
  rintro e w2 ⟨rfl, hb⟩
  replace HX : Hid (Row w2 g (strs [x0, x1, x2, x3, x4, x5, x6, x7])) := HX.out.below hb
  replace HR : Hid (Row w2 w.heap.size [.int .i64 0, .int .i64 0, .int .i64 0, .int .i64 0, .int .i64 0, .int .i64 0, .int .i64 0, .int .i64 0, .int .i64 0, .int .i64 0, .int .i64 0]) := HR.out.below hb
  replace HJ : Hid (Row w2 (w.heap.size + 1) [.int .i64 v1, .int .i64 0, .int .i64 0, .int .i64 0, .int .i64 0, .int .i64 0, .int .i64 0, .int .i64 0, .int .i64 0, .int .i64 0, .int .i64 0]) := HJ.out.below hb
  replace HB : Hid (Below w.heap.size w w2) := below_then HB.out hb
  clear hb C2
  have dd := HJ.out.cell 1 _ rfl
  have ff := HJ.out.free 1
  have ss := HX.out.cell 3 _ rfl
  go_wp2_with fail
  clear dd ff ss
  replace HJ : Hid (Row (w2.setCell ⟨w.heap.size + 1, 1, none⟩ (.int .i64 v2)) (w.heap.size + 1) [.int .i64 v1, .int .i64 v2, .int .i64 0, .int .i64 0, .int .i64 0, .int .i64 0, .int .i64 0, .int .i64 0, .int .i64 0, .int .i64 0, .int .i64 0]) := HJ.out.set 1 (by simp) _
  replace HX : Hid (Row (w2.setCell ⟨w.heap.size + 1, 1, none⟩ (.int .i64 v2)) g (strs [x0, x1, x2, x3, x4, x5, x6, x7])) := HX.out.apart (w.heap.size + 1) 1 _ hgn1
  replace HR : Hid (Row (w2.setCell ⟨w.heap.size + 1, 1, none⟩ (.int .i64 v2)) w.heap.size [.int .i64 0, .int .i64 0, .int .i64 0, .int .i64 0, .int .i64 0, .int .i64 0, .int .i64 0, .int .i64 0, .int .i64 0, .int .i64 0, .int .i64 0]) := HR.out.apart (w.heap.size + 1) 1 _ hne
  replace HB : Hid (Below w.heap.size w (w2.setCell ⟨w.heap.size + 1, 1, none⟩ (.int .i64 v2))) := HB.out.setCell (by show w.heap.size ≤ w.heap.size + 1; omega) _
  generalize w2.setCell ⟨w.heap.size + 1, 1, none⟩ (.int .i64 v2) = u2 at HX HR HJ HB ⊢
  refine (C3 _ (HE.out.on HB.out)).mono ?_
  rintro e w3 ⟨rfl, hb⟩
  replace HX : Hid (Row w3 g (strs [x0, x1, x2, x3, x4, x5, x6, x7])) := HX.out.below hb
  replace HR : Hid (Row w3 w.heap.size [.int .i64 0, .int .i64 0, .int .i64 0, .int .i64 0, .int .i64 0, .int .i64 0, .int .i64 0, .int .i64 0, .int .i64 0, .int .i64 0, .int .i64 0]) := HR.out.below hb
  replace HJ : Hid (Row w3 (w.heap.size + 1) [.int .i64 v1, .int .i64 v2, .int .i64 0, .int .i64 0, .int .i64 0, .int .i64 0, .int .i64 0, .int .i64 0, .int .i64 0, .int .i64 0, .int .i64 0]) := HJ.out.below hb
  replace HB : Hid (Below w.heap.size w w3) := below_then HB.out hb
  clear hb C3
  have dd := HJ.out.cell 2 _ rfl
  have ff := HJ.out.free 2
  have ss := HX.out.cell 4 _ rfl
  go_wp2_with fail
  clear dd ff ss
  replace HJ : Hid (Row (w3.setCell ⟨w.heap.size + 1, 2, none⟩ (.int .i64 v3)) (w.heap.size + 1) [.int .i64 v1, .int .i64 v2, .int .i64 v3, .int .i64 0, .int .i64 0, .int .i64 0, .int .i64 0, .int .i64 0, .int .i64 0, .int .i64 0, .int .i64 0]) := HJ.out.set 2 (by simp) _
  replace HX : Hid (Row (w3.setCell ⟨w.heap.size + 1, 2, none⟩ (.int .i64 v3)) g (strs [x0, x1, x2, x3, x4, x5, x6, x7])) := HX.out.apart (w.heap.size + 1) 2 _ hgn1
  replace HR : Hid (Row (w3.setCell ⟨w.heap.size + 1, 2, none⟩ (.int .i64 v3)) w.heap.size [.int .i64 0, .int .i64 0, .int .i64 0, .int .i64 0, .int .i64 0, .int .i64 0, .int .i64 0, .int .i64 0, .int .i64 0, .int .i64 0, .int .i64 0]) := HR.out.apart (w.heap.size + 1) 2 _ hne
  replace HB : Hid (Below w.heap.size w (w3.setCell ⟨w.heap.size + 1, 2, none⟩ (.int .i64 v3))) := HB.out.setCell (by show w.heap.size ≤ w.heap.size + 1; omega) _
  generalize w3.setCell ⟨w.heap.size + 1, 2, none⟩ (.int .i64 v3) = u3 at HX HR HJ HB ⊢
  refine (C4 _ (HE.out.on HB.out)).mono ?_
  rintro e w4 ⟨rfl, hb⟩
  replace HX : Hid (Row w4 g (strs [x0, x1, x2, x3, x4, x5, x6, x7])) := HX.out.below hb
  replace HR : Hid (Row w4 w.heap.size [.int .i64 0, .int .i64 0, .int .i64 0, .int .i64 0, .int .i64 0, .int .i64 0, .int .i64 0, .int .i64 0, .int .i64 0, .int .i64 0, .int .i64 0]) := HR.out.below hb
  replace HJ : Hid (Row w4 (w.heap.size + 1) [.int .i64 v1, .int .i64 v2, .int .i64 v3, .int .i64 0, .int .i64 0, .int .i64 0, .int .i64 0, .int .i64 0, .int .i64 0, .int .i64 0, .int .i64 0]) := HJ.out.below hb
  replace HB : Hid (Below w.heap.size w w4) := below_then HB.out hb
  clear hb C4
  go_wp2_with (refine stay_store 24 ?_)
  refine ⟨?_⟩
  refine wpList_store_mid rfl 24 _ _ rfl (w.heap.size + 1) 3 _ rfl rfl (HJ.out.room 3 3 (by simp)) szVecC (by simp [Value.oneCell']) ?_
  replace HJ : Hid (Row (w4.setCells (w.heap.size + 1) 3 (#[.int .i64 a4, .int .i64 c4, .int .i64 d4] : Array Value).toList) (w.heap.size + 1) [.int .i64 v1, .int .i64 v2, .int .i64 v3, .int .i64 a4, .int .i64 c4, .int .i64 d4, .int .i64 0, .int .i64 0, .int .i64 0, .int .i64 0, .int .i64 0]) := Row.setCs _ 3 HJ.out (by simp)
  replace HX : Hid (Row (w4.setCells (w.heap.size + 1) 3 (#[.int .i64 a4, .int .i64 c4, .int .i64 d4] : Array Value).toList) g (strs [x0, x1, x2, x3, x4, x5, x6, x7])) := HX.out.apartCs hgn1 _ 3
  replace HR : Hid (Row (w4.setCells (w.heap.size + 1) 3 (#[.int .i64 a4, .int .i64 c4, .int .i64 d4] : Array Value).toList) w.heap.size [.int .i64 0, .int .i64 0, .int .i64 0, .int .i64 0, .int .i64 0, .int .i64 0, .int .i64 0, .int .i64 0, .int .i64 0, .int .i64 0, .int .i64 0]) := HR.out.apartCs hne _ 3
  replace HB : Hid (Below w.heap.size w (w4.setCells (w.heap.size + 1) 3 (#[.int .i64 a4, .int .i64 c4, .int .i64 d4] : Array Value).toList)) := below_setCs (by omega) _ _ HB.out
  generalize w4.setCells (w.heap.size + 1) 3 _ = u4 at HX HR HJ HB ⊢
  have ss := HX.out.cell 5 _ rfl
  go_wp2_with fail
  clear ss
  refine (C5 _ (HE.out.on HB.out)).mono ?_
  rintro e w5 ⟨rfl, hb⟩
  replace HX : Hid (Row w5 g (strs [x0, x1, x2, x3, x4, x5, x6, x7])) := HX.out.below hb
  replace HR : Hid (Row w5 w.heap.size [.int .i64 0, .int .i64 0, .int .i64 0, .int .i64 0, .int .i64 0, .int .i64 0, .int .i64 0, .int .i64 0, .int .i64 0, .int .i64 0, .int .i64 0]) := HR.out.below hb
  replace HJ : Hid (Row w5 (w.heap.size + 1) [.int .i64 v1, .int .i64 v2, .int .i64 v3, .int .i64 a4, .int .i64 c4, .int .i64 d4, .int .i64 0, .int .i64 0, .int .i64 0, .int .i64 0, .int .i64 0]) := HJ.out.below hb
  replace HB : Hid (Below w.heap.size w w5) := below_then HB.out hb
  clear hb C5
  go_wp2_with (refine stay_store 24 ?_)
  refine ⟨?_⟩
  refine wpList_store_mid rfl 24 _ _ rfl (w.heap.size + 1) 6 _ rfl rfl (HJ.out.room 6 3 (by simp)) szVecC (by simp [Value.oneCell']) ?_
  replace HJ : Hid (Row (w5.setCells (w.heap.size + 1) 6 (#[.int .i64 a5, .int .i64 c5, .int .i64 d5] : Array Value).toList) (w.heap.size + 1) [.int .i64 v1, .int .i64 v2, .int .i64 v3, .int .i64 a4, .int .i64 c4, .int .i64 d4, .int .i64 a5, .int .i64 c5, .int .i64 d5, .int .i64 0, .int .i64 0]) := Row.setCs _ 6 HJ.out (by simp)
  replace HX : Hid (Row (w5.setCells (w.heap.size + 1) 6 (#[.int .i64 a5, .int .i64 c5, .int .i64 d5] : Array Value).toList) g (strs [x0, x1, x2, x3, x4, x5, x6, x7])) := HX.out.apartCs hgn1 _ 6
  replace HR : Hid (Row (w5.setCells (w.heap.size + 1) 6 (#[.int .i64 a5, .int .i64 c5, .int .i64 d5] : Array Value).toList) w.heap.size [.int .i64 0, .int .i64 0, .int .i64 0, .int .i64 0, .int .i64 0, .int .i64 0, .int .i64 0, .int .i64 0, .int .i64 0, .int .i64 0, .int .i64 0]) := HR.out.apartCs hne _ 6
  replace HB : Hid (Below w.heap.size w (w5.setCells (w.heap.size + 1) 6 (#[.int .i64 a5, .int .i64 c5, .int .i64 d5] : Array Value).toList)) := below_setCs (by omega) _ _ HB.out
  generalize w5.setCells (w.heap.size + 1) 6 _ = u5 at HX HR HJ HB ⊢
  have ss := HX.out.cell 6 _ rfl
  go_wp2_with fail
  clear ss
  refine (C6 _ (HE.out.on HB.out)).mono ?_
  rintro e w6 ⟨rfl, hb⟩
  replace HX : Hid (Row w6 g (strs [x0, x1, x2, x3, x4, x5, x6, x7])) := HX.out.below hb
  replace HR : Hid (Row w6 w.heap.size [.int .i64 0, .int .i64 0, .int .i64 0, .int .i64 0, .int .i64 0, .int .i64 0, .int .i64 0, .int .i64 0, .int .i64 0, .int .i64 0, .int .i64 0]) := HR.out.below hb
  replace HJ : Hid (Row w6 (w.heap.size + 1) [.int .i64 v1, .int .i64 v2, .int .i64 v3, .int .i64 a4, .int .i64 c4, .int .i64 d4, .int .i64 a5, .int .i64 c5, .int .i64 d5, .int .i64 0, .int .i64 0]) := HJ.out.below hb
  replace HB : Hid (Below w.heap.size w w6) := below_then HB.out hb
  clear hb C6
  have dd := HJ.out.cell 9 _ rfl
  have ff := HJ.out.free 9
  have ss := HX.out.cell 7 _ rfl
  go_wp2_with fail
  clear dd ff ss
  replace HJ : Hid (Row (w6.setCell ⟨w.heap.size + 1, 9, none⟩ (.int .i64 v6)) (w.heap.size + 1) [.int .i64 v1, .int .i64 v2, .int .i64 v3, .int .i64 a4, .int .i64 c4, .int .i64 d4, .int .i64 a5, .int .i64 c5, .int .i64 d5, .int .i64 v6, .int .i64 0]) := HJ.out.set 9 (by simp) _
  replace HX : Hid (Row (w6.setCell ⟨w.heap.size + 1, 9, none⟩ (.int .i64 v6)) g (strs [x0, x1, x2, x3, x4, x5, x6, x7])) := HX.out.apart (w.heap.size + 1) 9 _ hgn1
  replace HR : Hid (Row (w6.setCell ⟨w.heap.size + 1, 9, none⟩ (.int .i64 v6)) w.heap.size [.int .i64 0, .int .i64 0, .int .i64 0, .int .i64 0, .int .i64 0, .int .i64 0, .int .i64 0, .int .i64 0, .int .i64 0, .int .i64 0, .int .i64 0]) := HR.out.apart (w.heap.size + 1) 9 _ hne
  replace HB : Hid (Below w.heap.size w (w6.setCell ⟨w.heap.size + 1, 9, none⟩ (.int .i64 v6))) := HB.out.setCell (by show w.heap.size ≤ w.heap.size + 1; omega) _
  generalize w6.setCell ⟨w.heap.size + 1, 9, none⟩ (.int .i64 v6) = u6 at HX HR HJ HB ⊢
  refine (C7 _ (HE.out.on HB.out)).mono ?_
  rintro e w7 ⟨rfl, hb⟩
  replace HX : Hid (Row w7 g (strs [x0, x1, x2, x3, x4, x5, x6, x7])) := HX.out.below hb
  replace HR : Hid (Row w7 w.heap.size [.int .i64 0, .int .i64 0, .int .i64 0, .int .i64 0, .int .i64 0, .int .i64 0, .int .i64 0, .int .i64 0, .int .i64 0, .int .i64 0, .int .i64 0]) := HR.out.below hb
  replace HJ : Hid (Row w7 (w.heap.size + 1) [.int .i64 v1, .int .i64 v2, .int .i64 v3, .int .i64 a4, .int .i64 c4, .int .i64 d4, .int .i64 a5, .int .i64 c5, .int .i64 d5, .int .i64 v6, .int .i64 0]) := HJ.out.below hb
  replace HB : Hid (Below w.heap.size w w7) := below_then HB.out hb
  clear hb C7
  have dd := HJ.out.cell 10 _ rfl
  have ff := HJ.out.free 10
  go_wp2_with (refine stay_load 26 ?_)
  refine ⟨?_⟩
  clear dd ff
  replace HJ : Hid (Row (w7.setCell ⟨w.heap.size + 1, 10, none⟩ (.int .i64 v7)) (w.heap.size + 1) [.int .i64 v1, .int .i64 v2, .int .i64 v3, .int .i64 a4, .int .i64 c4, .int .i64 d4, .int .i64 a5, .int .i64 c5, .int .i64 d5, .int .i64 v6, .int .i64 v7]) := HJ.out.set 10 (by simp) _
  replace HX : Hid (Row (w7.setCell ⟨w.heap.size + 1, 10, none⟩ (.int .i64 v7)) g (strs [x0, x1, x2, x3, x4, x5, x6, x7])) := HX.out.apart (w.heap.size + 1) 10 _ hgn1
  replace HR : Hid (Row (w7.setCell ⟨w.heap.size + 1, 10, none⟩ (.int .i64 v7)) w.heap.size [.int .i64 0, .int .i64 0, .int .i64 0, .int .i64 0, .int .i64 0, .int .i64 0, .int .i64 0, .int .i64 0, .int .i64 0, .int .i64 0, .int .i64 0]) := HR.out.apart (w.heap.size + 1) 10 _ hne
  replace HB : Hid (Below w.heap.size w (w7.setCell ⟨w.heap.size + 1, 10, none⟩ (.int .i64 v7))) := HB.out.setCell (by show w.heap.size ≤ w.heap.size + 1; omega) _
  generalize w7.setCell ⟨w.heap.size + 1, 10, none⟩ (.int .i64 v7) = u7 at HX HR HJ HB ⊢
  refine wpList_load_mid rfl 26 _ rfl (w.heap.size + 1) 0 rfl [.int .i64 v1, .int .i64 v2, .int .i64 v3, .int .i64 a4, .int .i64 c4, .int .i64 d4, .int .i64 a5, .int .i64 c5, .int .i64 d5, .int .i64 v6, .int .i64 v7] _ HJ.out.all Tryz.underlying26 rfl szJobC ?_
  go_wp2_with (refine stay_store 26 ?_)
  refine ⟨?_⟩
  refine wpList_store_mid rfl 26 _ _ rfl w.heap.size 0 _ rfl rfl (HR.out.room 0 11 (by simp)) szJobC (by simp [Value.oneCell']) ?_
  replace HR : Hid (Row (u7.setCells w.heap.size 0 (#[.int .i64 v1, .int .i64 v2, .int .i64 v3, .int .i64 a4, .int .i64 c4, .int .i64 d4, .int .i64 a5, .int .i64 c5, .int .i64 d5, .int .i64 v6, .int .i64 v7] : Array Value).toList) w.heap.size [.int .i64 v1, .int .i64 v2, .int .i64 v3, .int .i64 a4, .int .i64 c4, .int .i64 d4, .int .i64 a5, .int .i64 c5, .int .i64 d5, .int .i64 v6, .int .i64 v7]) := Row.setCs _ 0 HR.out (by simp)
  replace HB : Hid (Below w.heap.size w (u7.setCells w.heap.size 0 (#[.int .i64 v1, .int .i64 v2, .int .i64 v3, .int .i64 a4, .int .i64 c4, .int .i64 d4, .int .i64 a5, .int .i64 c5, .int .i64 d5, .int .i64 v6, .int .i64 v7] : Array Value).toList)) := below_setCs (Nat.le_refl _) _ _ HB.out
  generalize u7.setCells w.heap.size 0 _ = u8 at HR HB ⊢
  clear HX HJ
  go_wp2_with fail
  have r0 := HR.out.cell 0 _ rfl
  have r1 := HR.out.cell 1 _ rfl
  have r2 := HR.out.cell 2 _ rfl
  have r3 := HR.out.cell 3 _ rfl
  have r4 := HR.out.cell 4 _ rfl
  have r5 := HR.out.cell 5 _ rfl
  have r6 := HR.out.cell 6 _ rfl
  have r7 := HR.out.cell 7 _ rfl
  have r8 := HR.out.cell 8 _ rfl
  have r9 := HR.out.cell 9 _ rfl
  have r10 := HR.out.cell 10 _ rfl
  exact bodyPost_ret (v := .agg #[.int .i64 v1, .int .i64 v2, .int .i64 v3, .int .i64 a4, .int .i64 c4, .int .i64 d4, .int .i64 a5, .int .i64 c5, .int .i64 d5, .int .i64 v6, .int .i64 v7]) (by simp [results, Tryz.results73, go_sem, *]) rfl ⟨rfl, HB.out⟩
end Go.Proofs.YtejleghdgdbbnaaGreatDoor
