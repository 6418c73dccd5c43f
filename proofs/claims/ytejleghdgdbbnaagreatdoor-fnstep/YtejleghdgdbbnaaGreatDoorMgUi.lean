/- A text taken for a step: the program's. -/
import Derived.Test.YtejleghdgdbbnaaGreatDoorMgUh
import Derived.Lib.IndexMore
import Derived.Test.YtejleghdgdbbnaaGreatDoorCmS
namespace Go.Proofs.YtejleghdgdbbnaaGreatDoor

theorem cut_hit (b : UInt8) (l : List UInt8) : Lib.cut (b :: l) [b] = ([], l, true) := by
  have h : Lib.index (b :: l) [b] = 0 := by unfold Lib.index; simp [List.isPrefixOf]
  unfold Lib.cut
  rw [h]
  simp
theorem cut_pass {b c : UInt8} (h : c ≠ b) (l : List UInt8) : Lib.cut (c :: l) [b] = (c :: (Lib.cut l [b]).1, (Lib.cut l [b]).2.1, (Lib.cut l [b]).2.2) := by
  have hp : [b].isPrefixOf (c :: l) = false := by simp [List.isPrefixOf]; exact fun e => h e.symm
  have hi : Lib.index (c :: l) [b] = if Lib.index l [b] == -1 then -1 else Lib.index l [b] + 1 := by
    rw [Lib.index, hp]; rfl
  have hg := Lib.index_ge l [b]
  by_cases h1 : Lib.index l [b] = -1
  · have h2 : Lib.index (c :: l) [b] = -1 := by rw [hi, h1]; rfl
    unfold Lib.cut
    rw [h2, h1]
    simp
  · have h2 : Lib.index (c :: l) [b] = Lib.index l [b] + 1 := by rw [hi, if_neg (by simpa using h1)]
    have h0 : 0 ≤ Lib.index l [b] := by omega
    unfold Lib.cut
    rw [h2, if_pos (by omega), if_pos h0]
    have e : (Lib.index l [b] + 1).toNat = (Lib.index l [b]).toNat + 1 := by omega
    rw [e]
    simp
/-- The pieces of a text begin with what comes ahead of the first cut. -/
theorem pcs_cutS (b : UInt8) : ∀ l : List UInt8,
    ((Lib.cut l [b]).2.2 = true ∧ pcs b l = (Lib.cut l [b]).1 :: pcs b (Lib.cut l [b]).2.1 ∧ l = (Lib.cut l [b]).1 ++ b :: (Lib.cut l [b]).2.1) ∨
    ((Lib.cut l [b]).2.2 = false ∧ pcs b l = [l] ∧ (Lib.cut l [b]).1 = l ∧ (Lib.cut l [b]).2.1 = [])
  | [] => .inr ⟨by simp [Lib.cut, Lib.index], by simp [pcs], by simp [Lib.cut, Lib.index], by simp [Lib.cut, Lib.index]⟩
  | c :: l => by
    by_cases h : c = b
    · subst h
      rw [cut_hit]
      exact .inl ⟨rfl, by simp [pcs], rfl⟩
    · rw [cut_pass h]
      rcases pcs_cutS b l with ⟨h1, h2, h3⟩ | ⟨h1, h2, h3, h4⟩
      · refine .inl ⟨h1, ?_, by simp only [List.cons_append]; exact congrArg _ h3⟩
        simp only [pcs, if_neg h, h2]
      · refine .inr ⟨h1, ?_, by simp only; rw [h3], h4⟩
        simp only [pcs, if_neg h, h2]

/-- The kind of a step by its first word. -/
def sdN (p : List UInt8) : Int := if p = [100, 111] then 1 else if p = [116, 111, 114, 110] then 2 else if p = [99, 114, 97, 115, 104] then 3 else if p = [115, 116, 97, 114, 116] then 4 else 0
structure Sp where
  k : Int
  x : Cm
  p : Int
/-- What the program takes a text for. -/
def rdS (l : List UInt8) : Sp :=
  if sdN (Lib.cut l [32]).1 = 1 then ⟨1, (tcR (Lib.cut l [32]).2.1).1, 0⟩
  else if sdN (Lib.cut l [32]).1 = 2 then ⟨2, (tcR (Lib.cut (Lib.cut l [32]).2.1 [32]).2.1).1, (tnR (Lib.cut (Lib.cut l [32]).2.1 [32]).1).1⟩
  else ⟨sdN (Lib.cut l [32]).1, cm0, 0⟩
/-- The step whose text a text is. -/
def tsR (l : List UInt8) : Sp × Bool := if stB (rdS l).k (rdS l).x (rdS l).p = true ∧ stL (rdS l).k (rdS l).x (rdS l).p = l then (rdS l, true) else (⟨0, cm0, 0⟩, false)
theorem tcR_nil' : tcR [] = (cm0, false) := by
  unfold tcR
  rw [if_neg]
  rintro ⟨h, h2⟩
  exact ctL_ne' _ h h2
theorem st_no {k : Int} {x : Cm} {p : Int} (h : stB k x p = false) : stL k x p = [] := by unfold stL; rw [h]; rfl
theorem st_cm0 (p : Int) : stB 2 cm0 p = false := by simp [stB, cmdB, cm0]
theorem tsR_no {l : List UInt8} (h : stB (rdS l).k (rdS l).x (rdS l).p = false) : tsR l = (⟨0, cm0, 0⟩, false) := by
  unfold tsR; rw [if_neg]; rintro ⟨h1, _⟩; rw [h] at h1; cases h1
theorem tsR_ne {l : List UInt8} (h : stL (rdS l).k (rdS l).x (rdS l).p ≠ l) : tsR l = (⟨0, cm0, 0⟩, false) := by
  unfold tsR; rw [if_neg]; rintro ⟨_, h1⟩; exact h h1
theorem tsR_eq {l : List UInt8} (h0 : stB (rdS l).k (rdS l).x (rdS l).p = true) (h : stL (rdS l).k (rdS l).x (rdS l).p = l) : tsR l = (rdS l, true) := by
  unfold tsR; rw [if_pos ⟨h0, h⟩]
/-- What is read of a text that is what is read. -/
theorem ts_fit {l : List UInt8} (hne : l ≠ []) (h : stL (rdS l).k (rdS l).x (rdS l).p = l) : tsR l = (rdS l, true) := by
  refine tsR_eq ?_ h
  cases hb : stB (rdS l).k (rdS l).x (rdS l).p with
  | true => rfl
  | false => rw [st_no hb] at h; exact absurd h.symm hne
end Go.Proofs.YtejleghdgdbbnaaGreatDoor

namespace Go.Proofs.YtejleghdgdbbnaaGreatDoor
open Go.ChangeShapes Go.WideShapes Go.ChangeAt Go.RowKit
theorem results_one {P : Program} {fn : Func} {a : Tmp} {t : TypeId} (h : fn.results = #[.cell a t]) {tmps : Array Value} {b : Nat} (ht : tmps[a]?.getD undef = .pointer (some ⟨b, 0, none⟩)) {W : World} {v : Value} (hv : (loadVar t ⟨b, 0, none⟩).run P W = .ok v W) :
    (results fn tmps).run P W = .ok v W := by
  unfold results
  rw [h]
  simp [asAddr, ht, hv]
theorem results_two {P : Program} {fn : Func} {a a2 : Tmp} {t t2 : TypeId} (h : fn.results = #[.cell a t, .cell a2 t2]) {tmps : Array Value} {b b2 : Nat} (ht : tmps[a]?.getD undef = .pointer (some ⟨b, 0, none⟩)) (ht2 : tmps[a2]?.getD undef = .pointer (some ⟨b2, 0, none⟩)) {W : World} {v v2 : Value} (hv : (loadVar t ⟨b, 0, none⟩).run P W = .ok v W) (hv2 : (loadVar t2 ⟨b2, 0, none⟩).run P W = .ok v2 W) :
    (results fn tmps).run P W = .ok (.tuple #[v, v2]) W := by
  unfold results
  rw [h]
  simp [Sem.run_bind, asAddr, ht, ht2, hv, hv2]
theorem results_mix {P : Program} {fn : Func} {a a2 : Tmp} {t : TypeId} (h : fn.results = #[.cell a t, .tmp a2]) {tmps : Array Value} {b : Nat} (ht : tmps[a]?.getD undef = .pointer (some ⟨b, 0, none⟩)) {W : World} {v : Value} (hv : (loadVar t ⟨b, 0, none⟩).run P W = .ok v W) :
    (results fn tmps).run P W = .ok (.tuple #[v, tmps[a2]?.getD undef]) W := by
  unfold results
  rw [h]
  simp [asAddr, ht, hv]
end Go.Proofs.YtejleghdgdbbnaaGreatDoor

namespace Go.Proofs.YtejleghdgdbbnaaGreatDoor
open Go.ChangeShapes Go.WideShapes Go.ChangeAt Go.RowKit

theorem wpList_load_mid_w {P : Program} {ops : Array Oper} {rest : List Oper} {op : Oper} {a : Act} {w : World} {Q : Exit → Act → World → Prop} (hw : Region.wanted op (yielded ops a.tmps) = true) (ty : TypeId) (x : Operand) (ho : op.op = .load ty x)
    (b o : Nat) (hx : a.eval x = .pointer (some ⟨b, o, none⟩)) (cs : List Value) (d : TypeDesc) (hc : w.rangeAt b o cs)
    (hu : P.underlying ty = some d) (hd : d.isRow = true) (hi : (P.info? ty).map (·.size) = some cs.length)
    (h : wpList P ops Q rest (a.put op.dst (.agg cs.toArray)) w) : wpList P ops Q (op :: rest) a w :=
  wpList_step fun _ hK => by simp only [hw, if_true]; exact wp_load_mid ty x ho b o hx cs d hc hu hd hi (hK _ _ h)
end Go.Proofs.YtejleghdgdbbnaaGreatDoor

namespace Go.Proofs.YtejleghdgdbbnaaGreatDoor
open Go.ChangeShapes Go.WideShapes Go.ChangeAt Go.RowKit

set_option maxHeartbeats 2000000 in
set_option maxRecDepth 100000 in
theorem stepKindOf_c (p : List UInt8) (w : World) (hk : StT w) : Calls Tryz.prog 37 #[.string ⟨p.toArray⟩] w fun e w' => e = .returned (.int .i64 (sdN p)) ∧ Below w.heap.size w w' := by
  have c0 := hk.cell 0 _ rfl
  have c1 := hk.cell 1 _ rfl
  have c2 := hk.cell 2 _ rfl
  have c3 := hk.cell 3 _ rfl
  have c4 := hk.cell 4 _ rfl
  clear hk
  have x0 : ∀ w : World, (Instr.index 42 (.agg #[.string ⟨#[]⟩, .string ⟨#[100, 111]⟩, .string ⟨#[116, 111, 114, 110]⟩, .string ⟨#[99, 114, 97, 115, 104]⟩, .string ⟨#[115, 116, 97, 114, 116]⟩]) (.int .i64 0)).run Tryz.prog w = .ok (.string ⟨#[]⟩) w := fun _ => by kernel_rfl
  have x1 : ∀ w : World, (Instr.index 42 (.agg #[.string ⟨#[]⟩, .string ⟨#[100, 111]⟩, .string ⟨#[116, 111, 114, 110]⟩, .string ⟨#[99, 114, 97, 115, 104]⟩, .string ⟨#[115, 116, 97, 114, 116]⟩]) (.int .i64 1)).run Tryz.prog w = .ok (.string ⟨#[100, 111]⟩) w := fun _ => by kernel_rfl
  have x2 : ∀ w : World, (Instr.index 42 (.agg #[.string ⟨#[]⟩, .string ⟨#[100, 111]⟩, .string ⟨#[116, 111, 114, 110]⟩, .string ⟨#[99, 114, 97, 115, 104]⟩, .string ⟨#[115, 116, 97, 114, 116]⟩]) (.int .i64 2)).run Tryz.prog w = .ok (.string ⟨#[116, 111, 114, 110]⟩) w := fun _ => by kernel_rfl
  have x3 : ∀ w : World, (Instr.index 42 (.agg #[.string ⟨#[]⟩, .string ⟨#[100, 111]⟩, .string ⟨#[116, 111, 114, 110]⟩, .string ⟨#[99, 114, 97, 115, 104]⟩, .string ⟨#[115, 116, 97, 114, 116]⟩]) (.int .i64 3)).run Tryz.prog w = .ok (.string ⟨#[99, 114, 97, 115, 104]⟩) w := fun _ => by kernel_rfl
  have x4 : ∀ w : World, (Instr.index 42 (.agg #[.string ⟨#[]⟩, .string ⟨#[100, 111]⟩, .string ⟨#[116, 111, 114, 110]⟩, .string ⟨#[99, 114, 97, 115, 104]⟩, .string ⟨#[115, 116, 97, 114, 116]⟩]) (.int .i64 4)).run Tryz.prog w = .ok (.string ⟨#[115, 116, 97, 114, 116]⟩) w := fun _ => by kernel_rfl
  obtain ⟨y, hy, hyl⟩ : ∃ y : ByteArray, (⟨p.toArray⟩ : ByteArray) = y ∧ y.toList = p := ⟨_, rfl, by rw [ByteArray.toList_eq]⟩
  rw [hy]
  clear hy
  by_cases p0 : p = []
  · have HK : Hid (sdN p = 0) := by show _ = _; rw [p0]; rfl
    have e0 : y.toList.isEmpty = true := by rw [hyl, p0]; rfl
    clear p0 hyl
    go_enter Tryz.func37, Tryz.ntmps37
    go_wp2_with fail
    clear c0 c1 c2 c3 c4
    refine wp_loop_rounds 6 ?_
    rw [rounds_succ]
    go_wp2_with fail
    go_ret
    exact ⟨by rw [HK.out]; rfl, Below.refl _ _⟩
  have e0 : y.toList.isEmpty = false := by rw [hyl]; cases p with | nil => exact absurd rfl p0 | cons _ _ => rfl
  by_cases p1 : p = [100, 111]
  · have HK : Hid (sdN p = 1) := by show _ = _; rw [p1]; rfl
    have e1 : (([100, 111] : List UInt8) == y.toList) = true := by rw [hyl, p1]; rfl
    clear p1 hyl
    go_enter Tryz.func37, Tryz.ntmps37
    go_wp2_with fail
    clear c0 c1 c2 c3 c4
    refine wp_loop_rounds 6 ?_
    rw [rounds_succ]
    go_wp2_with fail
    rw [rounds_succ]
    go_wp2_with fail
    go_ret
    exact ⟨by rw [HK.out]; rfl, Below.refl _ _⟩
  have e1 : (([100, 111] : List UInt8) == y.toList) = false := by rw [hyl, beq_eq_false_iff_ne]; exact fun e => p1 e.symm
  by_cases p2 : p = [116, 111, 114, 110]
  · have HK : Hid (sdN p = 2) := by show _ = _; rw [p2]; rfl
    have e2 : (([116, 111, 114, 110] : List UInt8) == y.toList) = true := by rw [hyl, p2]; rfl
    clear p2 hyl
    go_enter Tryz.func37, Tryz.ntmps37
    go_wp2_with fail
    clear c0 c1 c2 c3 c4
    refine wp_loop_rounds 6 ?_
    rw [rounds_succ]
    go_wp2_with fail
    rw [rounds_succ]
    go_wp2_with fail
    rw [rounds_succ]
    go_wp2_with fail
    go_ret
    exact ⟨by rw [HK.out]; rfl, Below.refl _ _⟩
  have e2 : (([116, 111, 114, 110] : List UInt8) == y.toList) = false := by rw [hyl, beq_eq_false_iff_ne]; exact fun e => p2 e.symm
  by_cases p3 : p = [99, 114, 97, 115, 104]
  · have HK : Hid (sdN p = 3) := by show _ = _; rw [p3]; rfl
    have e3 : (([99, 114, 97, 115, 104] : List UInt8) == y.toList) = true := by rw [hyl, p3]; rfl
    clear p3 hyl
    go_enter Tryz.func37, Tryz.ntmps37
    go_wp2_with fail
    clear c0 c1 c2 c3 c4
    refine wp_loop_rounds 6 ?_
    rw [rounds_succ]
    go_wp2_with fail
    rw [rounds_succ]
    go_wp2_with fail
    rw [rounds_succ]
    go_wp2_with fail
    rw [rounds_succ]
    go_wp2_with fail
    go_ret
    exact ⟨by rw [HK.out]; rfl, Below.refl _ _⟩
  have e3 : (([99, 114, 97, 115, 104] : List UInt8) == y.toList) = false := by rw [hyl, beq_eq_false_iff_ne]; exact fun e => p3 e.symm
  by_cases p4 : p = [115, 116, 97, 114, 116]
  · have HK : Hid (sdN p = 4) := by show _ = _; rw [p4]; rfl
    have e4 : (([115, 116, 97, 114, 116] : List UInt8) == y.toList) = true := by rw [hyl, p4]; rfl
    clear p4 hyl
    go_enter Tryz.func37, Tryz.ntmps37
    go_wp2_with fail
    clear c0 c1 c2 c3 c4
    refine wp_loop_rounds 6 ?_
    rw [rounds_succ]
    go_wp2_with fail
    rw [rounds_succ]
    go_wp2_with fail
    rw [rounds_succ]
    go_wp2_with fail
    rw [rounds_succ]
    go_wp2_with fail
    rw [rounds_succ]
    go_wp2_with fail
    go_ret
    exact ⟨by rw [HK.out]; rfl, Below.refl _ _⟩
  have e4 : (([115, 116, 97, 114, 116] : List UInt8) == y.toList) = false := by rw [hyl, beq_eq_false_iff_ne]; exact fun e => p4 e.symm
  have HK : Hid (sdN p = 0) := by show _ = _; unfold sdN; rw [if_neg p1, if_neg p2, if_neg p3, if_neg p4]
  clear p0 p1 p2 p3 p4 hyl
  go_enter Tryz.func37, Tryz.ntmps37
  go_wp2_with fail
  clear c0 c1 c2 c3 c4
  refine wp_loop_rounds 6 ?_
  rw [rounds_succ]
  go_wp2_with fail
  rw [rounds_succ]
  go_wp2_with fail
  rw [rounds_succ]
  go_wp2_with fail
  rw [rounds_succ]
  go_wp2_with fail
  rw [rounds_succ]
  go_wp2_with fail
  rw [rounds_succ]
  go_wp2_with fail
  go_ret
  exact ⟨by rw [HK.out]; rfl, Below.refl _ _⟩
end Go.Proofs.YtejleghdgdbbnaaGreatDoor

namespace Go.Proofs.YtejleghdgdbbnaaGreatDoor
open Go.ChangeShapes Go.WideShapes Go.ChangeAt Go.RowKit

theorem cut_len (b : UInt8) (l : List UInt8) : (Lib.cut l [b]).1.length ≤ l.length ∧ (Lib.cut l [b]).2.1.length ≤ l.length := by
  rcases pcs_cutS b l with ⟨_, _, h⟩ | ⟨_, _, h, h2⟩
  · have := congrArg List.length h
    simp only [List.length_append, List.length_cons] at this
    omega
  · rw [h, h2]; simp
theorem cut_c (l : List UInt8) (hl : l.length ≤ 1048576) (w : World) (hm : MaxL w) :
    Calls Tryz.prog 36 #[.string ⟨l.toArray⟩, .string ⟨#[32]⟩] w fun e w' => e = .returned (.tuple #[.string ⟨(Lib.cut l [32]).1.toArray⟩, .string ⟨(Lib.cut l [32]).2.1.toArray⟩, .bool (Lib.cut l [32]).2.2]) ∧ Below w.heap.size w w' := by
  obtain ⟨m, hm⟩ := hm
  refine (Tryz.strings_Cut ⟨l.toArray⟩ ⟨#[32]⟩ m w (by simp [ByteArray.size]; omega) hm).mono ?_
  rintro e w1 ⟨rfl, n, rfl⟩
  exact ⟨rfl, ⟨rfl, rfl, rfl, Nat.le_refl _, fun _ _ => rfl⟩⟩
set_option maxHeartbeats 4000000 in
set_option maxRecDepth 100000 in
theorem readStep_d (l : List UInt8) (hl : l.length ≤ 1048576) (w : World) (hs : StT w) (env : Env w) (h1 : sdN (Lib.cut l [32]).1 ≠ 1) (h2 : sdN (Lib.cut l [32]).1 ≠ 2) :
    Calls Tryz.prog 19 #[.string ⟨l.toArray⟩] w fun e w' => e = .returned (.agg #[.int .i64 (sdN (Lib.cut l [32]).1), .int .i64 0, .int .i64 0, .int .i64 0, .int .i64 0, .int .i64 0, .int .i64 0, .int .i64 0, .int .i64 0, .int .i64 0, .int .i64 0, .int .i64 0, .int .i64 0, .int .i64 0, .int .i64 0, .int .i64 0, .int .i64 0, .int .i64 0]) ∧ Below w.heap.size w w' := by
  have HC : Hid (∀ W, MaxL W → _) := fun W hW => cut_c l hl W hW
  have HD : Hid (∀ W, StT W → _) := fun W hW => stepKindOf_c (Lib.cut l [32]).1 W hW
  generalize (Lib.cut l [32]).1 = wd at h1 h2 HC HD ⊢
  generalize (Lib.cut l [32]).2.1 = rs at HC
  generalize (Lib.cut l [32]).2.2 = fd at HC
  generalize sdN wd = k at h1 h2 HD ⊢
  have n1 : (k == 1) = false := by rw [beq_eq_false_iff_ne]; exact h1
  have n2 : (k == 2) = false := by rw [beq_eq_false_iff_ne]; exact h2
  have HS : Hid (StT w) := hs
  have HE : Hid (Env w) := env
  clear h1 h2 hs env hl
  go_enter Tryz.func19, Tryz.ntmps19
  go_wp2_with fail
  have HR : Hid (Row (w.alloc (.cells #[.int .i64 0, .int .i64 0, .int .i64 0, .int .i64 0, .int .i64 0, .int .i64 0, .int .i64 0, .int .i64 0, .int .i64 0, .int .i64 0, .int .i64 0, .int .i64 0, .int .i64 0, .int .i64 0, .int .i64 0, .int .i64 0, .int .i64 0, .int .i64 0] 30)) w.heap.size [.int .i64 0, .int .i64 0, .int .i64 0, .int .i64 0, .int .i64 0, .int .i64 0, .int .i64 0, .int .i64 0, .int .i64 0, .int .i64 0, .int .i64 0, .int .i64 0, .int .i64 0, .int .i64 0, .int .i64 0, .int .i64 0, .int .i64 0, .int .i64 0]) := row_fresh w [.int .i64 0, .int .i64 0, .int .i64 0, .int .i64 0, .int .i64 0, .int .i64 0, .int .i64 0, .int .i64 0, .int .i64 0, .int .i64 0, .int .i64 0, .int .i64 0, .int .i64 0, .int .i64 0, .int .i64 0, .int .i64 0, .int .i64 0, .int .i64 0] 30
  have HB : Hid (Below w.heap.size w (w.alloc (.cells #[.int .i64 0, .int .i64 0, .int .i64 0, .int .i64 0, .int .i64 0, .int .i64 0, .int .i64 0, .int .i64 0, .int .i64 0, .int .i64 0, .int .i64 0, .int .i64 0, .int .i64 0, .int .i64 0, .int .i64 0, .int .i64 0, .int .i64 0, .int .i64 0] 30))) := low_alloc _ _
  generalize w.alloc (.cells #[.int .i64 0, .int .i64 0, .int .i64 0, .int .i64 0, .int .i64 0, .int .i64 0, .int .i64 0, .int .i64 0, .int .i64 0, .int .i64 0, .int .i64 0, .int .i64 0, .int .i64 0, .int .i64 0, .int .i64 0, .int .i64 0, .int .i64 0, .int .i64 0] 30) = u0 at HR HB ⊢
  refine (HC.out _ (HE.out.on HB.out).2.2).mono ?_
  rintro e w1 ⟨rfl, hb⟩
  replace HR : Hid (Row w1 w.heap.size [.int .i64 0, .int .i64 0, .int .i64 0, .int .i64 0, .int .i64 0, .int .i64 0, .int .i64 0, .int .i64 0, .int .i64 0, .int .i64 0, .int .i64 0, .int .i64 0, .int .i64 0, .int .i64 0, .int .i64 0, .int .i64 0, .int .i64 0, .int .i64 0]) := HR.out.below hb
  replace HB : Hid (Below w.heap.size w w1) := below_then HB.out hb
  clear hb HC
  go_wp2_with fail
  refine (HD.out _ (HS.out.on HB.out)).mono ?_
  rintro e w2 ⟨rfl, hb⟩
  replace HR : Hid (Row w2 w.heap.size [.int .i64 0, .int .i64 0, .int .i64 0, .int .i64 0, .int .i64 0, .int .i64 0, .int .i64 0, .int .i64 0, .int .i64 0, .int .i64 0, .int .i64 0, .int .i64 0, .int .i64 0, .int .i64 0, .int .i64 0, .int .i64 0, .int .i64 0, .int .i64 0]) := HR.out.below hb
  replace HB : Hid (Below w.heap.size w w2) := below_then HB.out hb
  clear hb HD
  go_wp2_with (refine stay_load 30 ?_)
  refine ⟨?_⟩
  have HJ : Hid (Row (w2.alloc (.cells #[.int .i64 k, .int .i64 0, .int .i64 0, .int .i64 0, .int .i64 0, .int .i64 0, .int .i64 0, .int .i64 0, .int .i64 0, .int .i64 0, .int .i64 0, .int .i64 0, .int .i64 0, .int .i64 0, .int .i64 0, .int .i64 0, .int .i64 0, .int .i64 0] 30)) w2.heap.size [.int .i64 k, .int .i64 0, .int .i64 0, .int .i64 0, .int .i64 0, .int .i64 0, .int .i64 0, .int .i64 0, .int .i64 0, .int .i64 0, .int .i64 0, .int .i64 0, .int .i64 0, .int .i64 0, .int .i64 0, .int .i64 0, .int .i64 0, .int .i64 0]) := row_fresh w2 [.int .i64 k, .int .i64 0, .int .i64 0, .int .i64 0, .int .i64 0, .int .i64 0, .int .i64 0, .int .i64 0, .int .i64 0, .int .i64 0, .int .i64 0, .int .i64 0, .int .i64 0, .int .i64 0, .int .i64 0, .int .i64 0, .int .i64 0, .int .i64 0] 30
  replace HR : Hid (Row (w2.alloc (.cells #[.int .i64 k, .int .i64 0, .int .i64 0, .int .i64 0, .int .i64 0, .int .i64 0, .int .i64 0, .int .i64 0, .int .i64 0, .int .i64 0, .int .i64 0, .int .i64 0, .int .i64 0, .int .i64 0, .int .i64 0, .int .i64 0, .int .i64 0, .int .i64 0] 30)) w.heap.size [.int .i64 0, .int .i64 0, .int .i64 0, .int .i64 0, .int .i64 0, .int .i64 0, .int .i64 0, .int .i64 0, .int .i64 0, .int .i64 0, .int .i64 0, .int .i64 0, .int .i64 0, .int .i64 0, .int .i64 0, .int .i64 0, .int .i64 0, .int .i64 0]) := HR.out.below (low_alloc _ _)
  replace HB : Hid (Below w.heap.size w (w2.alloc (.cells #[.int .i64 k, .int .i64 0, .int .i64 0, .int .i64 0, .int .i64 0, .int .i64 0, .int .i64 0, .int .i64 0, .int .i64 0, .int .i64 0, .int .i64 0, .int .i64 0, .int .i64 0, .int .i64 0, .int .i64 0, .int .i64 0, .int .i64 0, .int .i64 0] 30))) := behind_alloc HB.out _
  generalize w2.alloc (.cells #[.int .i64 k, .int .i64 0, .int .i64 0, .int .i64 0, .int .i64 0, .int .i64 0, .int .i64 0, .int .i64 0, .int .i64 0, .int .i64 0, .int .i64 0, .int .i64 0, .int .i64 0, .int .i64 0, .int .i64 0, .int .i64 0, .int .i64 0, .int .i64 0] 30) = u3 at HR HB HJ ⊢
  generalize w2.heap.size = q at HJ ⊢
  refine wpList_load_mid rfl 30 _ rfl q 0 rfl [.int .i64 k, .int .i64 0, .int .i64 0, .int .i64 0, .int .i64 0, .int .i64 0, .int .i64 0, .int .i64 0, .int .i64 0, .int .i64 0, .int .i64 0, .int .i64 0, .int .i64 0, .int .i64 0, .int .i64 0, .int .i64 0, .int .i64 0, .int .i64 0] _ HJ.out.all Tryz.underlying30 rfl szStep ?_
  go_wp2_with (refine stay_store 30 ?_)
  refine ⟨?_⟩
  refine wpList_store_mid rfl 30 _ _ rfl w.heap.size 0 (#[.int .i64 k, .int .i64 0, .int .i64 0, .int .i64 0, .int .i64 0, .int .i64 0, .int .i64 0, .int .i64 0, .int .i64 0, .int .i64 0, .int .i64 0, .int .i64 0, .int .i64 0, .int .i64 0, .int .i64 0, .int .i64 0, .int .i64 0, .int .i64 0]) rfl rfl (HR.out.room 0 18 (by simp)) szStep (by simp [Value.oneCell']) ?_
  replace HR : Hid (Row (u3.setCells w.heap.size 0 (#[.int .i64 k, .int .i64 0, .int .i64 0, .int .i64 0, .int .i64 0, .int .i64 0, .int .i64 0, .int .i64 0, .int .i64 0, .int .i64 0, .int .i64 0, .int .i64 0, .int .i64 0, .int .i64 0, .int .i64 0, .int .i64 0, .int .i64 0, .int .i64 0] : Array Value).toList) w.heap.size [.int .i64 k, .int .i64 0, .int .i64 0, .int .i64 0, .int .i64 0, .int .i64 0, .int .i64 0, .int .i64 0, .int .i64 0, .int .i64 0, .int .i64 0, .int .i64 0, .int .i64 0, .int .i64 0, .int .i64 0, .int .i64 0, .int .i64 0, .int .i64 0]) := Row.setCs _ 0 HR.out (by simp)
  replace HB : Hid (Below w.heap.size w (u3.setCells w.heap.size 0 (#[.int .i64 k, .int .i64 0, .int .i64 0, .int .i64 0, .int .i64 0, .int .i64 0, .int .i64 0, .int .i64 0, .int .i64 0, .int .i64 0, .int .i64 0, .int .i64 0, .int .i64 0, .int .i64 0, .int .i64 0, .int .i64 0, .int .i64 0, .int .i64 0] : Array Value).toList)) := below_setCs (Nat.le_refl _) _ _ HB.out
  generalize u3.setCells w.heap.size 0 _ = u8 at HR HB ⊢
  clear HJ
  go_wp2_with fail
  have hv := run_loadVar_mid (P := Tryz.prog) u8 w.heap.size 0 30 [.int .i64 k, .int .i64 0, .int .i64 0, .int .i64 0, .int .i64 0, .int .i64 0, .int .i64 0, .int .i64 0, .int .i64 0, .int .i64 0, .int .i64 0, .int .i64 0, .int .i64 0, .int .i64 0, .int .i64 0, .int .i64 0, .int .i64 0, .int .i64 0] _ HR.out.all Tryz.underlying30 rfl szStep
  exact bodyPost_ret (v := .agg #[.int .i64 k, .int .i64 0, .int .i64 0, .int .i64 0, .int .i64 0, .int .i64 0, .int .i64 0, .int .i64 0, .int .i64 0, .int .i64 0, .int .i64 0, .int .i64 0, .int .i64 0, .int .i64 0, .int .i64 0, .int .i64 0, .int .i64 0, .int .i64 0]) (results_one Tryz.results19 rfl hv) rfl ⟨rfl, HB.out⟩
set_option maxHeartbeats 4000000 in
set_option maxRecDepth 100000 in
theorem readStep_1 (l : List UInt8) (hl : l.length ≤ 1048576) (w : World) (hs : StT w) (hk : KwT w) (env : Env w) (h1 : sdN (Lib.cut l [32]).1 = 1) (x : Cm) (hx : (tcR (Lib.cut l [32]).2.1).1 = x) :
    Calls Tryz.prog 19 #[.string ⟨l.toArray⟩] w fun e w' => e = .returned (.agg #[.int .i64 1, .int .i64 x.s, .int .i64 x.j.id, .int .i64 x.j.pr, .int .i64 x.j.nd, .int .i64 x.j.na, .int .i64 x.j.nb, .int .i64 x.j.nc, .int .i64 x.j.la, .int .i64 x.j.lb, .int .i64 x.j.lc, .int .i64 x.j.wl, .int .i64 x.j.lv, .int .i64 x.n, .int .i64 x.a, .int .i64 x.b, .int .i64 x.c, .int .i64 0]) ∧ Below w.heap.size w w' := by
  have HC : Hid (∀ W, MaxL W → _) := fun W hW => cut_c l hl W hW
  have hd := fun W hW => stepKindOf_c (Lib.cut l [32]).1 W hW
  have hrl := (cut_len 32 l).2
  generalize (Lib.cut l [32]).1 = wd at h1 HC hd ⊢
  generalize (Lib.cut l [32]).2.1 = rs at HC hrl hx
  generalize (Lib.cut l [32]).2.2 = fd at HC
  have ht := fun W hk he => implTextCmd_c ⟨rs.toArray⟩ (by simp [ByteArray.size]; omega) W hk he
  simp only [hx] at ht
  generalize (tcR rs).2 = tb at ht
  have HT : Hid (∀ W : World, KwT W → Env W → Calls Tryz.prog 38 #[.string ⟨rs.toArray⟩] W fun e w' => e = .returned (.tuple #[.agg #[.int .i64 x.s, .int .i64 x.j.id, .int .i64 x.j.pr, .int .i64 x.j.nd, .int .i64 x.j.na, .int .i64 x.j.nb, .int .i64 x.j.nc, .int .i64 x.j.la, .int .i64 x.j.lb, .int .i64 x.j.lc, .int .i64 x.j.wl, .int .i64 x.j.lv, .int .i64 x.n, .int .i64 x.a, .int .i64 x.b, .int .i64 x.c], .bool tb]) ∧ Below W.heap.size W w') := ht
  rw [h1] at hd
  have HD : Hid (∀ W, StT W → _) := hd
  have HS : Hid (StT w) := hs
  have HW : Hid (KwT w) := hk
  have HE : Hid (Env w) := env
  clear h1 hs env hl hk hd ht hrl hx
  go_enter Tryz.func19, Tryz.ntmps19
  go_wp2_with fail
  have HR : Hid (Row (w.alloc (.cells #[.int .i64 0, .int .i64 0, .int .i64 0, .int .i64 0, .int .i64 0, .int .i64 0, .int .i64 0, .int .i64 0, .int .i64 0, .int .i64 0, .int .i64 0, .int .i64 0, .int .i64 0, .int .i64 0, .int .i64 0, .int .i64 0, .int .i64 0, .int .i64 0] 30)) w.heap.size [.int .i64 0, .int .i64 0, .int .i64 0, .int .i64 0, .int .i64 0, .int .i64 0, .int .i64 0, .int .i64 0, .int .i64 0, .int .i64 0, .int .i64 0, .int .i64 0, .int .i64 0, .int .i64 0, .int .i64 0, .int .i64 0, .int .i64 0, .int .i64 0]) := row_fresh w [.int .i64 0, .int .i64 0, .int .i64 0, .int .i64 0, .int .i64 0, .int .i64 0, .int .i64 0, .int .i64 0, .int .i64 0, .int .i64 0, .int .i64 0, .int .i64 0, .int .i64 0, .int .i64 0, .int .i64 0, .int .i64 0, .int .i64 0, .int .i64 0] 30
  have HB : Hid (Below w.heap.size w (w.alloc (.cells #[.int .i64 0, .int .i64 0, .int .i64 0, .int .i64 0, .int .i64 0, .int .i64 0, .int .i64 0, .int .i64 0, .int .i64 0, .int .i64 0, .int .i64 0, .int .i64 0, .int .i64 0, .int .i64 0, .int .i64 0, .int .i64 0, .int .i64 0, .int .i64 0] 30))) := low_alloc _ _
  generalize w.alloc (.cells #[.int .i64 0, .int .i64 0, .int .i64 0, .int .i64 0, .int .i64 0, .int .i64 0, .int .i64 0, .int .i64 0, .int .i64 0, .int .i64 0, .int .i64 0, .int .i64 0, .int .i64 0, .int .i64 0, .int .i64 0, .int .i64 0, .int .i64 0, .int .i64 0] 30) = u0 at HR HB ⊢
  refine (HC.out _ (HE.out.on HB.out).2.2).mono ?_
  rintro e w1 ⟨rfl, hb⟩
  replace HR : Hid (Row w1 w.heap.size [.int .i64 0, .int .i64 0, .int .i64 0, .int .i64 0, .int .i64 0, .int .i64 0, .int .i64 0, .int .i64 0, .int .i64 0, .int .i64 0, .int .i64 0, .int .i64 0, .int .i64 0, .int .i64 0, .int .i64 0, .int .i64 0, .int .i64 0, .int .i64 0]) := HR.out.below hb
  replace HB : Hid (Below w.heap.size w w1) := below_then HB.out hb
  clear hb HC
  go_wp2_with fail
  refine (HD.out _ (HS.out.on HB.out)).mono ?_
  rintro e w2 ⟨rfl, hb⟩
  replace HR : Hid (Row w2 w.heap.size [.int .i64 0, .int .i64 0, .int .i64 0, .int .i64 0, .int .i64 0, .int .i64 0, .int .i64 0, .int .i64 0, .int .i64 0, .int .i64 0, .int .i64 0, .int .i64 0, .int .i64 0, .int .i64 0, .int .i64 0, .int .i64 0, .int .i64 0, .int .i64 0]) := HR.out.below hb
  replace HB : Hid (Below w.heap.size w w2) := below_then HB.out hb
  clear hb HD
  go_wp2_with fail
  have HJ : Hid (Row (w2.alloc (.cells #[.int .i64 1, .int .i64 0, .int .i64 0, .int .i64 0, .int .i64 0, .int .i64 0, .int .i64 0, .int .i64 0, .int .i64 0, .int .i64 0, .int .i64 0, .int .i64 0, .int .i64 0, .int .i64 0, .int .i64 0, .int .i64 0, .int .i64 0, .int .i64 0] 30)) w2.heap.size [.int .i64 1, .int .i64 0, .int .i64 0, .int .i64 0, .int .i64 0, .int .i64 0, .int .i64 0, .int .i64 0, .int .i64 0, .int .i64 0, .int .i64 0, .int .i64 0, .int .i64 0, .int .i64 0, .int .i64 0, .int .i64 0, .int .i64 0, .int .i64 0]) := row_fresh w2 [.int .i64 1, .int .i64 0, .int .i64 0, .int .i64 0, .int .i64 0, .int .i64 0, .int .i64 0, .int .i64 0, .int .i64 0, .int .i64 0, .int .i64 0, .int .i64 0, .int .i64 0, .int .i64 0, .int .i64 0, .int .i64 0, .int .i64 0, .int .i64 0] 30
  have hq : w.heap.size < w2.heap.size := HR.out.lt
  replace HR : Hid (Row (w2.alloc (.cells #[.int .i64 1, .int .i64 0, .int .i64 0, .int .i64 0, .int .i64 0, .int .i64 0, .int .i64 0, .int .i64 0, .int .i64 0, .int .i64 0, .int .i64 0, .int .i64 0, .int .i64 0, .int .i64 0, .int .i64 0, .int .i64 0, .int .i64 0, .int .i64 0] 30)) w.heap.size [.int .i64 0, .int .i64 0, .int .i64 0, .int .i64 0, .int .i64 0, .int .i64 0, .int .i64 0, .int .i64 0, .int .i64 0, .int .i64 0, .int .i64 0, .int .i64 0, .int .i64 0, .int .i64 0, .int .i64 0, .int .i64 0, .int .i64 0, .int .i64 0]) := HR.out.below (low_alloc _ _)
  replace HB : Hid (Below w.heap.size w (w2.alloc (.cells #[.int .i64 1, .int .i64 0, .int .i64 0, .int .i64 0, .int .i64 0, .int .i64 0, .int .i64 0, .int .i64 0, .int .i64 0, .int .i64 0, .int .i64 0, .int .i64 0, .int .i64 0, .int .i64 0, .int .i64 0, .int .i64 0, .int .i64 0, .int .i64 0] 30))) := behind_alloc HB.out _
  generalize w2.alloc (.cells #[.int .i64 1, .int .i64 0, .int .i64 0, .int .i64 0, .int .i64 0, .int .i64 0, .int .i64 0, .int .i64 0, .int .i64 0, .int .i64 0, .int .i64 0, .int .i64 0, .int .i64 0, .int .i64 0, .int .i64 0, .int .i64 0, .int .i64 0, .int .i64 0] 30) = u3 at HR HB HJ ⊢
  generalize w2.heap.size = q at HJ hq ⊢
  have hne : ¬ w.heap.size = q := by omega
  refine (HT.out _ (HW.out.on HB.out) (HE.out.on HB.out)).mono ?_
  rintro e w4 ⟨rfl, hb⟩
  replace HR : Hid (Row w4 w.heap.size [.int .i64 0, .int .i64 0, .int .i64 0, .int .i64 0, .int .i64 0, .int .i64 0, .int .i64 0, .int .i64 0, .int .i64 0, .int .i64 0, .int .i64 0, .int .i64 0, .int .i64 0, .int .i64 0, .int .i64 0, .int .i64 0, .int .i64 0, .int .i64 0]) := HR.out.below hb
  replace HB : Hid (Below w.heap.size w w4) := below_then HB.out hb
  replace HJ : Hid (Row w4 q [.int .i64 1, .int .i64 0, .int .i64 0, .int .i64 0, .int .i64 0, .int .i64 0, .int .i64 0, .int .i64 0, .int .i64 0, .int .i64 0, .int .i64 0, .int .i64 0, .int .i64 0, .int .i64 0, .int .i64 0, .int .i64 0, .int .i64 0, .int .i64 0]) := HJ.out.below hb
  clear hb HT
  go_wp2_with (refine stay_store 28 ?_)
  refine ⟨?_⟩
  refine wpList_store_mid rfl 28 _ _ rfl q 1 (#[.int .i64 x.s, .int .i64 x.j.id, .int .i64 x.j.pr, .int .i64 x.j.nd, .int .i64 x.j.na, .int .i64 x.j.nb, .int .i64 x.j.nc, .int .i64 x.j.la, .int .i64 x.j.lb, .int .i64 x.j.lc, .int .i64 x.j.wl, .int .i64 x.j.lv, .int .i64 x.n, .int .i64 x.a, .int .i64 x.b, .int .i64 x.c]) rfl rfl (HJ.out.room 1 16 (by simp)) szCmdC (by simp [Value.oneCell']) ?_
  replace HJ : Hid (Row (w4.setCells q 1 (#[.int .i64 x.s, .int .i64 x.j.id, .int .i64 x.j.pr, .int .i64 x.j.nd, .int .i64 x.j.na, .int .i64 x.j.nb, .int .i64 x.j.nc, .int .i64 x.j.la, .int .i64 x.j.lb, .int .i64 x.j.lc, .int .i64 x.j.wl, .int .i64 x.j.lv, .int .i64 x.n, .int .i64 x.a, .int .i64 x.b, .int .i64 x.c] : Array Value).toList) q [.int .i64 1, .int .i64 x.s, .int .i64 x.j.id, .int .i64 x.j.pr, .int .i64 x.j.nd, .int .i64 x.j.na, .int .i64 x.j.nb, .int .i64 x.j.nc, .int .i64 x.j.la, .int .i64 x.j.lb, .int .i64 x.j.lc, .int .i64 x.j.wl, .int .i64 x.j.lv, .int .i64 x.n, .int .i64 x.a, .int .i64 x.b, .int .i64 x.c, .int .i64 0]) := Row.setCs _ 1 HJ.out (by simp)
  replace HR : Hid (Row (w4.setCells q 1 (#[.int .i64 x.s, .int .i64 x.j.id, .int .i64 x.j.pr, .int .i64 x.j.nd, .int .i64 x.j.na, .int .i64 x.j.nb, .int .i64 x.j.nc, .int .i64 x.j.la, .int .i64 x.j.lb, .int .i64 x.j.lc, .int .i64 x.j.wl, .int .i64 x.j.lv, .int .i64 x.n, .int .i64 x.a, .int .i64 x.b, .int .i64 x.c] : Array Value).toList) w.heap.size [.int .i64 0, .int .i64 0, .int .i64 0, .int .i64 0, .int .i64 0, .int .i64 0, .int .i64 0, .int .i64 0, .int .i64 0, .int .i64 0, .int .i64 0, .int .i64 0, .int .i64 0, .int .i64 0, .int .i64 0, .int .i64 0, .int .i64 0, .int .i64 0]) := HR.out.apartCs hne _ 1
  replace HB : Hid (Below w.heap.size w (w4.setCells q 1 (#[.int .i64 x.s, .int .i64 x.j.id, .int .i64 x.j.pr, .int .i64 x.j.nd, .int .i64 x.j.na, .int .i64 x.j.nb, .int .i64 x.j.nc, .int .i64 x.j.la, .int .i64 x.j.lb, .int .i64 x.j.lc, .int .i64 x.j.wl, .int .i64 x.j.lv, .int .i64 x.n, .int .i64 x.a, .int .i64 x.b, .int .i64 x.c] : Array Value).toList)) := below_setCs (by omega) _ _ HB.out
  generalize w4.setCells q 1 _ = u5 at HR HB HJ ⊢
  go_wp2_with (refine stay_load 30 ?_)
  refine ⟨?_⟩
  refine wpList_load_mid rfl 30 _ rfl q 0 rfl [.int .i64 1, .int .i64 x.s, .int .i64 x.j.id, .int .i64 x.j.pr, .int .i64 x.j.nd, .int .i64 x.j.na, .int .i64 x.j.nb, .int .i64 x.j.nc, .int .i64 x.j.la, .int .i64 x.j.lb, .int .i64 x.j.lc, .int .i64 x.j.wl, .int .i64 x.j.lv, .int .i64 x.n, .int .i64 x.a, .int .i64 x.b, .int .i64 x.c, .int .i64 0] _ HJ.out.all Tryz.underlying30 rfl szStep ?_
  go_wp2_with (refine stay_store 30 ?_)
  refine ⟨?_⟩
  refine wpList_store_mid rfl 30 _ _ rfl w.heap.size 0 (#[.int .i64 1, .int .i64 x.s, .int .i64 x.j.id, .int .i64 x.j.pr, .int .i64 x.j.nd, .int .i64 x.j.na, .int .i64 x.j.nb, .int .i64 x.j.nc, .int .i64 x.j.la, .int .i64 x.j.lb, .int .i64 x.j.lc, .int .i64 x.j.wl, .int .i64 x.j.lv, .int .i64 x.n, .int .i64 x.a, .int .i64 x.b, .int .i64 x.c, .int .i64 0]) rfl rfl (HR.out.room 0 18 (by simp)) szStep (by simp [Value.oneCell']) ?_
  replace HR : Hid (Row (u5.setCells w.heap.size 0 (#[.int .i64 1, .int .i64 x.s, .int .i64 x.j.id, .int .i64 x.j.pr, .int .i64 x.j.nd, .int .i64 x.j.na, .int .i64 x.j.nb, .int .i64 x.j.nc, .int .i64 x.j.la, .int .i64 x.j.lb, .int .i64 x.j.lc, .int .i64 x.j.wl, .int .i64 x.j.lv, .int .i64 x.n, .int .i64 x.a, .int .i64 x.b, .int .i64 x.c, .int .i64 0] : Array Value).toList) w.heap.size [.int .i64 1, .int .i64 x.s, .int .i64 x.j.id, .int .i64 x.j.pr, .int .i64 x.j.nd, .int .i64 x.j.na, .int .i64 x.j.nb, .int .i64 x.j.nc, .int .i64 x.j.la, .int .i64 x.j.lb, .int .i64 x.j.lc, .int .i64 x.j.wl, .int .i64 x.j.lv, .int .i64 x.n, .int .i64 x.a, .int .i64 x.b, .int .i64 x.c, .int .i64 0]) := Row.setCs _ 0 HR.out (by simp)
  replace HB : Hid (Below w.heap.size w (u5.setCells w.heap.size 0 (#[.int .i64 1, .int .i64 x.s, .int .i64 x.j.id, .int .i64 x.j.pr, .int .i64 x.j.nd, .int .i64 x.j.na, .int .i64 x.j.nb, .int .i64 x.j.nc, .int .i64 x.j.la, .int .i64 x.j.lb, .int .i64 x.j.lc, .int .i64 x.j.wl, .int .i64 x.j.lv, .int .i64 x.n, .int .i64 x.a, .int .i64 x.b, .int .i64 x.c, .int .i64 0] : Array Value).toList)) := below_setCs (Nat.le_refl _) _ _ HB.out
  generalize u5.setCells w.heap.size 0 _ = u8 at HR HB ⊢
  clear HJ
  go_wp2_with fail
  have hv := run_loadVar_mid (P := Tryz.prog) u8 w.heap.size 0 30 [.int .i64 1, .int .i64 x.s, .int .i64 x.j.id, .int .i64 x.j.pr, .int .i64 x.j.nd, .int .i64 x.j.na, .int .i64 x.j.nb, .int .i64 x.j.nc, .int .i64 x.j.la, .int .i64 x.j.lb, .int .i64 x.j.lc, .int .i64 x.j.wl, .int .i64 x.j.lv, .int .i64 x.n, .int .i64 x.a, .int .i64 x.b, .int .i64 x.c, .int .i64 0] _ HR.out.all Tryz.underlying30 rfl szStep
  exact bodyPost_ret (v := .agg #[.int .i64 1, .int .i64 x.s, .int .i64 x.j.id, .int .i64 x.j.pr, .int .i64 x.j.nd, .int .i64 x.j.na, .int .i64 x.j.nb, .int .i64 x.j.nc, .int .i64 x.j.la, .int .i64 x.j.lb, .int .i64 x.j.lc, .int .i64 x.j.wl, .int .i64 x.j.lv, .int .i64 x.n, .int .i64 x.a, .int .i64 x.b, .int .i64 x.c, .int .i64 0]) (results_one Tryz.results19 rfl hv) rfl ⟨rfl, HB.out⟩
set_option maxHeartbeats 4000000 in
set_option maxRecDepth 100000 in
theorem readStep_2 (l : List UInt8) (hl : l.length ≤ 1048576) (w : World) (hs : StT w) (hk : KwT w) (env : Env w) (h1 : sdN (Lib.cut l [32]).1 = 2) (x : Cm) (hx : (tcR (Lib.cut (Lib.cut l [32]).2.1 [32]).2.1).1 = x) (p : Int) (hp : (tnR (Lib.cut (Lib.cut l [32]).2.1 [32]).1).1 = p) :
    Calls Tryz.prog 19 #[.string ⟨l.toArray⟩] w fun e w' => e = .returned (.agg #[.int .i64 2, .int .i64 x.s, .int .i64 x.j.id, .int .i64 x.j.pr, .int .i64 x.j.nd, .int .i64 x.j.na, .int .i64 x.j.nb, .int .i64 x.j.nc, .int .i64 x.j.la, .int .i64 x.j.lb, .int .i64 x.j.lc, .int .i64 x.j.wl, .int .i64 x.j.lv, .int .i64 x.n, .int .i64 x.a, .int .i64 x.b, .int .i64 x.c, .int .i64 p]) ∧ Below w.heap.size w w' := by
  have HC : Hid (∀ W, MaxL W → _) := fun W hW => cut_c l hl W hW
  have hd := fun W hW => stepKindOf_c (Lib.cut l [32]).1 W hW
  have hrl := (cut_len 32 l).2
  generalize (Lib.cut l [32]).1 = wd at h1 HC hd ⊢
  generalize (Lib.cut l [32]).2.1 = rs at HC hrl hx hp
  generalize (Lib.cut l [32]).2.2 = fd at HC
  have HC2 : Hid (∀ W, MaxL W → _) := fun W hW => cut_c rs (by omega) W hW
  have hr2 := cut_len 32 rs
  generalize (Lib.cut rs [32]).1 = kw at HC2 hr2 hp
  generalize (Lib.cut rs [32]).2.1 = cw at HC2 hr2 hx
  generalize (Lib.cut rs [32]).2.2 = fd2 at HC2
  have ht := fun W hk he => implTextCmd_c ⟨cw.toArray⟩ (by simp [ByteArray.size]; omega) W hk he
  simp only [hx] at ht
  generalize (tcR cw).2 = tb at ht
  have HT : Hid (∀ W : World, KwT W → Env W → Calls Tryz.prog 38 #[.string ⟨cw.toArray⟩] W fun e w' => e = .returned (.tuple #[.agg #[.int .i64 x.s, .int .i64 x.j.id, .int .i64 x.j.pr, .int .i64 x.j.nd, .int .i64 x.j.na, .int .i64 x.j.nb, .int .i64 x.j.nc, .int .i64 x.j.la, .int .i64 x.j.lb, .int .i64 x.j.lc, .int .i64 x.j.wl, .int .i64 x.j.lv, .int .i64 x.n, .int .i64 x.a, .int .i64 x.b, .int .i64 x.c], .bool tb]) ∧ Below W.heap.size W w') := ht
  have hn := fun W (hW : Env W) => implTextNum_p kw W (by rw [ba_size]; omega) hW.1 hW.2.1
  rw [hp] at hn
  generalize (tnR kw).2 = nb at hn
  have HN : Hid (∀ W : World, Env W → Calls Tryz.prog 39 #[.string ⟨kw.toArray⟩] W fun e w' => e = .returned (.tuple #[.int .i64 p, .bool nb]) ∧ Below W.heap.size W w') := hn
  clear hn hr2 hp
  rw [h1] at hd
  have HD : Hid (∀ W, StT W → _) := hd
  have HS : Hid (StT w) := hs
  have HW : Hid (KwT w) := hk
  have HE : Hid (Env w) := env
  clear h1 hs env hl hk hd ht hrl hx
  go_enter Tryz.func19, Tryz.ntmps19
  go_wp2_with fail
  have HR : Hid (Row (w.alloc (.cells #[.int .i64 0, .int .i64 0, .int .i64 0, .int .i64 0, .int .i64 0, .int .i64 0, .int .i64 0, .int .i64 0, .int .i64 0, .int .i64 0, .int .i64 0, .int .i64 0, .int .i64 0, .int .i64 0, .int .i64 0, .int .i64 0, .int .i64 0, .int .i64 0] 30)) w.heap.size [.int .i64 0, .int .i64 0, .int .i64 0, .int .i64 0, .int .i64 0, .int .i64 0, .int .i64 0, .int .i64 0, .int .i64 0, .int .i64 0, .int .i64 0, .int .i64 0, .int .i64 0, .int .i64 0, .int .i64 0, .int .i64 0, .int .i64 0, .int .i64 0]) := row_fresh w [.int .i64 0, .int .i64 0, .int .i64 0, .int .i64 0, .int .i64 0, .int .i64 0, .int .i64 0, .int .i64 0, .int .i64 0, .int .i64 0, .int .i64 0, .int .i64 0, .int .i64 0, .int .i64 0, .int .i64 0, .int .i64 0, .int .i64 0, .int .i64 0] 30
  have HB : Hid (Below w.heap.size w (w.alloc (.cells #[.int .i64 0, .int .i64 0, .int .i64 0, .int .i64 0, .int .i64 0, .int .i64 0, .int .i64 0, .int .i64 0, .int .i64 0, .int .i64 0, .int .i64 0, .int .i64 0, .int .i64 0, .int .i64 0, .int .i64 0, .int .i64 0, .int .i64 0, .int .i64 0] 30))) := low_alloc _ _
  generalize w.alloc (.cells #[.int .i64 0, .int .i64 0, .int .i64 0, .int .i64 0, .int .i64 0, .int .i64 0, .int .i64 0, .int .i64 0, .int .i64 0, .int .i64 0, .int .i64 0, .int .i64 0, .int .i64 0, .int .i64 0, .int .i64 0, .int .i64 0, .int .i64 0, .int .i64 0] 30) = u0 at HR HB ⊢
  refine (HC.out _ (HE.out.on HB.out).2.2).mono ?_
  rintro e w1 ⟨rfl, hb⟩
  replace HR : Hid (Row w1 w.heap.size [.int .i64 0, .int .i64 0, .int .i64 0, .int .i64 0, .int .i64 0, .int .i64 0, .int .i64 0, .int .i64 0, .int .i64 0, .int .i64 0, .int .i64 0, .int .i64 0, .int .i64 0, .int .i64 0, .int .i64 0, .int .i64 0, .int .i64 0, .int .i64 0]) := HR.out.below hb
  replace HB : Hid (Below w.heap.size w w1) := below_then HB.out hb
  clear hb HC
  go_wp2_with fail
  refine (HD.out _ (HS.out.on HB.out)).mono ?_
  rintro e w2 ⟨rfl, hb⟩
  replace HR : Hid (Row w2 w.heap.size [.int .i64 0, .int .i64 0, .int .i64 0, .int .i64 0, .int .i64 0, .int .i64 0, .int .i64 0, .int .i64 0, .int .i64 0, .int .i64 0, .int .i64 0, .int .i64 0, .int .i64 0, .int .i64 0, .int .i64 0, .int .i64 0, .int .i64 0, .int .i64 0]) := HR.out.below hb
  replace HB : Hid (Below w.heap.size w w2) := below_then HB.out hb
  clear hb HD
  go_wp2_with fail
  have HJ : Hid (Row (w2.alloc (.cells #[.int .i64 2, .int .i64 0, .int .i64 0, .int .i64 0, .int .i64 0, .int .i64 0, .int .i64 0, .int .i64 0, .int .i64 0, .int .i64 0, .int .i64 0, .int .i64 0, .int .i64 0, .int .i64 0, .int .i64 0, .int .i64 0, .int .i64 0, .int .i64 0] 30)) w2.heap.size [.int .i64 2, .int .i64 0, .int .i64 0, .int .i64 0, .int .i64 0, .int .i64 0, .int .i64 0, .int .i64 0, .int .i64 0, .int .i64 0, .int .i64 0, .int .i64 0, .int .i64 0, .int .i64 0, .int .i64 0, .int .i64 0, .int .i64 0, .int .i64 0]) := row_fresh w2 [.int .i64 2, .int .i64 0, .int .i64 0, .int .i64 0, .int .i64 0, .int .i64 0, .int .i64 0, .int .i64 0, .int .i64 0, .int .i64 0, .int .i64 0, .int .i64 0, .int .i64 0, .int .i64 0, .int .i64 0, .int .i64 0, .int .i64 0, .int .i64 0] 30
  have hq : w.heap.size < w2.heap.size := HR.out.lt
  replace HR : Hid (Row (w2.alloc (.cells #[.int .i64 2, .int .i64 0, .int .i64 0, .int .i64 0, .int .i64 0, .int .i64 0, .int .i64 0, .int .i64 0, .int .i64 0, .int .i64 0, .int .i64 0, .int .i64 0, .int .i64 0, .int .i64 0, .int .i64 0, .int .i64 0, .int .i64 0, .int .i64 0] 30)) w.heap.size [.int .i64 0, .int .i64 0, .int .i64 0, .int .i64 0, .int .i64 0, .int .i64 0, .int .i64 0, .int .i64 0, .int .i64 0, .int .i64 0, .int .i64 0, .int .i64 0, .int .i64 0, .int .i64 0, .int .i64 0, .int .i64 0, .int .i64 0, .int .i64 0]) := HR.out.below (low_alloc _ _)
  replace HB : Hid (Below w.heap.size w (w2.alloc (.cells #[.int .i64 2, .int .i64 0, .int .i64 0, .int .i64 0, .int .i64 0, .int .i64 0, .int .i64 0, .int .i64 0, .int .i64 0, .int .i64 0, .int .i64 0, .int .i64 0, .int .i64 0, .int .i64 0, .int .i64 0, .int .i64 0, .int .i64 0, .int .i64 0] 30))) := behind_alloc HB.out _
  generalize w2.alloc (.cells #[.int .i64 2, .int .i64 0, .int .i64 0, .int .i64 0, .int .i64 0, .int .i64 0, .int .i64 0, .int .i64 0, .int .i64 0, .int .i64 0, .int .i64 0, .int .i64 0, .int .i64 0, .int .i64 0, .int .i64 0, .int .i64 0, .int .i64 0, .int .i64 0] 30) = u3 at HR HB HJ ⊢
  generalize w2.heap.size = q at HJ hq ⊢
  have hne : ¬ w.heap.size = q := by omega
  refine (HC2.out _ (HE.out.on HB.out).2.2).mono ?_
  rintro e v1 ⟨rfl, hb⟩
  replace HR : Hid (Row v1 w.heap.size [.int .i64 0, .int .i64 0, .int .i64 0, .int .i64 0, .int .i64 0, .int .i64 0, .int .i64 0, .int .i64 0, .int .i64 0, .int .i64 0, .int .i64 0, .int .i64 0, .int .i64 0, .int .i64 0, .int .i64 0, .int .i64 0, .int .i64 0, .int .i64 0]) := HR.out.below hb
  replace HB : Hid (Below w.heap.size w v1) := below_then HB.out hb
  replace HJ : Hid (Row v1 q [.int .i64 2, .int .i64 0, .int .i64 0, .int .i64 0, .int .i64 0, .int .i64 0, .int .i64 0, .int .i64 0, .int .i64 0, .int .i64 0, .int .i64 0, .int .i64 0, .int .i64 0, .int .i64 0, .int .i64 0, .int .i64 0, .int .i64 0, .int .i64 0]) := HJ.out.below hb
  clear hb HC2
  go_wp2_with fail
  refine (HN.out _ (HE.out.on HB.out)).mono ?_
  rintro e v2 ⟨rfl, hb⟩
  replace HR : Hid (Row v2 w.heap.size [.int .i64 0, .int .i64 0, .int .i64 0, .int .i64 0, .int .i64 0, .int .i64 0, .int .i64 0, .int .i64 0, .int .i64 0, .int .i64 0, .int .i64 0, .int .i64 0, .int .i64 0, .int .i64 0, .int .i64 0, .int .i64 0, .int .i64 0, .int .i64 0]) := HR.out.below hb
  replace HB : Hid (Below w.heap.size w v2) := below_then HB.out hb
  replace HJ : Hid (Row v2 q [.int .i64 2, .int .i64 0, .int .i64 0, .int .i64 0, .int .i64 0, .int .i64 0, .int .i64 0, .int .i64 0, .int .i64 0, .int .i64 0, .int .i64 0, .int .i64 0, .int .i64 0, .int .i64 0, .int .i64 0, .int .i64 0, .int .i64 0, .int .i64 0]) := HJ.out.below hb
  clear hb HN
  have dd := HJ.out.cell 17 _ rfl
  have ff := HJ.out.free 17
  go_wp2_with fail
  clear dd ff
  replace HJ : Hid (Row (v2.setCell ⟨q, 17, none⟩ (.int .i64 p)) q [.int .i64 2, .int .i64 0, .int .i64 0, .int .i64 0, .int .i64 0, .int .i64 0, .int .i64 0, .int .i64 0, .int .i64 0, .int .i64 0, .int .i64 0, .int .i64 0, .int .i64 0, .int .i64 0, .int .i64 0, .int .i64 0, .int .i64 0, .int .i64 p]) := HJ.out.set 17 (by simp) _
  replace HR : Hid (Row (v2.setCell ⟨q, 17, none⟩ (.int .i64 p)) w.heap.size [.int .i64 0, .int .i64 0, .int .i64 0, .int .i64 0, .int .i64 0, .int .i64 0, .int .i64 0, .int .i64 0, .int .i64 0, .int .i64 0, .int .i64 0, .int .i64 0, .int .i64 0, .int .i64 0, .int .i64 0, .int .i64 0, .int .i64 0, .int .i64 0]) := HR.out.apart q 17 _ hne
  replace HB : Hid (Below w.heap.size w (v2.setCell ⟨q, 17, none⟩ (.int .i64 p))) := HB.out.setCell (by show w.heap.size ≤ q; omega) _
  generalize v2.setCell ⟨q, 17, none⟩ (.int .i64 p) = v3 at HR HB HJ ⊢
  refine (HT.out _ (HW.out.on HB.out) (HE.out.on HB.out)).mono ?_
  rintro e w4 ⟨rfl, hb⟩
  replace HR : Hid (Row w4 w.heap.size [.int .i64 0, .int .i64 0, .int .i64 0, .int .i64 0, .int .i64 0, .int .i64 0, .int .i64 0, .int .i64 0, .int .i64 0, .int .i64 0, .int .i64 0, .int .i64 0, .int .i64 0, .int .i64 0, .int .i64 0, .int .i64 0, .int .i64 0, .int .i64 0]) := HR.out.below hb
  replace HB : Hid (Below w.heap.size w w4) := below_then HB.out hb
  replace HJ : Hid (Row w4 q [.int .i64 2, .int .i64 0, .int .i64 0, .int .i64 0, .int .i64 0, .int .i64 0, .int .i64 0, .int .i64 0, .int .i64 0, .int .i64 0, .int .i64 0, .int .i64 0, .int .i64 0, .int .i64 0, .int .i64 0, .int .i64 0, .int .i64 0, .int .i64 p]) := HJ.out.below hb
  clear hb HT
  go_wp2_with (refine stay_store 28 ?_)
  refine ⟨?_⟩
  refine wpList_store_mid rfl 28 _ _ rfl q 1 (#[.int .i64 x.s, .int .i64 x.j.id, .int .i64 x.j.pr, .int .i64 x.j.nd, .int .i64 x.j.na, .int .i64 x.j.nb, .int .i64 x.j.nc, .int .i64 x.j.la, .int .i64 x.j.lb, .int .i64 x.j.lc, .int .i64 x.j.wl, .int .i64 x.j.lv, .int .i64 x.n, .int .i64 x.a, .int .i64 x.b, .int .i64 x.c]) rfl rfl (HJ.out.room 1 16 (by simp)) szCmdC (by simp [Value.oneCell']) ?_
  replace HJ : Hid (Row (w4.setCells q 1 (#[.int .i64 x.s, .int .i64 x.j.id, .int .i64 x.j.pr, .int .i64 x.j.nd, .int .i64 x.j.na, .int .i64 x.j.nb, .int .i64 x.j.nc, .int .i64 x.j.la, .int .i64 x.j.lb, .int .i64 x.j.lc, .int .i64 x.j.wl, .int .i64 x.j.lv, .int .i64 x.n, .int .i64 x.a, .int .i64 x.b, .int .i64 x.c] : Array Value).toList) q [.int .i64 2, .int .i64 x.s, .int .i64 x.j.id, .int .i64 x.j.pr, .int .i64 x.j.nd, .int .i64 x.j.na, .int .i64 x.j.nb, .int .i64 x.j.nc, .int .i64 x.j.la, .int .i64 x.j.lb, .int .i64 x.j.lc, .int .i64 x.j.wl, .int .i64 x.j.lv, .int .i64 x.n, .int .i64 x.a, .int .i64 x.b, .int .i64 x.c, .int .i64 p]) := Row.setCs _ 1 HJ.out (by simp)
  replace HR : Hid (Row (w4.setCells q 1 (#[.int .i64 x.s, .int .i64 x.j.id, .int .i64 x.j.pr, .int .i64 x.j.nd, .int .i64 x.j.na, .int .i64 x.j.nb, .int .i64 x.j.nc, .int .i64 x.j.la, .int .i64 x.j.lb, .int .i64 x.j.lc, .int .i64 x.j.wl, .int .i64 x.j.lv, .int .i64 x.n, .int .i64 x.a, .int .i64 x.b, .int .i64 x.c] : Array Value).toList) w.heap.size [.int .i64 0, .int .i64 0, .int .i64 0, .int .i64 0, .int .i64 0, .int .i64 0, .int .i64 0, .int .i64 0, .int .i64 0, .int .i64 0, .int .i64 0, .int .i64 0, .int .i64 0, .int .i64 0, .int .i64 0, .int .i64 0, .int .i64 0, .int .i64 0]) := HR.out.apartCs hne _ 1
  replace HB : Hid (Below w.heap.size w (w4.setCells q 1 (#[.int .i64 x.s, .int .i64 x.j.id, .int .i64 x.j.pr, .int .i64 x.j.nd, .int .i64 x.j.na, .int .i64 x.j.nb, .int .i64 x.j.nc, .int .i64 x.j.la, .int .i64 x.j.lb, .int .i64 x.j.lc, .int .i64 x.j.wl, .int .i64 x.j.lv, .int .i64 x.n, .int .i64 x.a, .int .i64 x.b, .int .i64 x.c] : Array Value).toList)) := below_setCs (by omega) _ _ HB.out
  generalize w4.setCells q 1 _ = u5 at HR HB HJ ⊢
  go_wp2_with (refine stay_load 30 ?_)
  refine ⟨?_⟩
  refine wpList_load_mid rfl 30 _ rfl q 0 rfl [.int .i64 2, .int .i64 x.s, .int .i64 x.j.id, .int .i64 x.j.pr, .int .i64 x.j.nd, .int .i64 x.j.na, .int .i64 x.j.nb, .int .i64 x.j.nc, .int .i64 x.j.la, .int .i64 x.j.lb, .int .i64 x.j.lc, .int .i64 x.j.wl, .int .i64 x.j.lv, .int .i64 x.n, .int .i64 x.a, .int .i64 x.b, .int .i64 x.c, .int .i64 p] _ HJ.out.all Tryz.underlying30 rfl szStep ?_
  go_wp2_with (refine stay_store 30 ?_)
  refine ⟨?_⟩
  refine wpList_store_mid rfl 30 _ _ rfl w.heap.size 0 (#[.int .i64 2, .int .i64 x.s, .int .i64 x.j.id, .int .i64 x.j.pr, .int .i64 x.j.nd, .int .i64 x.j.na, .int .i64 x.j.nb, .int .i64 x.j.nc, .int .i64 x.j.la, .int .i64 x.j.lb, .int .i64 x.j.lc, .int .i64 x.j.wl, .int .i64 x.j.lv, .int .i64 x.n, .int .i64 x.a, .int .i64 x.b, .int .i64 x.c, .int .i64 p]) rfl rfl (HR.out.room 0 18 (by simp)) szStep (by simp [Value.oneCell']) ?_
  replace HR : Hid (Row (u5.setCells w.heap.size 0 (#[.int .i64 2, .int .i64 x.s, .int .i64 x.j.id, .int .i64 x.j.pr, .int .i64 x.j.nd, .int .i64 x.j.na, .int .i64 x.j.nb, .int .i64 x.j.nc, .int .i64 x.j.la, .int .i64 x.j.lb, .int .i64 x.j.lc, .int .i64 x.j.wl, .int .i64 x.j.lv, .int .i64 x.n, .int .i64 x.a, .int .i64 x.b, .int .i64 x.c, .int .i64 p] : Array Value).toList) w.heap.size [.int .i64 2, .int .i64 x.s, .int .i64 x.j.id, .int .i64 x.j.pr, .int .i64 x.j.nd, .int .i64 x.j.na, .int .i64 x.j.nb, .int .i64 x.j.nc, .int .i64 x.j.la, .int .i64 x.j.lb, .int .i64 x.j.lc, .int .i64 x.j.wl, .int .i64 x.j.lv, .int .i64 x.n, .int .i64 x.a, .int .i64 x.b, .int .i64 x.c, .int .i64 p]) := Row.setCs _ 0 HR.out (by simp)
  replace HB : Hid (Below w.heap.size w (u5.setCells w.heap.size 0 (#[.int .i64 2, .int .i64 x.s, .int .i64 x.j.id, .int .i64 x.j.pr, .int .i64 x.j.nd, .int .i64 x.j.na, .int .i64 x.j.nb, .int .i64 x.j.nc, .int .i64 x.j.la, .int .i64 x.j.lb, .int .i64 x.j.lc, .int .i64 x.j.wl, .int .i64 x.j.lv, .int .i64 x.n, .int .i64 x.a, .int .i64 x.b, .int .i64 x.c, .int .i64 p] : Array Value).toList)) := below_setCs (Nat.le_refl _) _ _ HB.out
  generalize u5.setCells w.heap.size 0 _ = u8 at HR HB ⊢
  clear HJ
  go_wp2_with fail
  have hv := run_loadVar_mid (P := Tryz.prog) u8 w.heap.size 0 30 [.int .i64 2, .int .i64 x.s, .int .i64 x.j.id, .int .i64 x.j.pr, .int .i64 x.j.nd, .int .i64 x.j.na, .int .i64 x.j.nb, .int .i64 x.j.nc, .int .i64 x.j.la, .int .i64 x.j.lb, .int .i64 x.j.lc, .int .i64 x.j.wl, .int .i64 x.j.lv, .int .i64 x.n, .int .i64 x.a, .int .i64 x.b, .int .i64 x.c, .int .i64 p] _ HR.out.all Tryz.underlying30 rfl szStep
  exact bodyPost_ret (v := .agg #[.int .i64 2, .int .i64 x.s, .int .i64 x.j.id, .int .i64 x.j.pr, .int .i64 x.j.nd, .int .i64 x.j.na, .int .i64 x.j.nb, .int .i64 x.j.nc, .int .i64 x.j.la, .int .i64 x.j.lb, .int .i64 x.j.lc, .int .i64 x.j.wl, .int .i64 x.j.lv, .int .i64 x.n, .int .i64 x.a, .int .i64 x.b, .int .i64 x.c, .int .i64 p]) (results_one Tryz.results19 rfl hv) rfl ⟨rfl, HB.out⟩

theorem readStep_c (l : List UInt8) (hl : l.length ≤ 1048576) (w : World) (hs : StT w) (hk : KwT w) (env : Env w) (k : Int) (x : Cm) (p : Int) (h : rdS l = ⟨k, x, p⟩) :
    Calls Tryz.prog 19 #[.string ⟨l.toArray⟩] w fun e w' => e = .returned (.agg #[.int .i64 k, .int .i64 x.s, .int .i64 x.j.id, .int .i64 x.j.pr, .int .i64 x.j.nd, .int .i64 x.j.na, .int .i64 x.j.nb, .int .i64 x.j.nc, .int .i64 x.j.la, .int .i64 x.j.lb, .int .i64 x.j.lc, .int .i64 x.j.wl, .int .i64 x.j.lv, .int .i64 x.n, .int .i64 x.a, .int .i64 x.b, .int .i64 x.c, .int .i64 p]) ∧ Below w.heap.size w w' := by
  unfold rdS at h
  by_cases h1 : sdN (Lib.cut l [32]).1 = 1
  · rw [if_pos h1] at h
    injection h with e1 e2 e3
    subst e1 e3
    exact readStep_1 l hl w hs hk env h1 x e2
  · rw [if_neg h1] at h
    by_cases h2 : sdN (Lib.cut l [32]).1 = 2
    · rw [if_pos h2] at h
      injection h with e1 e2 e3
      subst e1
      exact readStep_2 l hl w hs hk env h2 x e2 p e3
    · rw [if_neg h2] at h
      injection h with e1 e2 e3
      subst e1 e2 e3
      exact readStep_d l hl w hs env h1 h2
end Go.Proofs.YtejleghdgdbbnaaGreatDoor

namespace Go.Proofs.YtejleghdgdbbnaaGreatDoor
open Go.ChangeShapes Go.WideShapes Go.ChangeAt Go.RowKit

set_option maxHeartbeats 4000000 in
set_option maxRecDepth 100000 in
theorem implTextStep_no (l : List UInt8) (hl : l.length ≤ 1048576) (w : World) (hs : StT w) (hk : KwT w) (env : Env w) (k : Int) (x : Cm) (p : Int) (hr : rdS l = ⟨k, x, p⟩) (hok : stB k x p = false) :
    Calls Tryz.prog 8 #[.string ⟨l.toArray⟩] w fun e w' => e = .returned (.tuple #[.agg #[.int .i64 0, .int .i64 0, .int .i64 0, .int .i64 0, .int .i64 0, .int .i64 0, .int .i64 0, .int .i64 0, .int .i64 0, .int .i64 0, .int .i64 0, .int .i64 0, .int .i64 0, .int .i64 0, .int .i64 0, .int .i64 0, .int .i64 0, .int .i64 0], .bool false]) ∧ Below w.heap.size w w' := by
  have HRd : Hid (∀ W : World, StT W → KwT W → Env W → Calls Tryz.prog 19 #[.string ⟨l.toArray⟩] W fun e w' => e = .returned (.agg #[.int .i64 k, .int .i64 x.s, .int .i64 x.j.id, .int .i64 x.j.pr, .int .i64 x.j.nd, .int .i64 x.j.na, .int .i64 x.j.nb, .int .i64 x.j.nc, .int .i64 x.j.la, .int .i64 x.j.lb, .int .i64 x.j.lc, .int .i64 x.j.wl, .int .i64 x.j.lv, .int .i64 x.n, .int .i64 x.a, .int .i64 x.b, .int .i64 x.c, .int .i64 p]) ∧ Below W.heap.size W w') := fun W hs hk he => readStep_c l hl W hs hk he k x p hr
  have HOk : Hid (∀ W : World, Calls Tryz.prog 13 #[.agg #[.int .i64 k, .int .i64 x.s, .int .i64 x.j.id, .int .i64 x.j.pr, .int .i64 x.j.nd, .int .i64 x.j.na, .int .i64 x.j.nb, .int .i64 x.j.nc, .int .i64 x.j.la, .int .i64 x.j.lb, .int .i64 x.j.lc, .int .i64 x.j.wl, .int .i64 x.j.lv, .int .i64 x.n, .int .i64 x.a, .int .i64 x.b, .int .i64 x.c, .int .i64 p]] W fun e w' => e = .returned (.bool false) ∧ Below W.heap.size W w') := fun W => by have := implStepOk_c k x p W; rw [hok] at this; exact this
  have HS : Hid (StT w) := hs
  have HK : Hid (KwT w) := hk
  have HE : Hid (Env w) := env

  generalize (⟨l.toArray⟩ : ByteArray) = S at HRd ⊢
  clear hok hs hk env hr hl
  go_enter Tryz.func8, Tryz.ntmps8
  go_wp2_with fail
  have HR : Hid (Row (w.alloc (.cells #[.int .i64 0, .int .i64 0, .int .i64 0, .int .i64 0, .int .i64 0, .int .i64 0, .int .i64 0, .int .i64 0, .int .i64 0, .int .i64 0, .int .i64 0, .int .i64 0, .int .i64 0, .int .i64 0, .int .i64 0, .int .i64 0, .int .i64 0, .int .i64 0] 30)) w.heap.size [.int .i64 0, .int .i64 0, .int .i64 0, .int .i64 0, .int .i64 0, .int .i64 0, .int .i64 0, .int .i64 0, .int .i64 0, .int .i64 0, .int .i64 0, .int .i64 0, .int .i64 0, .int .i64 0, .int .i64 0, .int .i64 0, .int .i64 0, .int .i64 0]) := row_fresh w [.int .i64 0, .int .i64 0, .int .i64 0, .int .i64 0, .int .i64 0, .int .i64 0, .int .i64 0, .int .i64 0, .int .i64 0, .int .i64 0, .int .i64 0, .int .i64 0, .int .i64 0, .int .i64 0, .int .i64 0, .int .i64 0, .int .i64 0, .int .i64 0] 30
  have HB : Hid (Below w.heap.size w (w.alloc (.cells #[.int .i64 0, .int .i64 0, .int .i64 0, .int .i64 0, .int .i64 0, .int .i64 0, .int .i64 0, .int .i64 0, .int .i64 0, .int .i64 0, .int .i64 0, .int .i64 0, .int .i64 0, .int .i64 0, .int .i64 0, .int .i64 0, .int .i64 0, .int .i64 0] 30))) := low_alloc _ _
  generalize w.alloc (.cells #[.int .i64 0, .int .i64 0, .int .i64 0, .int .i64 0, .int .i64 0, .int .i64 0, .int .i64 0, .int .i64 0, .int .i64 0, .int .i64 0, .int .i64 0, .int .i64 0, .int .i64 0, .int .i64 0, .int .i64 0, .int .i64 0, .int .i64 0, .int .i64 0] 30) = u0 at HR HB ⊢
  refine (HRd.out _ (HS.out.on HB.out) (HK.out.on HB.out) (HE.out.on HB.out)).mono ?_
  rintro e w1 ⟨rfl, hb⟩
  replace HR : Hid (Row w1 w.heap.size [.int .i64 0, .int .i64 0, .int .i64 0, .int .i64 0, .int .i64 0, .int .i64 0, .int .i64 0, .int .i64 0, .int .i64 0, .int .i64 0, .int .i64 0, .int .i64 0, .int .i64 0, .int .i64 0, .int .i64 0, .int .i64 0, .int .i64 0, .int .i64 0]) := HR.out.below hb
  replace HB : Hid (Below w.heap.size w w1) := below_then HB.out hb
  clear hb HRd
  go_wp2_with (refine stay_load 30 ?_)
  refine ⟨?_⟩
  have HJ : Hid (Row (w1.alloc (.cells #[.int .i64 k, .int .i64 x.s, .int .i64 x.j.id, .int .i64 x.j.pr, .int .i64 x.j.nd, .int .i64 x.j.na, .int .i64 x.j.nb, .int .i64 x.j.nc, .int .i64 x.j.la, .int .i64 x.j.lb, .int .i64 x.j.lc, .int .i64 x.j.wl, .int .i64 x.j.lv, .int .i64 x.n, .int .i64 x.a, .int .i64 x.b, .int .i64 x.c, .int .i64 p] 30)) w1.heap.size [.int .i64 k, .int .i64 x.s, .int .i64 x.j.id, .int .i64 x.j.pr, .int .i64 x.j.nd, .int .i64 x.j.na, .int .i64 x.j.nb, .int .i64 x.j.nc, .int .i64 x.j.la, .int .i64 x.j.lb, .int .i64 x.j.lc, .int .i64 x.j.wl, .int .i64 x.j.lv, .int .i64 x.n, .int .i64 x.a, .int .i64 x.b, .int .i64 x.c, .int .i64 p]) := row_fresh w1 [.int .i64 k, .int .i64 x.s, .int .i64 x.j.id, .int .i64 x.j.pr, .int .i64 x.j.nd, .int .i64 x.j.na, .int .i64 x.j.nb, .int .i64 x.j.nc, .int .i64 x.j.la, .int .i64 x.j.lb, .int .i64 x.j.lc, .int .i64 x.j.wl, .int .i64 x.j.lv, .int .i64 x.n, .int .i64 x.a, .int .i64 x.b, .int .i64 x.c, .int .i64 p] 30
  have hqr : ¬ w.heap.size = w1.heap.size := by have := HR.out.lt; omega
  replace HR : Hid (Row (w1.alloc (.cells #[.int .i64 k, .int .i64 x.s, .int .i64 x.j.id, .int .i64 x.j.pr, .int .i64 x.j.nd, .int .i64 x.j.na, .int .i64 x.j.nb, .int .i64 x.j.nc, .int .i64 x.j.la, .int .i64 x.j.lb, .int .i64 x.j.lc, .int .i64 x.j.wl, .int .i64 x.j.lv, .int .i64 x.n, .int .i64 x.a, .int .i64 x.b, .int .i64 x.c, .int .i64 p] 30)) w.heap.size [.int .i64 0, .int .i64 0, .int .i64 0, .int .i64 0, .int .i64 0, .int .i64 0, .int .i64 0, .int .i64 0, .int .i64 0, .int .i64 0, .int .i64 0, .int .i64 0, .int .i64 0, .int .i64 0, .int .i64 0, .int .i64 0, .int .i64 0, .int .i64 0]) := HR.out.below (low_alloc _ _)
  replace HB : Hid (Below w.heap.size w (w1.alloc (.cells #[.int .i64 k, .int .i64 x.s, .int .i64 x.j.id, .int .i64 x.j.pr, .int .i64 x.j.nd, .int .i64 x.j.na, .int .i64 x.j.nb, .int .i64 x.j.nc, .int .i64 x.j.la, .int .i64 x.j.lb, .int .i64 x.j.lc, .int .i64 x.j.wl, .int .i64 x.j.lv, .int .i64 x.n, .int .i64 x.a, .int .i64 x.b, .int .i64 x.c, .int .i64 p] 30))) := behind_alloc HB.out _
  generalize w1.alloc (.cells #[.int .i64 k, .int .i64 x.s, .int .i64 x.j.id, .int .i64 x.j.pr, .int .i64 x.j.nd, .int .i64 x.j.na, .int .i64 x.j.nb, .int .i64 x.j.nc, .int .i64 x.j.la, .int .i64 x.j.lb, .int .i64 x.j.lc, .int .i64 x.j.wl, .int .i64 x.j.lv, .int .i64 x.n, .int .i64 x.a, .int .i64 x.b, .int .i64 x.c, .int .i64 p] 30) = u1 at HR HB HJ ⊢
  generalize w1.heap.size = q at HJ hqr ⊢
  refine wpList_load_mid rfl 30 _ rfl q 0 rfl [.int .i64 k, .int .i64 x.s, .int .i64 x.j.id, .int .i64 x.j.pr, .int .i64 x.j.nd, .int .i64 x.j.na, .int .i64 x.j.nb, .int .i64 x.j.nc, .int .i64 x.j.la, .int .i64 x.j.lb, .int .i64 x.j.lc, .int .i64 x.j.wl, .int .i64 x.j.lv, .int .i64 x.n, .int .i64 x.a, .int .i64 x.b, .int .i64 x.c, .int .i64 p] _ HJ.out.all Tryz.underlying30 rfl szStep ?_
  go_wp2_with fail
  refine (HOk.out _).mono ?_
  rintro e w2 ⟨rfl, hb⟩
  replace HR : Hid (Row w2 w.heap.size [.int .i64 0, .int .i64 0, .int .i64 0, .int .i64 0, .int .i64 0, .int .i64 0, .int .i64 0, .int .i64 0, .int .i64 0, .int .i64 0, .int .i64 0, .int .i64 0, .int .i64 0, .int .i64 0, .int .i64 0, .int .i64 0, .int .i64 0, .int .i64 0]) := HR.out.below hb
  replace HJ : Hid (Row w2 q [.int .i64 k, .int .i64 x.s, .int .i64 x.j.id, .int .i64 x.j.pr, .int .i64 x.j.nd, .int .i64 x.j.na, .int .i64 x.j.nb, .int .i64 x.j.nc, .int .i64 x.j.la, .int .i64 x.j.lb, .int .i64 x.j.lc, .int .i64 x.j.wl, .int .i64 x.j.lv, .int .i64 x.n, .int .i64 x.a, .int .i64 x.b, .int .i64 x.c, .int .i64 p]) := HJ.out.below hb
  replace HB : Hid (Below w.heap.size w w2) := below_then HB.out hb
  clear hb HOk
  go_wp2_with (refine stay_store 30 ?_)
  refine ⟨?_⟩
  refine wpList_store_mid rfl 30 _ _ rfl w.heap.size 0 (#[.int .i64 0, .int .i64 0, .int .i64 0, .int .i64 0, .int .i64 0, .int .i64 0, .int .i64 0, .int .i64 0, .int .i64 0, .int .i64 0, .int .i64 0, .int .i64 0, .int .i64 0, .int .i64 0, .int .i64 0, .int .i64 0, .int .i64 0, .int .i64 0]) rfl rfl (HR.out.room 0 18 (by simp)) szStep (by simp [Value.oneCell']) ?_
  replace HR : Hid (Row (w2.setCells w.heap.size 0 (#[.int .i64 0, .int .i64 0, .int .i64 0, .int .i64 0, .int .i64 0, .int .i64 0, .int .i64 0, .int .i64 0, .int .i64 0, .int .i64 0, .int .i64 0, .int .i64 0, .int .i64 0, .int .i64 0, .int .i64 0, .int .i64 0, .int .i64 0, .int .i64 0] : Array Value).toList) w.heap.size [.int .i64 0, .int .i64 0, .int .i64 0, .int .i64 0, .int .i64 0, .int .i64 0, .int .i64 0, .int .i64 0, .int .i64 0, .int .i64 0, .int .i64 0, .int .i64 0, .int .i64 0, .int .i64 0, .int .i64 0, .int .i64 0, .int .i64 0, .int .i64 0]) := Row.setCs _ 0 HR.out (by simp)
  replace HB : Hid (Below w.heap.size w (w2.setCells w.heap.size 0 (#[.int .i64 0, .int .i64 0, .int .i64 0, .int .i64 0, .int .i64 0, .int .i64 0, .int .i64 0, .int .i64 0, .int .i64 0, .int .i64 0, .int .i64 0, .int .i64 0, .int .i64 0, .int .i64 0, .int .i64 0, .int .i64 0, .int .i64 0, .int .i64 0] : Array Value).toList)) := below_setCs (Nat.le_refl _) _ _ HB.out
  generalize w2.setCells w.heap.size 0 _ = u8 at HR HB ⊢
  clear HJ
  go_wp2_with fail
  have hv := run_loadVar_mid (P := Tryz.prog) u8 w.heap.size 0 30 [.int .i64 0, .int .i64 0, .int .i64 0, .int .i64 0, .int .i64 0, .int .i64 0, .int .i64 0, .int .i64 0, .int .i64 0, .int .i64 0, .int .i64 0, .int .i64 0, .int .i64 0, .int .i64 0, .int .i64 0, .int .i64 0, .int .i64 0, .int .i64 0] _ HR.out.all Tryz.underlying30 rfl szStep
  exact bodyPost_ret (results_mix Tryz.results8 rfl hv) rfl ⟨rfl, HB.out⟩
set_option maxHeartbeats 4000000 in
set_option maxRecDepth 100000 in
theorem implTextStep_ne (l : List UInt8) (hl : l.length ≤ 1048576) (w : World) (hs : StT w) (hk : KwT w) (env : Env w) (k : Int) (x : Cm) (p : Int) (hr : rdS l = ⟨k, x, p⟩) (hok : stB k x p = true) (ht : stL k x p ≠ l) :
    Calls Tryz.prog 8 #[.string ⟨l.toArray⟩] w fun e w' => e = .returned (.tuple #[.agg #[.int .i64 0, .int .i64 0, .int .i64 0, .int .i64 0, .int .i64 0, .int .i64 0, .int .i64 0, .int .i64 0, .int .i64 0, .int .i64 0, .int .i64 0, .int .i64 0, .int .i64 0, .int .i64 0, .int .i64 0, .int .i64 0, .int .i64 0, .int .i64 0], .bool false]) ∧ Below w.heap.size w w' := by
  have HRd : Hid (∀ W : World, StT W → KwT W → Env W → Calls Tryz.prog 19 #[.string ⟨l.toArray⟩] W fun e w' => e = .returned (.agg #[.int .i64 k, .int .i64 x.s, .int .i64 x.j.id, .int .i64 x.j.pr, .int .i64 x.j.nd, .int .i64 x.j.na, .int .i64 x.j.nb, .int .i64 x.j.nc, .int .i64 x.j.la, .int .i64 x.j.lb, .int .i64 x.j.lc, .int .i64 x.j.wl, .int .i64 x.j.lv, .int .i64 x.n, .int .i64 x.a, .int .i64 x.b, .int .i64 x.c, .int .i64 p]) ∧ Below W.heap.size W w') := fun W hs hk he => readStep_c l hl W hs hk he k x p hr
  have HOk : Hid (∀ W : World, Calls Tryz.prog 13 #[.agg #[.int .i64 k, .int .i64 x.s, .int .i64 x.j.id, .int .i64 x.j.pr, .int .i64 x.j.nd, .int .i64 x.j.na, .int .i64 x.j.nb, .int .i64 x.j.nc, .int .i64 x.j.la, .int .i64 x.j.lb, .int .i64 x.j.lc, .int .i64 x.j.wl, .int .i64 x.j.lv, .int .i64 x.n, .int .i64 x.a, .int .i64 x.b, .int .i64 x.c, .int .i64 p]] W fun e w' => e = .returned (.bool true) ∧ Below W.heap.size W w') := fun W => by have := implStepOk_c k x p W; rw [hok] at this; exact this
  have HS : Hid (StT w) := hs
  have HK : Hid (KwT w) := hk
  have HE : Hid (Env w) := env

  have HTx : Hid (∀ W : World, StT W → Tab W → KwT W → Calls Tryz.prog 6 #[.agg #[.int .i64 k, .int .i64 x.s, .int .i64 x.j.id, .int .i64 x.j.pr, .int .i64 x.j.nd, .int .i64 x.j.na, .int .i64 x.j.nb, .int .i64 x.j.nc, .int .i64 x.j.la, .int .i64 x.j.lb, .int .i64 x.j.lc, .int .i64 x.j.wl, .int .i64 x.j.lv, .int .i64 x.n, .int .i64 x.a, .int .i64 x.b, .int .i64 x.c, .int .i64 p]] W fun e w' => e = .returned (.string ⟨(stL k x p).toArray⟩) ∧ Below W.heap.size W w') := fun W h1 h2 h3 => implStepText_c k x p W h1 h2 h3
  obtain ⟨y, hy, hyl⟩ : ∃ y : ByteArray, (⟨(stL k x p).toArray⟩ : ByteArray) = y ∧ y.toList = stL k x p := ⟨_, rfl, by rw [ByteArray.toList_eq]⟩
  rw [hy] at HTx
  obtain ⟨S, hS, hSl⟩ : ∃ S : ByteArray, (⟨l.toArray⟩ : ByteArray) = S ∧ S.toList = l := ⟨_, rfl, by rw [ByteArray.toList_eq]⟩
  rw [hS] at HRd ⊢
  rw [← hyl, ← hSl] at ht
  clear hy hyl hS hSl
  have e1 : (y.toList == S.toList) = false := by rw [beq_eq_false_iff_ne]; exact ht
  have e2 : (S.toList == y.toList) = false := by rw [beq_eq_false_iff_ne]; exact fun e => ht e.symm
  clear ht
  clear hok hs hk env hr hl
  go_enter Tryz.func8, Tryz.ntmps8
  go_wp2_with fail
  have HR : Hid (Row (w.alloc (.cells #[.int .i64 0, .int .i64 0, .int .i64 0, .int .i64 0, .int .i64 0, .int .i64 0, .int .i64 0, .int .i64 0, .int .i64 0, .int .i64 0, .int .i64 0, .int .i64 0, .int .i64 0, .int .i64 0, .int .i64 0, .int .i64 0, .int .i64 0, .int .i64 0] 30)) w.heap.size [.int .i64 0, .int .i64 0, .int .i64 0, .int .i64 0, .int .i64 0, .int .i64 0, .int .i64 0, .int .i64 0, .int .i64 0, .int .i64 0, .int .i64 0, .int .i64 0, .int .i64 0, .int .i64 0, .int .i64 0, .int .i64 0, .int .i64 0, .int .i64 0]) := row_fresh w [.int .i64 0, .int .i64 0, .int .i64 0, .int .i64 0, .int .i64 0, .int .i64 0, .int .i64 0, .int .i64 0, .int .i64 0, .int .i64 0, .int .i64 0, .int .i64 0, .int .i64 0, .int .i64 0, .int .i64 0, .int .i64 0, .int .i64 0, .int .i64 0] 30
  have HB : Hid (Below w.heap.size w (w.alloc (.cells #[.int .i64 0, .int .i64 0, .int .i64 0, .int .i64 0, .int .i64 0, .int .i64 0, .int .i64 0, .int .i64 0, .int .i64 0, .int .i64 0, .int .i64 0, .int .i64 0, .int .i64 0, .int .i64 0, .int .i64 0, .int .i64 0, .int .i64 0, .int .i64 0] 30))) := low_alloc _ _
  generalize w.alloc (.cells #[.int .i64 0, .int .i64 0, .int .i64 0, .int .i64 0, .int .i64 0, .int .i64 0, .int .i64 0, .int .i64 0, .int .i64 0, .int .i64 0, .int .i64 0, .int .i64 0, .int .i64 0, .int .i64 0, .int .i64 0, .int .i64 0, .int .i64 0, .int .i64 0] 30) = u0 at HR HB ⊢
  refine (HRd.out _ (HS.out.on HB.out) (HK.out.on HB.out) (HE.out.on HB.out)).mono ?_
  rintro e w1 ⟨rfl, hb⟩
  replace HR : Hid (Row w1 w.heap.size [.int .i64 0, .int .i64 0, .int .i64 0, .int .i64 0, .int .i64 0, .int .i64 0, .int .i64 0, .int .i64 0, .int .i64 0, .int .i64 0, .int .i64 0, .int .i64 0, .int .i64 0, .int .i64 0, .int .i64 0, .int .i64 0, .int .i64 0, .int .i64 0]) := HR.out.below hb
  replace HB : Hid (Below w.heap.size w w1) := below_then HB.out hb
  clear hb HRd
  go_wp2_with (refine stay_load 30 ?_)
  refine ⟨?_⟩
  have HJ : Hid (Row (w1.alloc (.cells #[.int .i64 k, .int .i64 x.s, .int .i64 x.j.id, .int .i64 x.j.pr, .int .i64 x.j.nd, .int .i64 x.j.na, .int .i64 x.j.nb, .int .i64 x.j.nc, .int .i64 x.j.la, .int .i64 x.j.lb, .int .i64 x.j.lc, .int .i64 x.j.wl, .int .i64 x.j.lv, .int .i64 x.n, .int .i64 x.a, .int .i64 x.b, .int .i64 x.c, .int .i64 p] 30)) w1.heap.size [.int .i64 k, .int .i64 x.s, .int .i64 x.j.id, .int .i64 x.j.pr, .int .i64 x.j.nd, .int .i64 x.j.na, .int .i64 x.j.nb, .int .i64 x.j.nc, .int .i64 x.j.la, .int .i64 x.j.lb, .int .i64 x.j.lc, .int .i64 x.j.wl, .int .i64 x.j.lv, .int .i64 x.n, .int .i64 x.a, .int .i64 x.b, .int .i64 x.c, .int .i64 p]) := row_fresh w1 [.int .i64 k, .int .i64 x.s, .int .i64 x.j.id, .int .i64 x.j.pr, .int .i64 x.j.nd, .int .i64 x.j.na, .int .i64 x.j.nb, .int .i64 x.j.nc, .int .i64 x.j.la, .int .i64 x.j.lb, .int .i64 x.j.lc, .int .i64 x.j.wl, .int .i64 x.j.lv, .int .i64 x.n, .int .i64 x.a, .int .i64 x.b, .int .i64 x.c, .int .i64 p] 30
  have hqr : ¬ w.heap.size = w1.heap.size := by have := HR.out.lt; omega
  replace HR : Hid (Row (w1.alloc (.cells #[.int .i64 k, .int .i64 x.s, .int .i64 x.j.id, .int .i64 x.j.pr, .int .i64 x.j.nd, .int .i64 x.j.na, .int .i64 x.j.nb, .int .i64 x.j.nc, .int .i64 x.j.la, .int .i64 x.j.lb, .int .i64 x.j.lc, .int .i64 x.j.wl, .int .i64 x.j.lv, .int .i64 x.n, .int .i64 x.a, .int .i64 x.b, .int .i64 x.c, .int .i64 p] 30)) w.heap.size [.int .i64 0, .int .i64 0, .int .i64 0, .int .i64 0, .int .i64 0, .int .i64 0, .int .i64 0, .int .i64 0, .int .i64 0, .int .i64 0, .int .i64 0, .int .i64 0, .int .i64 0, .int .i64 0, .int .i64 0, .int .i64 0, .int .i64 0, .int .i64 0]) := HR.out.below (low_alloc _ _)
  replace HB : Hid (Below w.heap.size w (w1.alloc (.cells #[.int .i64 k, .int .i64 x.s, .int .i64 x.j.id, .int .i64 x.j.pr, .int .i64 x.j.nd, .int .i64 x.j.na, .int .i64 x.j.nb, .int .i64 x.j.nc, .int .i64 x.j.la, .int .i64 x.j.lb, .int .i64 x.j.lc, .int .i64 x.j.wl, .int .i64 x.j.lv, .int .i64 x.n, .int .i64 x.a, .int .i64 x.b, .int .i64 x.c, .int .i64 p] 30))) := behind_alloc HB.out _
  generalize w1.alloc (.cells #[.int .i64 k, .int .i64 x.s, .int .i64 x.j.id, .int .i64 x.j.pr, .int .i64 x.j.nd, .int .i64 x.j.na, .int .i64 x.j.nb, .int .i64 x.j.nc, .int .i64 x.j.la, .int .i64 x.j.lb, .int .i64 x.j.lc, .int .i64 x.j.wl, .int .i64 x.j.lv, .int .i64 x.n, .int .i64 x.a, .int .i64 x.b, .int .i64 x.c, .int .i64 p] 30) = u1 at HR HB HJ ⊢
  generalize w1.heap.size = q at HJ hqr ⊢
  refine wpList_load_mid rfl 30 _ rfl q 0 rfl [.int .i64 k, .int .i64 x.s, .int .i64 x.j.id, .int .i64 x.j.pr, .int .i64 x.j.nd, .int .i64 x.j.na, .int .i64 x.j.nb, .int .i64 x.j.nc, .int .i64 x.j.la, .int .i64 x.j.lb, .int .i64 x.j.lc, .int .i64 x.j.wl, .int .i64 x.j.lv, .int .i64 x.n, .int .i64 x.a, .int .i64 x.b, .int .i64 x.c, .int .i64 p] _ HJ.out.all Tryz.underlying30 rfl szStep ?_
  go_wp2_with fail
  refine (HOk.out _).mono ?_
  rintro e w2 ⟨rfl, hb⟩
  replace HR : Hid (Row w2 w.heap.size [.int .i64 0, .int .i64 0, .int .i64 0, .int .i64 0, .int .i64 0, .int .i64 0, .int .i64 0, .int .i64 0, .int .i64 0, .int .i64 0, .int .i64 0, .int .i64 0, .int .i64 0, .int .i64 0, .int .i64 0, .int .i64 0, .int .i64 0, .int .i64 0]) := HR.out.below hb
  replace HJ : Hid (Row w2 q [.int .i64 k, .int .i64 x.s, .int .i64 x.j.id, .int .i64 x.j.pr, .int .i64 x.j.nd, .int .i64 x.j.na, .int .i64 x.j.nb, .int .i64 x.j.nc, .int .i64 x.j.la, .int .i64 x.j.lb, .int .i64 x.j.lc, .int .i64 x.j.wl, .int .i64 x.j.lv, .int .i64 x.n, .int .i64 x.a, .int .i64 x.b, .int .i64 x.c, .int .i64 p]) := HJ.out.below hb
  replace HB : Hid (Below w.heap.size w w2) := below_then HB.out hb
  clear hb HOk
  go_wp2_with (refine stay_load 30 ?_)
  refine ⟨?_⟩
  refine wpList_load_mid_w rfl 30 _ rfl q 0 rfl [.int .i64 k, .int .i64 x.s, .int .i64 x.j.id, .int .i64 x.j.pr, .int .i64 x.j.nd, .int .i64 x.j.na, .int .i64 x.j.nb, .int .i64 x.j.nc, .int .i64 x.j.la, .int .i64 x.j.lb, .int .i64 x.j.lc, .int .i64 x.j.wl, .int .i64 x.j.lv, .int .i64 x.n, .int .i64 x.a, .int .i64 x.b, .int .i64 x.c, .int .i64 p] _ HJ.out.all Tryz.underlying30 rfl szStep ?_
  go_wp2_with fail
  refine (HTx.out _ (HS.out.on HB.out) (HE.out.on HB.out).1 (HK.out.on HB.out)).mono ?_
  rintro e w3 ⟨rfl, hb⟩
  replace HR : Hid (Row w3 w.heap.size [.int .i64 0, .int .i64 0, .int .i64 0, .int .i64 0, .int .i64 0, .int .i64 0, .int .i64 0, .int .i64 0, .int .i64 0, .int .i64 0, .int .i64 0, .int .i64 0, .int .i64 0, .int .i64 0, .int .i64 0, .int .i64 0, .int .i64 0, .int .i64 0]) := HR.out.below hb
  replace HJ : Hid (Row w3 q [.int .i64 k, .int .i64 x.s, .int .i64 x.j.id, .int .i64 x.j.pr, .int .i64 x.j.nd, .int .i64 x.j.na, .int .i64 x.j.nb, .int .i64 x.j.nc, .int .i64 x.j.la, .int .i64 x.j.lb, .int .i64 x.j.lc, .int .i64 x.j.wl, .int .i64 x.j.lv, .int .i64 x.n, .int .i64 x.a, .int .i64 x.b, .int .i64 x.c, .int .i64 p]) := HJ.out.below hb
  replace HB : Hid (Below w.heap.size w w3) := below_then HB.out hb
  clear hb HTx
  go_wp2_with (refine stay_store 30 ?_)
  refine ⟨?_⟩
  refine wpList_store_mid rfl 30 _ _ rfl w.heap.size 0 (#[.int .i64 0, .int .i64 0, .int .i64 0, .int .i64 0, .int .i64 0, .int .i64 0, .int .i64 0, .int .i64 0, .int .i64 0, .int .i64 0, .int .i64 0, .int .i64 0, .int .i64 0, .int .i64 0, .int .i64 0, .int .i64 0, .int .i64 0, .int .i64 0]) rfl rfl (HR.out.room 0 18 (by simp)) szStep (by simp [Value.oneCell']) ?_
  replace HR : Hid (Row (w3.setCells w.heap.size 0 (#[.int .i64 0, .int .i64 0, .int .i64 0, .int .i64 0, .int .i64 0, .int .i64 0, .int .i64 0, .int .i64 0, .int .i64 0, .int .i64 0, .int .i64 0, .int .i64 0, .int .i64 0, .int .i64 0, .int .i64 0, .int .i64 0, .int .i64 0, .int .i64 0] : Array Value).toList) w.heap.size [.int .i64 0, .int .i64 0, .int .i64 0, .int .i64 0, .int .i64 0, .int .i64 0, .int .i64 0, .int .i64 0, .int .i64 0, .int .i64 0, .int .i64 0, .int .i64 0, .int .i64 0, .int .i64 0, .int .i64 0, .int .i64 0, .int .i64 0, .int .i64 0]) := Row.setCs _ 0 HR.out (by simp)
  replace HB : Hid (Below w.heap.size w (w3.setCells w.heap.size 0 (#[.int .i64 0, .int .i64 0, .int .i64 0, .int .i64 0, .int .i64 0, .int .i64 0, .int .i64 0, .int .i64 0, .int .i64 0, .int .i64 0, .int .i64 0, .int .i64 0, .int .i64 0, .int .i64 0, .int .i64 0, .int .i64 0, .int .i64 0, .int .i64 0] : Array Value).toList)) := below_setCs (Nat.le_refl _) _ _ HB.out
  generalize w3.setCells w.heap.size 0 _ = u8 at HR HB ⊢
  clear HJ
  go_wp2_with fail
  have hv := run_loadVar_mid (P := Tryz.prog) u8 w.heap.size 0 30 [.int .i64 0, .int .i64 0, .int .i64 0, .int .i64 0, .int .i64 0, .int .i64 0, .int .i64 0, .int .i64 0, .int .i64 0, .int .i64 0, .int .i64 0, .int .i64 0, .int .i64 0, .int .i64 0, .int .i64 0, .int .i64 0, .int .i64 0, .int .i64 0] _ HR.out.all Tryz.underlying30 rfl szStep
  exact bodyPost_ret (results_mix Tryz.results8 rfl hv) rfl ⟨rfl, HB.out⟩
set_option maxHeartbeats 4000000 in
set_option maxRecDepth 100000 in
theorem implTextStep_eq (l : List UInt8) (hl : l.length ≤ 1048576) (w : World) (hs : StT w) (hk : KwT w) (env : Env w) (k : Int) (x : Cm) (p : Int) (hr : rdS l = ⟨k, x, p⟩) (hok : stB k x p = true) (ht : stL k x p = l) :
    Calls Tryz.prog 8 #[.string ⟨l.toArray⟩] w fun e w' => e = .returned (.tuple #[.agg #[.int .i64 k, .int .i64 x.s, .int .i64 x.j.id, .int .i64 x.j.pr, .int .i64 x.j.nd, .int .i64 x.j.na, .int .i64 x.j.nb, .int .i64 x.j.nc, .int .i64 x.j.la, .int .i64 x.j.lb, .int .i64 x.j.lc, .int .i64 x.j.wl, .int .i64 x.j.lv, .int .i64 x.n, .int .i64 x.a, .int .i64 x.b, .int .i64 x.c, .int .i64 p], .bool true]) ∧ Below w.heap.size w w' := by
  have HRd : Hid (∀ W : World, StT W → KwT W → Env W → Calls Tryz.prog 19 #[.string ⟨l.toArray⟩] W fun e w' => e = .returned (.agg #[.int .i64 k, .int .i64 x.s, .int .i64 x.j.id, .int .i64 x.j.pr, .int .i64 x.j.nd, .int .i64 x.j.na, .int .i64 x.j.nb, .int .i64 x.j.nc, .int .i64 x.j.la, .int .i64 x.j.lb, .int .i64 x.j.lc, .int .i64 x.j.wl, .int .i64 x.j.lv, .int .i64 x.n, .int .i64 x.a, .int .i64 x.b, .int .i64 x.c, .int .i64 p]) ∧ Below W.heap.size W w') := fun W hs hk he => readStep_c l hl W hs hk he k x p hr
  have HOk : Hid (∀ W : World, Calls Tryz.prog 13 #[.agg #[.int .i64 k, .int .i64 x.s, .int .i64 x.j.id, .int .i64 x.j.pr, .int .i64 x.j.nd, .int .i64 x.j.na, .int .i64 x.j.nb, .int .i64 x.j.nc, .int .i64 x.j.la, .int .i64 x.j.lb, .int .i64 x.j.lc, .int .i64 x.j.wl, .int .i64 x.j.lv, .int .i64 x.n, .int .i64 x.a, .int .i64 x.b, .int .i64 x.c, .int .i64 p]] W fun e w' => e = .returned (.bool true) ∧ Below W.heap.size W w') := fun W => by have := implStepOk_c k x p W; rw [hok] at this; exact this
  have HS : Hid (StT w) := hs
  have HK : Hid (KwT w) := hk
  have HE : Hid (Env w) := env

  have HTx : Hid (∀ W : World, StT W → Tab W → KwT W → Calls Tryz.prog 6 #[.agg #[.int .i64 k, .int .i64 x.s, .int .i64 x.j.id, .int .i64 x.j.pr, .int .i64 x.j.nd, .int .i64 x.j.na, .int .i64 x.j.nb, .int .i64 x.j.nc, .int .i64 x.j.la, .int .i64 x.j.lb, .int .i64 x.j.lc, .int .i64 x.j.wl, .int .i64 x.j.lv, .int .i64 x.n, .int .i64 x.a, .int .i64 x.b, .int .i64 x.c, .int .i64 p]] W fun e w' => e = .returned (.string ⟨(stL k x p).toArray⟩) ∧ Below W.heap.size W w') := fun W h1 h2 h3 => implStepText_c k x p W h1 h2 h3
  obtain ⟨y, hy, hyl⟩ : ∃ y : ByteArray, (⟨(stL k x p).toArray⟩ : ByteArray) = y ∧ y.toList = stL k x p := ⟨_, rfl, by rw [ByteArray.toList_eq]⟩
  rw [hy] at HTx
  obtain ⟨S, hS, hSl⟩ : ∃ S : ByteArray, (⟨l.toArray⟩ : ByteArray) = S ∧ S.toList = l := ⟨_, rfl, by rw [ByteArray.toList_eq]⟩
  rw [hS] at HRd ⊢
  rw [← hyl, ← hSl] at ht
  clear hy hyl hS hSl
  have e1 : (y.toList == S.toList) = true := by rw [ht]; simp
  have e2 : (S.toList == y.toList) = true := by rw [ht]; simp
  clear ht
  clear hok hs hk env hr hl
  go_enter Tryz.func8, Tryz.ntmps8
  go_wp2_with fail
  have HR : Hid (Row (w.alloc (.cells #[.int .i64 0, .int .i64 0, .int .i64 0, .int .i64 0, .int .i64 0, .int .i64 0, .int .i64 0, .int .i64 0, .int .i64 0, .int .i64 0, .int .i64 0, .int .i64 0, .int .i64 0, .int .i64 0, .int .i64 0, .int .i64 0, .int .i64 0, .int .i64 0] 30)) w.heap.size [.int .i64 0, .int .i64 0, .int .i64 0, .int .i64 0, .int .i64 0, .int .i64 0, .int .i64 0, .int .i64 0, .int .i64 0, .int .i64 0, .int .i64 0, .int .i64 0, .int .i64 0, .int .i64 0, .int .i64 0, .int .i64 0, .int .i64 0, .int .i64 0]) := row_fresh w [.int .i64 0, .int .i64 0, .int .i64 0, .int .i64 0, .int .i64 0, .int .i64 0, .int .i64 0, .int .i64 0, .int .i64 0, .int .i64 0, .int .i64 0, .int .i64 0, .int .i64 0, .int .i64 0, .int .i64 0, .int .i64 0, .int .i64 0, .int .i64 0] 30
  have HB : Hid (Below w.heap.size w (w.alloc (.cells #[.int .i64 0, .int .i64 0, .int .i64 0, .int .i64 0, .int .i64 0, .int .i64 0, .int .i64 0, .int .i64 0, .int .i64 0, .int .i64 0, .int .i64 0, .int .i64 0, .int .i64 0, .int .i64 0, .int .i64 0, .int .i64 0, .int .i64 0, .int .i64 0] 30))) := low_alloc _ _
  generalize w.alloc (.cells #[.int .i64 0, .int .i64 0, .int .i64 0, .int .i64 0, .int .i64 0, .int .i64 0, .int .i64 0, .int .i64 0, .int .i64 0, .int .i64 0, .int .i64 0, .int .i64 0, .int .i64 0, .int .i64 0, .int .i64 0, .int .i64 0, .int .i64 0, .int .i64 0] 30) = u0 at HR HB ⊢
  refine (HRd.out _ (HS.out.on HB.out) (HK.out.on HB.out) (HE.out.on HB.out)).mono ?_
  rintro e w1 ⟨rfl, hb⟩
  replace HR : Hid (Row w1 w.heap.size [.int .i64 0, .int .i64 0, .int .i64 0, .int .i64 0, .int .i64 0, .int .i64 0, .int .i64 0, .int .i64 0, .int .i64 0, .int .i64 0, .int .i64 0, .int .i64 0, .int .i64 0, .int .i64 0, .int .i64 0, .int .i64 0, .int .i64 0, .int .i64 0]) := HR.out.below hb
  replace HB : Hid (Below w.heap.size w w1) := below_then HB.out hb
  clear hb HRd
  go_wp2_with (refine stay_load 30 ?_)
  refine ⟨?_⟩
  have HJ : Hid (Row (w1.alloc (.cells #[.int .i64 k, .int .i64 x.s, .int .i64 x.j.id, .int .i64 x.j.pr, .int .i64 x.j.nd, .int .i64 x.j.na, .int .i64 x.j.nb, .int .i64 x.j.nc, .int .i64 x.j.la, .int .i64 x.j.lb, .int .i64 x.j.lc, .int .i64 x.j.wl, .int .i64 x.j.lv, .int .i64 x.n, .int .i64 x.a, .int .i64 x.b, .int .i64 x.c, .int .i64 p] 30)) w1.heap.size [.int .i64 k, .int .i64 x.s, .int .i64 x.j.id, .int .i64 x.j.pr, .int .i64 x.j.nd, .int .i64 x.j.na, .int .i64 x.j.nb, .int .i64 x.j.nc, .int .i64 x.j.la, .int .i64 x.j.lb, .int .i64 x.j.lc, .int .i64 x.j.wl, .int .i64 x.j.lv, .int .i64 x.n, .int .i64 x.a, .int .i64 x.b, .int .i64 x.c, .int .i64 p]) := row_fresh w1 [.int .i64 k, .int .i64 x.s, .int .i64 x.j.id, .int .i64 x.j.pr, .int .i64 x.j.nd, .int .i64 x.j.na, .int .i64 x.j.nb, .int .i64 x.j.nc, .int .i64 x.j.la, .int .i64 x.j.lb, .int .i64 x.j.lc, .int .i64 x.j.wl, .int .i64 x.j.lv, .int .i64 x.n, .int .i64 x.a, .int .i64 x.b, .int .i64 x.c, .int .i64 p] 30
  have hqr : ¬ w.heap.size = w1.heap.size := by have := HR.out.lt; omega
  replace HR : Hid (Row (w1.alloc (.cells #[.int .i64 k, .int .i64 x.s, .int .i64 x.j.id, .int .i64 x.j.pr, .int .i64 x.j.nd, .int .i64 x.j.na, .int .i64 x.j.nb, .int .i64 x.j.nc, .int .i64 x.j.la, .int .i64 x.j.lb, .int .i64 x.j.lc, .int .i64 x.j.wl, .int .i64 x.j.lv, .int .i64 x.n, .int .i64 x.a, .int .i64 x.b, .int .i64 x.c, .int .i64 p] 30)) w.heap.size [.int .i64 0, .int .i64 0, .int .i64 0, .int .i64 0, .int .i64 0, .int .i64 0, .int .i64 0, .int .i64 0, .int .i64 0, .int .i64 0, .int .i64 0, .int .i64 0, .int .i64 0, .int .i64 0, .int .i64 0, .int .i64 0, .int .i64 0, .int .i64 0]) := HR.out.below (low_alloc _ _)
  replace HB : Hid (Below w.heap.size w (w1.alloc (.cells #[.int .i64 k, .int .i64 x.s, .int .i64 x.j.id, .int .i64 x.j.pr, .int .i64 x.j.nd, .int .i64 x.j.na, .int .i64 x.j.nb, .int .i64 x.j.nc, .int .i64 x.j.la, .int .i64 x.j.lb, .int .i64 x.j.lc, .int .i64 x.j.wl, .int .i64 x.j.lv, .int .i64 x.n, .int .i64 x.a, .int .i64 x.b, .int .i64 x.c, .int .i64 p] 30))) := behind_alloc HB.out _
  generalize w1.alloc (.cells #[.int .i64 k, .int .i64 x.s, .int .i64 x.j.id, .int .i64 x.j.pr, .int .i64 x.j.nd, .int .i64 x.j.na, .int .i64 x.j.nb, .int .i64 x.j.nc, .int .i64 x.j.la, .int .i64 x.j.lb, .int .i64 x.j.lc, .int .i64 x.j.wl, .int .i64 x.j.lv, .int .i64 x.n, .int .i64 x.a, .int .i64 x.b, .int .i64 x.c, .int .i64 p] 30) = u1 at HR HB HJ ⊢
  generalize w1.heap.size = q at HJ hqr ⊢
  refine wpList_load_mid rfl 30 _ rfl q 0 rfl [.int .i64 k, .int .i64 x.s, .int .i64 x.j.id, .int .i64 x.j.pr, .int .i64 x.j.nd, .int .i64 x.j.na, .int .i64 x.j.nb, .int .i64 x.j.nc, .int .i64 x.j.la, .int .i64 x.j.lb, .int .i64 x.j.lc, .int .i64 x.j.wl, .int .i64 x.j.lv, .int .i64 x.n, .int .i64 x.a, .int .i64 x.b, .int .i64 x.c, .int .i64 p] _ HJ.out.all Tryz.underlying30 rfl szStep ?_
  go_wp2_with fail
  refine (HOk.out _).mono ?_
  rintro e w2 ⟨rfl, hb⟩
  replace HR : Hid (Row w2 w.heap.size [.int .i64 0, .int .i64 0, .int .i64 0, .int .i64 0, .int .i64 0, .int .i64 0, .int .i64 0, .int .i64 0, .int .i64 0, .int .i64 0, .int .i64 0, .int .i64 0, .int .i64 0, .int .i64 0, .int .i64 0, .int .i64 0, .int .i64 0, .int .i64 0]) := HR.out.below hb
  replace HJ : Hid (Row w2 q [.int .i64 k, .int .i64 x.s, .int .i64 x.j.id, .int .i64 x.j.pr, .int .i64 x.j.nd, .int .i64 x.j.na, .int .i64 x.j.nb, .int .i64 x.j.nc, .int .i64 x.j.la, .int .i64 x.j.lb, .int .i64 x.j.lc, .int .i64 x.j.wl, .int .i64 x.j.lv, .int .i64 x.n, .int .i64 x.a, .int .i64 x.b, .int .i64 x.c, .int .i64 p]) := HJ.out.below hb
  replace HB : Hid (Below w.heap.size w w2) := below_then HB.out hb
  clear hb HOk
  go_wp2_with (refine stay_load 30 ?_)
  refine ⟨?_⟩
  refine wpList_load_mid_w rfl 30 _ rfl q 0 rfl [.int .i64 k, .int .i64 x.s, .int .i64 x.j.id, .int .i64 x.j.pr, .int .i64 x.j.nd, .int .i64 x.j.na, .int .i64 x.j.nb, .int .i64 x.j.nc, .int .i64 x.j.la, .int .i64 x.j.lb, .int .i64 x.j.lc, .int .i64 x.j.wl, .int .i64 x.j.lv, .int .i64 x.n, .int .i64 x.a, .int .i64 x.b, .int .i64 x.c, .int .i64 p] _ HJ.out.all Tryz.underlying30 rfl szStep ?_
  go_wp2_with fail
  refine (HTx.out _ (HS.out.on HB.out) (HE.out.on HB.out).1 (HK.out.on HB.out)).mono ?_
  rintro e w3 ⟨rfl, hb⟩
  replace HR : Hid (Row w3 w.heap.size [.int .i64 0, .int .i64 0, .int .i64 0, .int .i64 0, .int .i64 0, .int .i64 0, .int .i64 0, .int .i64 0, .int .i64 0, .int .i64 0, .int .i64 0, .int .i64 0, .int .i64 0, .int .i64 0, .int .i64 0, .int .i64 0, .int .i64 0, .int .i64 0]) := HR.out.below hb
  replace HJ : Hid (Row w3 q [.int .i64 k, .int .i64 x.s, .int .i64 x.j.id, .int .i64 x.j.pr, .int .i64 x.j.nd, .int .i64 x.j.na, .int .i64 x.j.nb, .int .i64 x.j.nc, .int .i64 x.j.la, .int .i64 x.j.lb, .int .i64 x.j.lc, .int .i64 x.j.wl, .int .i64 x.j.lv, .int .i64 x.n, .int .i64 x.a, .int .i64 x.b, .int .i64 x.c, .int .i64 p]) := HJ.out.below hb
  replace HB : Hid (Below w.heap.size w w3) := below_then HB.out hb
  clear hb HTx
  go_wp2_with (refine stay_load 30 ?_)
  refine ⟨?_⟩
  refine wpList_load_mid rfl 30 _ rfl q 0 rfl [.int .i64 k, .int .i64 x.s, .int .i64 x.j.id, .int .i64 x.j.pr, .int .i64 x.j.nd, .int .i64 x.j.na, .int .i64 x.j.nb, .int .i64 x.j.nc, .int .i64 x.j.la, .int .i64 x.j.lb, .int .i64 x.j.lc, .int .i64 x.j.wl, .int .i64 x.j.lv, .int .i64 x.n, .int .i64 x.a, .int .i64 x.b, .int .i64 x.c, .int .i64 p] _ HJ.out.all Tryz.underlying30 rfl szStep ?_
  go_wp2_with (refine stay_store 30 ?_)
  refine ⟨?_⟩
  refine wpList_store_mid rfl 30 _ _ rfl w.heap.size 0 (#[.int .i64 k, .int .i64 x.s, .int .i64 x.j.id, .int .i64 x.j.pr, .int .i64 x.j.nd, .int .i64 x.j.na, .int .i64 x.j.nb, .int .i64 x.j.nc, .int .i64 x.j.la, .int .i64 x.j.lb, .int .i64 x.j.lc, .int .i64 x.j.wl, .int .i64 x.j.lv, .int .i64 x.n, .int .i64 x.a, .int .i64 x.b, .int .i64 x.c, .int .i64 p]) rfl rfl (HR.out.room 0 18 (by simp)) szStep (by simp [Value.oneCell']) ?_
  replace HR : Hid (Row (w3.setCells w.heap.size 0 (#[.int .i64 k, .int .i64 x.s, .int .i64 x.j.id, .int .i64 x.j.pr, .int .i64 x.j.nd, .int .i64 x.j.na, .int .i64 x.j.nb, .int .i64 x.j.nc, .int .i64 x.j.la, .int .i64 x.j.lb, .int .i64 x.j.lc, .int .i64 x.j.wl, .int .i64 x.j.lv, .int .i64 x.n, .int .i64 x.a, .int .i64 x.b, .int .i64 x.c, .int .i64 p] : Array Value).toList) w.heap.size [.int .i64 k, .int .i64 x.s, .int .i64 x.j.id, .int .i64 x.j.pr, .int .i64 x.j.nd, .int .i64 x.j.na, .int .i64 x.j.nb, .int .i64 x.j.nc, .int .i64 x.j.la, .int .i64 x.j.lb, .int .i64 x.j.lc, .int .i64 x.j.wl, .int .i64 x.j.lv, .int .i64 x.n, .int .i64 x.a, .int .i64 x.b, .int .i64 x.c, .int .i64 p]) := Row.setCs _ 0 HR.out (by simp)
  replace HB : Hid (Below w.heap.size w (w3.setCells w.heap.size 0 (#[.int .i64 k, .int .i64 x.s, .int .i64 x.j.id, .int .i64 x.j.pr, .int .i64 x.j.nd, .int .i64 x.j.na, .int .i64 x.j.nb, .int .i64 x.j.nc, .int .i64 x.j.la, .int .i64 x.j.lb, .int .i64 x.j.lc, .int .i64 x.j.wl, .int .i64 x.j.lv, .int .i64 x.n, .int .i64 x.a, .int .i64 x.b, .int .i64 x.c, .int .i64 p] : Array Value).toList)) := below_setCs (Nat.le_refl _) _ _ HB.out
  generalize w3.setCells w.heap.size 0 _ = u8 at HR HB ⊢
  clear HJ
  go_wp2_with fail
  have hv := run_loadVar_mid (P := Tryz.prog) u8 w.heap.size 0 30 [.int .i64 k, .int .i64 x.s, .int .i64 x.j.id, .int .i64 x.j.pr, .int .i64 x.j.nd, .int .i64 x.j.na, .int .i64 x.j.nb, .int .i64 x.j.nc, .int .i64 x.j.la, .int .i64 x.j.lb, .int .i64 x.j.lc, .int .i64 x.j.wl, .int .i64 x.j.lv, .int .i64 x.n, .int .i64 x.a, .int .i64 x.b, .int .i64 x.c, .int .i64 p] _ HR.out.all Tryz.underlying30 rfl szStep
  exact bodyPost_ret (results_mix Tryz.results8 rfl hv) rfl ⟨rfl, HB.out⟩
theorem implTextStep_c (l : List UInt8) (hl : l.length ≤ 1048576) (w : World) (hs : StT w) (hk : KwT w) (env : Env w) (k : Int) (x : Cm) (p : Int) (b : Bool) (h : tsR l = (⟨k, x, p⟩, b)) :
    Calls Tryz.prog 8 #[.string ⟨l.toArray⟩] w fun e w' => e = .returned (.tuple #[.agg #[.int .i64 k, .int .i64 x.s, .int .i64 x.j.id, .int .i64 x.j.pr, .int .i64 x.j.nd, .int .i64 x.j.na, .int .i64 x.j.nb, .int .i64 x.j.nc, .int .i64 x.j.la, .int .i64 x.j.lb, .int .i64 x.j.lc, .int .i64 x.j.wl, .int .i64 x.j.lv, .int .i64 x.n, .int .i64 x.a, .int .i64 x.b, .int .i64 x.c, .int .i64 p], .bool b]) ∧ Below w.heap.size w w' := by
  cases hb : stB (rdS l).k (rdS l).x (rdS l).p with
  | false =>
    rw [tsR_no hb] at h
    injection h with h1 h2
    injection h1 with e1 e2 e3
    subst e1 e2 e3 h2
    exact implTextStep_no l hl w hs hk env _ _ _ rfl hb
  | true =>
    by_cases ht : stL (rdS l).k (rdS l).x (rdS l).p = l
    · rw [tsR_eq hb ht] at h
      injection h with h1 h2
      subst h2
      rw [h1] at hb ht
      exact implTextStep_eq l hl w hs hk env _ _ _ h1 hb ht
    · rw [tsR_ne ht] at h
      injection h with h1 h2
      injection h1 with e1 e2 e3
      subst e1 e2 e3 h2
      exact implTextStep_ne l hl w hs hk env _ _ _ rfl hb ht
end Go.Proofs.YtejleghdgdbbnaaGreatDoor
