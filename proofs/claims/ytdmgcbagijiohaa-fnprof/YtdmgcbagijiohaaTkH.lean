/- A point put to a profile: the program. -/
import Derived.Test.YtdmgcbagijiohaaTkG
import Derived.Test.YtdmgcbagijiohaaTkC
import Derived.Deep.RegionLaw
import Derived.Deep.AppendLies
namespace Go.Proofs.Ytdmgcbagijiohaa
open Go.ChangeShapes Go.WideShapes Go.ChangeAt Go.RowKit

theorem cells4' (W : World) (t : TypeId) (x y z u : Value) : ∀ (j : Nat) (v : Value), [x, y, z, u][j]? = some v → (W.alloc (.cells #[x, y, z, u] t)).cell? ((⟨W.heap.size, 0, none⟩ : Addr).add j) = some v := fun j v h => by
  have h2 := (row_fresh W [x, y, z, u] t).cell j v h
  rw [show ((⟨W.heap.size, 0, none⟩ : Addr).add j) = ⟨W.heap.size, j, none⟩ by unfold Addr.add; by_cases e : j = 0 <;> simp [e]]
  exact h2

/-- What 'put' leaves. -/
def PutPost (w W : World) (B O : Nat) (r : List Nd) (e : Ending) (W' : World) : Prop := e = .returned (.tuple #[]) ∧ ∃ v', Bx w W' B O v' r ∧ (∀ b xs, Row W b xs → b < B → b ≠ O → Row W' b xs)

set_option maxRecDepth 100000 in
set_option maxHeartbeats 4000000 in
theorem put_c (w W : World) (B O : Nat) (v : Value) (out : List Nd) (n : Nd) (hl : out.length ≤ 100000) (h : Bx w W B O v out) :
    Calls Try.prog 72 #[.pointer (some ⟨O, 0, none⟩), .agg #[.int .i64 n.l, .int .i64 n.a, .int .i64 n.b, .int .i64 n.c]] W (PutPost w W B O (putN out n)) := by
  have H : Hid (Bx w W B O v out) := h
  obtain ⟨a1, c1, hv1, _⟩ := h.form
  subst hv1
  have hOW := h.box.lt
  have b0 := h.box.cell 0 _ rfl
  have hneO : O ≠ W.heap.size := by omega
  clear h
  obtain ⟨i0, hi, hz0, hz1, hz2⟩ := info_parts infoPt
  go_enter Try.func72, Try.ntmps72
  go_wp2_with fail
  have HX1 : Hid (Bx w (W.alloc (.cells #[.int .i64 n.l, .int .i64 n.a, .int .i64 n.b, .int .i64 n.c] 80)) B O (.slice a1 out.length c1) out) := H.out.below (low_alloc _ _)
  have HF1 : Hid (Row (W.alloc (.cells #[.int .i64 n.l, .int .i64 n.a, .int .i64 n.b, .int .i64 n.c] 80)) W.heap.size [.int .i64 n.l, .int .i64 n.a, .int .i64 n.b, .int .i64 n.c]) := row_fresh W [.int .i64 n.l, .int .i64 n.a, .int .i64 n.b, .int .i64 n.c] 80
  have HK1 : Hid (∀ b xs, Row W b xs → Row (W.alloc (.cells #[.int .i64 n.l, .int .i64 n.a, .int .i64 n.b, .int .i64 n.c] 80)) b xs) := fun b xs hr => hr.below (low_alloc _ _)
  generalize W.alloc (.cells #[.int .i64 n.l, .int .i64 n.a, .int .i64 n.b, .int .i64 n.c] 80) = U at HX1 HF1 HK1
  generalize W.heap.size = F at *
  clear b0
  have HSq : Hid (Sq U a1 (flat out)) := by
    obtain ⟨a', c', hv', hsq'⟩ := HX1.out.form
    cases hv'
    exact hsq'
  have hsome := beh_some U
  have q0 := Beh.row HX1.out.box 0 _ rfl
  have q1 := Beh.row HF1.out 1 _ rfl
  have q2 := Beh.row HF1.out 2 _ rfl
  have q3 := Beh.row HF1.out 3 _ rfl
  by_cases hz : out.length = 0
  case' pos =>
    have HPut : Hid (putN out n = out ++ [n]) := by
      show _ = _
      rw [List.length_eq_zero_iff.1 hz]
      rfl
    have hd0 : decide ((0 : Int) < (out.length : Int)) = false := by rw [decide_eq_false_iff_not]; omega
    have hd1 : decide (0 < out.length) = false := by rw [decide_eq_false_iff_not]; omega
    clear hz
    refine wp_region_beh (by kernel_rfl) (by kernel_rfl) ?_
    repeat (go_big_quiet_step (fail))
    refine wpQuiet_nil ?_
    rintro ⟨W3, hb3⟩
    clear hd0 hd1
  case' neg =>
    obtain ⟨k, hk⟩ : ∃ k, out.length = k + 1 := ⟨out.length - 1, by omega⟩
    have hkl : k < out.length := by omega
    have hE := List.getElem?_eq_getElem hkl
    have hlast : out.getLast? = some out[k] := by rw [List.getLast?_eq_getElem?, show out.length - 1 = k by omega]; exact hE
    generalize out[k] = l0 at hE hlast
    obtain ⟨p1, hp1, hcl⟩ := HSq.out.node k hkl
    clear hcl
    subst hp1
    obtain ⟨m0', m1', m2', m3'⟩ := Beh.node HSq.out hE
    have hd0 : decide ((0 : Int) < (out.length : Int)) = true := by rw [decide_eq_true_iff]; omega
    have hd1 : decide (0 < out.length) = true := by rw [decide_eq_true_iff]; omega
    have hki : (out.length : Int) - 1 = (k : Int) := by omega
    have hk0 : (0 : Int) ≤ (k : Int) := by omega
    have hk1 : (k : Int) < (out.length : Int) := by omega
    clear hk hz
    cases hsv : sameV l0 n
    case' true =>
      have HPut : Hid (putN out n = out) := by
        show _ = _
        unfold putN
        rw [hlast]
        simp [hsv]
      have hvq : ∀ Q : World, (Op.equalIn 10000 27 (.agg #[.int .i64 l0.a, .int .i64 l0.b, .int .i64 l0.c]) (.agg #[.int .i64 n.a, .int .i64 n.b, .int .i64 n.c])).run Try.prog Q = .ok true Q := fun Q => by rw [eq_vec, show (l0.a == n.a && (l0.b == n.b && l0.c == n.c)) = true from hsv]
      clear hsv hlast hE
      refine wp_region_beh (by kernel_rfl) (by kernel_rfl) ?_
      repeat (go_big_quiet_step (fail))
      refine wpQuiet_nil ?_
      rintro ⟨W3, hb3⟩
      clear hd0 hd1 m0' m1' m2' m3' hvq q0 q1 q2 q3 hsome
      have HX3 : Hid (Bx w W3 B O (.slice (some p1) out.length c1) out) := HX1.out.below hb3
      have HK3 : Hid (∀ b xs, Row W b xs → Row W3 b xs) := fun b xs hr => (HK1.out b xs hr).below hb3
      go_wp2_with fail
      exact bodyPost_ret (v := .tuple #[]) (by simp [results, Try.results72, go_sem]) rfl ⟨rfl, _, by rw [HPut.out]; exact HX3.out, fun b xs hr _ _ => HK3.out b xs hr⟩
    case' false =>
      have HPut : Hid (putN out n = out ++ [n]) := by
        show _ = _
        unfold putN
        rw [hlast]
        simp [hsv]
      have hvq : ∀ Q : World, (Op.equalIn 10000 27 (.agg #[.int .i64 l0.a, .int .i64 l0.b, .int .i64 l0.c]) (.agg #[.int .i64 n.a, .int .i64 n.b, .int .i64 n.c])).run Try.prog Q = .ok false Q := fun Q => by rw [eq_vec, show (l0.a == n.a && (l0.b == n.b && l0.c == n.c)) = false from hsv]
      clear hsv hlast hE
      refine wp_region_beh (by kernel_rfl) (by kernel_rfl) ?_
      repeat (go_big_quiet_step (fail))
      refine wpQuiet_nil ?_
      rintro ⟨W3, hb3⟩
      clear hd0 hd1 m0' m1' m2' m3' hvq hki hk0 hk1 hkl
      generalize (some p1 : Option Addr) = a1 at *
  all_goals
    clear q0 q1 q2 q3 hsome
    have HX3 : Hid (Bx w W3 B O (.slice a1 out.length c1) out) := HX1.out.below hb3
    have HF3 : Hid (Row W3 F [.int .i64 n.l, .int .i64 n.a, .int .i64 n.b, .int .i64 n.c]) := HF1.out.below hb3
    have HK3 : Hid (∀ b xs, Row W b xs → Row W3 b xs) := fun b xs hr => (HK1.out b xs hr).below hb3
    clear HX1 HF1 HK1 HSq
    have HX4 : Hid (Bx w (W3.alloc (.cells #[.int .i64 n.l, .int .i64 n.a, .int .i64 n.b, .int .i64 n.c] 80)).drew B O (.slice a1 out.length c1) out) := (HX3.out.below (low_alloc _ _)).below (low_drew _)
    have HK4 : Hid (∀ b xs, Row W b xs → Row (W3.alloc (.cells #[.int .i64 n.l, .int .i64 n.a, .int .i64 n.b, .int .i64 n.c] 80)).drew b xs) := fun b xs hr => ((HK3.out b xs hr).below (low_alloc _ _)).below (low_drew _)
    have b3 := HX3.out.box.cell 0 _ rfl
    have e0 := HF3.out.cell 0 _ rfl
    have e1 := HF3.out.cell 1 _ rfl
    have e2 := HF3.out.cell 2 _ rfl
    have e3 := HF3.out.cell 3 _ rfl
    have hle := HX3.out.le
    have hO3 := HX3.out.box.lt
    have hO4 : O ≠ W3.heap.size := by omega
    have hF3 := HF3.out.lt
    have hF4 : F ≠ W3.heap.size := by omega
    have k0 := cells4' W3 80 (.int .i64 n.l) (.int .i64 n.a) (.int .i64 n.b) (.int .i64 n.c)
    have k1 : ∀ u ∈ ([.int .i64 n.l, .int .i64 n.a, .int .i64 n.b, .int .i64 n.c] : List Value), u.oneCell' = true := by simp [Value.oneCell']
    have k2 : out.length + 1 ≤ maxLen := by unfold maxLen; omega
    have k3 : (out.length + 1) * 32 ≤ 140737488355328 := by omega
    have k4 : B ≤ (W3.alloc (.cells #[.int .i64 n.l, .int .i64 n.a, .int .i64 n.b, .int .i64 n.c] 80)).drew.heap.size := HX4.out.le
    have k5 : (W3.alloc (.cells #[.int .i64 n.l, .int .i64 n.a, .int .i64 n.b, .int .i64 n.c] 80)).drew.heap.size = W3.heap.size + 1 := by simp [go_sem]
    go_wp2_with fail
    go_region_law (refine step_append_lies _ rfl _ _ 23 rfl B 80 i0 (.agg #[.int .i64 0, .int .i64 0, .int .i64 0, .int .i64 0]) 4 32 Try.underlying23 hi hz0 hz1 hz2 rfl (by decide) (.slice a1 out.length c1) out.length (flat out) rfl HX4.out.own ⟨W3.heap.size, 0, none⟩ 1 1 [.int .i64 n.l, .int .i64 n.a, .int .i64 n.b, .int .i64 n.c] rfl rfl k0 k1 Nat.one_pos k2 k3 k4 (W3.heap.size + 1) k5 ?_; intro gq cq w11 hown hgrow hat _; obtain ⟨t1, t2, t3⟩ := HX4.out.add n hown hgrow (hat.elim (fun e => Or.inl e.symm) (fun e => Or.inr ((congrArg some e).trans (congrArg some k5.symm)))); have s1 := t1.cell 0 _ rfl; have sf1 := t1.free 0; have HX5 : Hid (Bx w (w11.setCell ⟨O, 0, none⟩ (.slice (some ⟨gq, 0, none⟩) (out.length + 1) cq)) B O (.slice (some ⟨gq, 0, none⟩) (out.length + 1) cq) (out ++ [n])) := t2; have HR5 : Hid (∀ b xs, Row W b xs → b < B → b ≠ O → Row (w11.setCell ⟨O, 0, none⟩ (.slice (some ⟨gq, 0, none⟩) (out.length + 1) cq)) b xs) := fun b xs hr h1 h2 => t3 b xs (HK4.out b xs hr) h1 h2; clear t1 t2 t3 hown hgrow hat)
    all_goals
      try go_simp
      go_wp2_with fail
      exact bodyPost_ret (v := .tuple #[]) (by simp [results, Try.results72, go_sem]) rfl ⟨rfl, _, by rw [HPut.out]; exact HX5.out, HR5.out⟩
end Go.Proofs.Ytdmgcbagijiohaa
