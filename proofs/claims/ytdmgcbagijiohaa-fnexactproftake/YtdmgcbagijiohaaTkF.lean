/- Two rising lists as one: the program. -/
import Derived.Test.YtdmgcbagijiohaaTkB
import Derived.Test.YtdmgcbagijiohaaBehA
namespace Go.Proofs.Ytdmgcbagijiohaa
open Go.ChangeShapes Go.WideShapes Go.ChangeAt Go.RowKit

/-- The list without its first, where that is it. -/
def cutL (y x : Int) (r : List Int) : List Int := if x = y then r else x :: r

theorem Sq.tail {w : World} {p : Addr} {x : Int} {r : List Int} (h : Sq w (some p) (ints (x :: r))) : Sq w (some ⟨p.block, p.off + 1, none⟩) (ints r) :=
  ⟨fun i u hu => by
    have hu' : (ints (x :: r))[i + 1]? = some u := hu
    obtain ⟨q, hq, hb, hc⟩ := h.cell (i + 1) u hu'
    cases hq
    refine ⟨_, rfl, hb, ?_⟩
    have e : (⟨p.block, p.off + 1, none⟩ : Addr).add i = p.add (i + 1) := by
      unfold Addr.add
      by_cases hi : i = 0
      · subst hi; simp
      · simp [hi]; omega
    rw [e]
    exact hc⟩

set_option maxHeartbeats 1000000 in
theorem behind_c (p : Addr) (cap : Nat) (x y : Int) (r : List Int) (hl : (x :: r).length ≤ 1048576) (hc : (x :: r).length ≤ cap) (w0 w : World) (hb : Below w0.heap.size w0 w) (h : Sq w0 (some p) (ints (x :: r))) :
    Calls Try.prog 107 #[.slice (some p) (x :: r).length cap, .int .i64 y] w fun e w' => ∃ (q : Addr) (c : Nat), e = .returned (.slice (some q) (cutL y x r).length c) ∧ Sq w0 (some q) (ints (cutL y x r)) ∧ (cutL y x r).length ≤ c ∧ w' = w := by
  obtain ⟨p', hp', _, c0⟩ := (h.below hb).cell 0 (.int .i64 x) rfl
  cases hp'
  rw [show p.add 0 = p from rfl] at c0
  have H : Hid (Sq w0 (some p) (ints (x :: r))) := h
  have Hc : Hid ((x :: r).length ≤ cap) := hc
  simp only [List.length_cons] at hl hc ⊢
  have hpos : (0 : Int) < (r.length : Int) + 1 := by omega
  have hone : (1 : Int) ≤ (r.length : Int) + 1 := by omega
  clear h hb
  by_cases he : x = y
  · have HE : Hid (cutL y x r = r) := by show _ = _; rw [cutL, if_pos he]
    subst he
    by_cases hcap : cap = 1
    · subst hcap
      have hr : r = [] := List.length_eq_zero_iff.1 (by omega)
      subst hr
      go_enter Try.func107, Try.ntmps107
      go_wp2_with fail
      go_ret
      rw [HE.out]
      exact ⟨p, 0, rfl, ⟨fun i u hu => by simp [ints] at hu⟩, Nat.le_refl _, rfl⟩
    · have hcap2 : ¬ cap ≤ 1 := by omega
      go_enter Try.func107, Try.ntmps107
      go_wp2_with fail
      go_ret
      rw [HE.out]
      exact ⟨⟨p.block, p.off + 1, none⟩, cap - 1, rfl, H.out.tail, by omega, rfl⟩
  · have HE : Hid (cutL y x r = x :: r) := by show _ = _; rw [cutL, if_neg he]
    have hi : (x == y) = false := by simpa using he
    go_enter Try.func107, Try.ntmps107
    go_wp2_with fail
    go_ret
    rw [HE.out]
    exact ⟨p, cap, rfl, H.out, Hc.out, rfl⟩

theorem merge_step {x y : Int} {r s : List Int} (hx : Up (x :: r)) (hy : Up (y :: s)) : mg (x :: r) (y :: s) = (if y < x then y else x) :: mg (cutL (if y < x then y else x) x r) (cutL (if y < x then y else x) y s) ∧
    (cutL (if y < x then y else x) x r).length + (cutL (if y < x then y else x) y s).length < r.length + s.length + 2 ∧ (cutL (if y < x then y else x) x r).length ≤ r.length + 1 ∧ (cutL (if y < x then y else x) y s).length ≤ s.length + 1 ∧
    Up (cutL (if y < x then y else x) x r) ∧ Up (cutL (if y < x then y else x) y s) := by
  have hr := (List.pairwise_cons.1 hx).2
  have hs := (List.pairwise_cons.1 hy).2
  by_cases h1 : y < x
  · rw [if_pos h1, cutL, if_neg (by omega), cutL, if_pos rfl]
    exact ⟨mg_more h1 hx hy, by simp; omega, by simp, by omega, hx, hs⟩
  · rw [if_neg h1]
    by_cases h2 : x = y
    · subst h2
      rw [cutL, if_pos rfl, cutL, if_pos rfl]
      exact ⟨mg_same hx hy, by omega, by omega, by omega, hr, hs⟩
    · rw [cutL, if_pos rfl, cutL, if_neg (fun e => h2 e.symm)]
      exact ⟨mg_less (by omega) hy, by simp; omega, by omega, by simp, hr, hy⟩

/-- 'append(s, zs...)' of numbers to a list of the call's own. -/
theorem wpl_appL {ops : Array Oper} {rest : List Oper} {o : Oper} {a : Act} {Q : Exit → Act → World → Prop} {wr B : World} {base : Nat} {v : Value} {xs zs : List Int} {q : Addr} {c : Nat} {s x : Operand} (hgd : o.guard = none)
    (ho : o.op = .call { callee := .builtin .append, args := #[s, x], argTypes := #[32, 32] })
    (hown : wr.ownsRow base 3 1 v xs.length (ints xs)) (hlen : xs.length + zs.length ≤ 100000) (hB : Below B.heap.size B wr) (hb1 : B.heap.size ≤ base) (hb2 : base ≤ wr.heap.size) (hz : Sq wr (some q) (ints zs))
    (hs : a.eval s = v) (hx : a.eval x = .slice (some q) zs.length c)
    (h : ∀ v' w', Hid (w'.ownsRow base 3 1 v' (xs.length + zs.length) (ints (xs ++ zs))) → Hid (Below B.heap.size B w') → wpList Try.prog ops Q rest (a.put o.dst v') w') :
    wpList Try.prog ops Q (o :: rest) a wr := by
  obtain ⟨i0, hi, hz0, hz1, hz2⟩ := info_parts infoInt
  refine wpList_append_own _ hgd s x 32 ho base 3 i0 (.int .i64 0) 1 8 Try.underlying32 hi hz0 hz1 hz2 rfl (by decide) v xs.length (ints xs) hs hown q zs.length c (ints zs) hx (by rw [ints_len]; omega) ?_ ?_ ?_ ?_ hb2 ?_
  · intro k u hk
    obtain ⟨q', hq, _, hc⟩ := hz.cell k u hk
    cases hq
    exact hc
  · intro u hu
    obtain ⟨n, _, rfl⟩ := List.mem_map.1 hu
    rfl
  · unfold maxLen; omega
  · omega
  · intro v' w' h1 h2 _
    refine h v' w' ?_ ?_
    · show World.ownsRow _ _ _ _ _ _ _
      rw [ints, List.map_append]
      exact h1
    · exact hB.grown h2 hB.size (fun k e => by have := (hown.lt k e).1; omega)
end Go.Proofs.Ytdmgcbagijiohaa
