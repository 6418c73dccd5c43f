/- A point put to a profile: the program. -/
import Derived.Test.YtmpjebkjopfejaaGreatMzTkB
import Derived.Test.YtmpjebkjopfejaaGreatMgRb
import Derived.Test.YtmpjebkjopfejaaGreatMzTkC
import Derived.Deep.RegionLaw
import Derived.Deep.AppendLies
namespace Go.Proofs.YtmpjebkjopfejaaGreat
open Go.ChangeShapes Go.WideShapes Go.ChangeAt Go.RowKit

/-- The list without its first, where that is it. -/
def cutL (y x : Int) (r : List Int) : List Int := if x = y then r else x :: r

theorem Sq.tail {w : World} {p : Addr} {x : Int} {r : List Int} (h : Sq w (some p) (ints (x :: r))) : Sq w (some ⟨p.block, p.off + 1, none⟩) (ints r) :=
  ⟨fun i u hu => by
    have hu' : (ints (x :: r))[i + 1]? = some u := hu
    obtain ⟨q, hq, hb, hc⟩ := h.cell (i + 1) u hu'
    cases hq
    refine ⟨_, rfl, hb, ?_⟩
    have e : (⟨p.block, p.off + 1, none⟩ : Addr).add i = p.add (i + 1) := by
      unfold Addr.add
      by_cases hi : i = 0
      · subst hi; simp
      · simp [hi]; omega
    rw [e]
    exact hc⟩

set_option maxHeartbeats 1000000 in
theorem behind_c (p : Addr) (cap : Nat) (x y : Int) (r : List Int) (hl : (x :: r).length ≤ 1048576) (hc : (x :: r).length ≤ cap) (w0 w : World) (hb : Below w0.heap.size w0 w) (h : Sq w0 (some p) (ints (x :: r))) :
    Calls Tryz.prog 118 #[.slice (some p) (x :: r).length cap, .int .i64 y] w fun e w' => ∃ (q : Addr) (c : Nat), e = .returned (.slice (some q) (cutL y x r).length c) ∧ Sq w0 (some q) (ints (cutL y x r)) ∧ (cutL y x r).length ≤ c ∧ w' = w := by
  obtain ⟨p', hp', _, c0⟩ := (h.below hb).cell 0 (.int .i64 x) rfl
  cases hp'
  rw [show p.add 0 = p from rfl] at c0
  have H : Hid (Sq w0 (some p) (ints (x :: r))) := h
  have Hc : Hid ((x :: r).length ≤ cap) := hc
  simp only [List.length_cons] at hl hc ⊢
  have hpos : (0 : Int) < (r.length : Int) + 1 := by omega
  have hone : (1 : Int) ≤ (r.length : Int) + 1 := by omega
  clear h hb
  by_cases he : x = y
  · have HE : Hid (cutL y x r = r) := by show _ = _; rw [cutL, if_pos he]
    subst he
    by_cases hcap : cap = 1
    · subst hcap
      have hr : r = [] := List.length_eq_zero_iff.1 (by omega)
      subst hr
      go_enter Tryz.func118, Tryz.ntmps118
      go_wp2_with fail
      go_ret
      rw [HE.out]
      exact ⟨p, 0, rfl, ⟨fun i u hu => by simp [ints] at hu⟩, Nat.le_refl _, rfl⟩
    · have hcap2 : ¬ cap ≤ 1 := by omega
      go_enter Tryz.func118, Tryz.ntmps118
      go_wp2_with fail
      go_ret
      rw [HE.out]
      exact ⟨⟨p.block, p.off + 1, none⟩, cap - 1, rfl, H.out.tail, by omega, rfl⟩
  · have HE : Hid (cutL y x r = x :: r) := by show _ = _; rw [cutL, if_neg he]
    have hi : (x == y) = false := by simpa using he
    go_enter Tryz.func118, Tryz.ntmps118
    go_wp2_with fail
    go_ret
    rw [HE.out]
    exact ⟨p, cap, rfl, H.out, Hc.out, rfl⟩

theorem merge_step {x y : Int} {r s : List Int} (hx : Up (x :: r)) (hy : Up (y :: s)) : mg (x :: r) (y :: s) = (if y < x then y else x) :: mg (cutL (if y < x then y else x) x r) (cutL (if y < x then y else x) y s) ∧
    (cutL (if y < x then y else x) x r).length + (cutL (if y < x then y else x) y s).length < r.length + s.length + 2 ∧ (cutL (if y < x then y else x) x r).length ≤ r.length + 1 ∧ (cutL (if y < x then y else x) y s).length ≤ s.length + 1 ∧
    Up (cutL (if y < x then y else x) x r) ∧ Up (cutL (if y < x then y else x) y s) := by
  have hr := (List.pairwise_cons.1 hx).2
  have hs := (List.pairwise_cons.1 hy).2
  by_cases h1 : y < x
  · rw [if_pos h1, cutL, if_neg (by omega), cutL, if_pos rfl]
    exact ⟨mg_more h1 hx hy, by simp; omega, by simp, by omega, hx, hs⟩
  · rw [if_neg h1]
    by_cases h2 : x = y
    · subst h2
      rw [cutL, if_pos rfl, cutL, if_pos rfl]
      exact ⟨mg_same hx hy, by omega, by omega, by omega, hr, hs⟩
    · rw [cutL, if_pos rfl, cutL, if_neg (fun e => h2 e.symm)]
      exact ⟨mg_less (by omega) hy, by simp; omega, by omega, by simp, hr, hy⟩

/-- 'append(s, zs...)' of numbers to a list of the call's own. -/
theorem wpl_appL {ops : Array Oper} {rest : List Oper} {o : Oper} {a : Act} {Q : Exit → Act → World → Prop} {wr B : World} {base : Nat} {v : Value} {xs zs : List Int} {q : Addr} {c : Nat} {s x : Operand} (hgd : o.guard = none)
    (ho : o.op = .call { callee := .builtin .append, args := #[s, x], argTypes := #[22, 22] })
    (hown : wr.ownsRow base 3 1 v xs.length (ints xs)) (hlen : xs.length + zs.length ≤ 100000) (hB : Below B.heap.size B wr) (hb1 : B.heap.size ≤ base) (hb2 : base ≤ wr.heap.size) (hz : Sq wr (some q) (ints zs))
    (hs : a.eval s = v) (hx : a.eval x = .slice (some q) zs.length c)
    (h : ∀ v' w', Hid (w'.ownsRow base 3 1 v' (xs.length + zs.length) (ints (xs ++ zs))) → Hid (Below B.heap.size B w') → wpList Tryz.prog ops Q rest (a.put o.dst v') w') :
    wpList Tryz.prog ops Q (o :: rest) a wr := by
  obtain ⟨i0, hi, hz0, hz1, hz2⟩ := info_parts infoInt
  refine wpList_append_own _ hgd s x 22 ho base 3 i0 (.int .i64 0) 1 8 Tryz.underlying22 hi hz0 hz1 hz2 rfl (by decide) v xs.length (ints xs) hs hown q zs.length c (ints zs) hx (by rw [ints_len]; omega) ?_ ?_ ?_ ?_ hb2 ?_
  · intro k u hk
    obtain ⟨q', hq, _, hc⟩ := hz.cell k u hk
    cases hq
    exact hc
  · intro u hu
    obtain ⟨n, _, rfl⟩ := List.mem_map.1 hu
    rfl
  · unfold maxLen; omega
  · omega
  · intro v' w' h1 h2 _
    refine h v' w' ?_ ?_
    · show World.ownsRow _ _ _ _ _ _ _
      rw [ints, List.map_append]
      exact h1
    · exact hB.grown h2 hB.size (fun k e => by have := (hown.lt k e).1; omega)
end Go.Proofs.YtmpjebkjopfejaaGreat

namespace Go.Proofs.YtmpjebkjopfejaaGreat
open Go.ChangeShapes Go.WideShapes Go.ChangeAt Go.RowKit

set_option maxHeartbeats 4000000 in
set_option maxRecDepth 20000 in
theorem merged_c (pa pb : Addr) (ca cb : Nat) (aS bS : List Int) (hla : aS.length ≤ 1000) (hlb : bS.length ≤ 2) (hca : aS.length ≤ ca) (hcb : bS.length ≤ cb) (hua : Up aS) (hub : Up bS) (w : World) (h : Sq w (some pa) (ints aS)) (h' : Sq w (some pb) (ints bS)) :
    Calls Tryz.prog 92 #[.slice (some pa) aS.length ca, .slice (some pb) bS.length cb] w fun e w' => ∃ v, e = .returned v ∧ w'.ownsRow w.heap.size 3 1 v (mg aS bS).length (ints (mg aS bS)) ∧ Below w.heap.size w w' := by
  have H : Hid (Sq w (some pa) (ints aS)) := h
  have H' : Hid (Sq w (some pb) (ints bS)) := h'
  have HUa : Hid (Up aS) := hua
  have HUb : Hid (Up bS) := hub
  clear h h' hua hub
  obtain ⟨i0, hi, hz0, hz1, hz2⟩ := info_parts infoInt
  obtain ⟨Z, hZ, hmk⟩ := make_room (aS.length + bS.length) (by omega)
  have hmk' : ∀ W : World, (Instr.makeSlice 22 (.int .i64 0) (.int .i64 ((aS.length : Int) + (bS.length : Int)))).run Tryz.prog W = .ok (.slice (some ⟨W.heap.size, 0, none⟩) 0 (aS.length + bS.length)) (W.alloc (.cells Z.toArray 3)) := fun W => by have := hmk W; rwa [Int.natCast_add] at this
  have HO0 : Hid ((w.alloc (.cells Z.toArray 3)).ownsRow w.heap.size 3 1 (.slice (some ⟨w.heap.size, 0, none⟩) 0 (aS.length + bS.length)) ([] : List Int).length (ints [])) := World.ownsRow_made w Z.toArray (aS.length + bS.length) (Nat.le_refl _) (by unfold maxLen; omega) (by simp [hZ])
  have HB0 : Hid (Below w.heap.size w (w.alloc (.cells Z.toArray 3))) := low_alloc _ _
  clear hmk hZ
  go_enter Tryz.func92, Tryz.ntmps92
  go_wp2_with fail
  generalize w.alloc (.cells Z.toArray 3) = w0 at HO0 HB0
  go_loopw [0, 1, 5] (fun xa xb o wr => ∃ (qa qb : Addr) (da db : Nat) (xs ys acc : List Int), xa = .slice (some qa) xs.length da ∧ xb = .slice (some qb) ys.length db ∧ xs.length ≤ aS.length ∧ ys.length ≤ bS.length ∧ xs.length ≤ da ∧ ys.length ≤ db ∧ Up xs ∧ Up ys ∧ Sq w (some qa) (ints xs) ∧ Sq w (some qb) (ints ys) ∧ acc.length + xs.length + ys.length ≤ aS.length + bS.length ∧ acc ++ mg xs ys = mg aS bS ∧
      wr.ownsRow w.heap.size 3 1 o acc.length (ints acc) ∧ Below w.heap.size w wr) (fun xa xb _ _ => (match xa with | .slice _ n _ => n | _ => 0) + (match xb with | .slice _ n _ => n | _ => 0))
  case atStart => exact ⟨pa, pb, ca, cb, aS, bS, [], rfl, rfl, Nat.le_refl _, Nat.le_refl _, hca, hcb, HUa.out, HUb.out, H.out, H'.out, by simp, rfl, HO0.out, HB0.out⟩
  case round =>
    obtain ⟨qa, qb, da, db, xs, ys, acc, rfl, rfl, hxl, hyl, hxd, hyd, hux, huy, hsx, hsy, hsum, hmg, hown, hb⟩ := hrel
    have HUx : Hid (Up xs) := hux
    have HUy : Hid (Up ys) := huy
    have HSx : Hid (Sq w (some qa) (ints xs)) := hsx
    have HSy : Hid (Sq w (some qb) (ints ys)) := hsy
    have HMg : Hid (acc ++ mg xs ys = mg aS bS) := hmg
    have HA : Hid (wr.ownsRow w.heap.size 3 1 u5 acc.length (ints acc)) := hown
    have HQ : Hid (Below w.heap.size w wr) := hb
    clear hux huy hsx hsy hmg hown hb HO0 HB0
    have hw := HQ.out.size
    by_cases hboth : 0 < xs.length ∧ 0 < ys.length
    · obtain ⟨h1, h2⟩ := hboth
      cases xs with
      | nil => simp at h1
      | cons x r =>
        cases ys with
        | nil => simp at h2
        | cons y s =>
          obtain ⟨_, hq1, _, cx⟩ := (HSx.out.below HQ.out).cell 0 (.int .i64 x) rfl
          cases hq1
          obtain ⟨_, hq2, _, cy⟩ := (HSy.out.below HQ.out).cell 0 (.int .i64 y) rfl
          cases hq2
          rw [show qa.add 0 = qa from rfl] at cx
          rw [show qb.add 0 = qb from rfl] at cy
          have hsome := beh_some wr
          have kx := Beh.cell cx
          have ky := Beh.cell cy
          obtain ⟨e1, e2, e3, e4, e5, e6⟩ := merge_step HUx.out HUy.out
          have HCx : Hid (∀ (W : World), Below w.heap.size w W → Calls Tryz.prog 118 #[.slice (some qa) (x :: r).length da, .int .i64 (if y < x then y else x)] W fun e w' => ∃ (q : Addr) (c : Nat), e = .returned (.slice (some q) (cutL (if y < x then y else x) x r).length c) ∧ Sq w (some q) (ints (cutL (if y < x then y else x) x r)) ∧ (cutL (if y < x then y else x) x r).length ≤ c ∧ w' = W) := fun W hW => behind_c qa da x _ r (by omega) hxd w W hW HSx.out
          have HCy : Hid (∀ (W : World), Below w.heap.size w W → Calls Tryz.prog 118 #[.slice (some qb) (y :: s).length db, .int .i64 (if y < x then y else x)] W fun e w' => ∃ (q : Addr) (c : Nat), e = .returned (.slice (some q) (cutL (if y < x then y else x) y s).length c) ∧ Sq w (some q) (ints (cutL (if y < x then y else x) y s)) ∧ (cutL (if y < x then y else x) y s).length ≤ c ∧ w' = W) := fun W hW => behind_c qb db y _ s (by omega) hyd w W hW HSy.out
          simp only [List.length_cons] at hxl hyl hxd hyd hsum HCx HCy ⊢
          have n1 : (0 : Int) < (r.length : Int) + 1 := by omega
          have n2 : (0 : Int) < (s.length : Int) + 1 := by omega
          go_wp2_with fail
          refine wp_region_beh (by kernel_rfl) (by kernel_rfl) ?_
          repeat (go_big_quiet_step (fail))
          refine wpQuiet_nil ?_
          rintro ⟨w2, hb2⟩
          generalize (if y < x then y else x) = z at *
          have HA2 : Hid (w2.ownsRow w.heap.size 3 1 u5 acc.length (ints acc)) := owns_below HA.out hb2
          have HQ2 : Hid (Below w.heap.size w w2) := below_then HQ.out hb2
          have HM2 : Hid (acc ++ [z] ++ mg (cutL z x r) (cutL z y s) = mg aS bS) := by show _ = _; rw [← HMg.out, e1]; simp
          clear cx cy kx ky hsome e1
          generalize cutL z x r = xs2 at *
          generalize cutL z y s = ys2 at *
          go_wp2_with (at_builtin; refine wpl_app1 (B := w) (base := w.heap.size) (xs := acc) (y := z) rfl rfl HA2.out (by omega) HQ2.out (Nat.le_refl _) HQ2.out.size rfl rfl ?_)
          intro v1 w6 HA3 HQ3
          go_wp2_with fail
          refine (HCx.out w6 HQ3.out).mono ?_
          rintro e w7 ⟨q7, c7, rfl, s7, d7, rfl⟩
          have S7 : Hid (Sq w (some q7) (ints xs2)) := s7
          clear s7
          go_wp2_with fail
          refine (HCy.out w7 HQ3.out).mono ?_
          rintro e w8 ⟨q8, c8, rfl, s8, d8, rfl⟩
          have S8 : Hid (Sq w (some q8) (ints ys2)) := s8
          have U1 : Hid (Up xs2) := e5
          have U2 : Hid (Up ys2) := e6
          clear s8 e5 e6
          go_wp2_with fail
          exact ⟨⟨q7, q8, c7, c8, xs2, ys2, acc ++ [z], rfl, rfl, by omega, by omega, d7, d8, U1.out, U2.out, S7.out, S8.out, by simp; omega, HM2.out, by rw [List.length_append, List.length_singleton]; exact HA3.out, HQ3.out⟩, by simp; omega⟩
    · have HEnd : Hid (acc ++ xs ++ ys = mg aS bS) := by
        show _ = _
        rw [← HMg.out, List.append_assoc]
        congr 1
        have hxy := hboth
        by_cases h1 : xs = []
        · subst h1
          rw [mg_none HUy.out (by omega)]
          rfl
        · have h2 : ys = [] := List.length_eq_zero_iff.1 (by have hp := List.length_pos_iff.2 h1; rcases Nat.eq_zero_or_pos ys.length with h | h; exact h; exact absurd ⟨hp, h⟩ hxy)
          subst h2
          rw [mg_nil]
          simp
      by_cases hx0 : 0 < xs.length
      case' pos =>
        have n1 : (0 : Int) < (xs.length : Int) := by omega
        have n2 : ¬ (0 : Int) < (ys.length : Int) := fun h => hboth ⟨hx0, by omega⟩
      case' neg => have n1 : ¬ (0 : Int) < (xs.length : Int) := by omega
      all_goals
        clear hboth
        go_wp2_with (at_builtin; refine wpl_appL (B := w) (base := w.heap.size) (xs := acc) (zs := xs) (q := qa) rfl rfl HA.out (by omega) HQ.out (Nat.le_refl _) HQ.out.size (HSx.out.below HQ.out) rfl rfl ?_)
        intro v1 w6 HA1 HQ1
        have HA2 : Hid (w6.ownsRow w.heap.size 3 1 v1 (acc ++ xs).length (ints (acc ++ xs))) := by rw [List.length_append]; exact HA1
        go_wp2_with (at_builtin; refine wpl_appL (B := w) (base := w.heap.size) (xs := acc ++ xs) (zs := ys) (q := qb) rfl rfl HA2.out (by simp; omega) HQ1.out (Nat.le_refl _) HQ1.out.size (HSy.out.below HQ1.out) rfl rfl ?_)
        intro v2 w7 HA3 HQ3
        have HA4 : Hid (w7.ownsRow w.heap.size 3 1 v2 (acc ++ xs ++ ys).length (ints (acc ++ xs ++ ys))) := by
          have e : (acc ++ xs ++ ys).length = (acc ++ xs).length + ys.length := List.length_append
          rw [e]
          first | exact HA3 | simpa using HA3
        go_wp2_with fail
        go_ret
        rw [← HEnd.out]
        exact ⟨v2, rfl, HA4.out, HQ3.out⟩
end Go.Proofs.YtmpjebkjopfejaaGreat

namespace Go.Proofs.YtmpjebkjopfejaaGreat
open Go.ChangeShapes Go.WideShapes Go.ChangeAt Go.RowKit

theorem cells4' (W : World) (t : TypeId) (x y z u : Value) : ∀ (j : Nat) (v : Value), [x, y, z, u][j]? = some v → (W.alloc (.cells #[x, y, z, u] t)).cell? ((⟨W.heap.size, 0, none⟩ : Addr).add j) = some v := fun j v h => by
  have h2 := (row_fresh W [x, y, z, u] t).cell j v h
  rw [show ((⟨W.heap.size, 0, none⟩ : Addr).add j) = ⟨W.heap.size, j, none⟩ by unfold Addr.add; by_cases e : j = 0 <;> simp [e]]
  exact h2

/-- What 'put' leaves. -/
def PutPost (w W : World) (B O : Nat) (r : List Nd) (e : Ending) (W' : World) : Prop := e = .returned (.tuple #[]) ∧ ∃ v', Bx w W' B O v' r ∧ (∀ b xs, Row W b xs → b < B → b ≠ O → Row W' b xs)

set_option maxRecDepth 100000 in
set_option maxHeartbeats 4000000 in
theorem put_c (w W : World) (B O : Nat) (v : Value) (out : List Nd) (n : Nd) (hl : out.length ≤ 100000) (h : Bx w W B O v out) :
    Calls Tryz.prog 95 #[.pointer (some ⟨O, 0, none⟩), .agg #[.int .i64 n.l, .int .i64 n.a, .int .i64 n.b, .int .i64 n.c]] W (PutPost w W B O (putN out n)) := by
  have H : Hid (Bx w W B O v out) := h
  obtain ⟨a1, c1, hv1, _⟩ := h.form
  subst hv1
  have hOW := h.box.lt
  have b0 := h.box.cell 0 _ rfl
  have hneO : O ≠ W.heap.size := by omega
  clear h
  obtain ⟨i0, hi, hz0, hz1, hz2⟩ := info_parts infoPt
  go_enter Tryz.func95, Tryz.ntmps95
  go_wp2_with fail
  have HX1 : Hid (Bx w (W.alloc (.cells #[.int .i64 n.l, .int .i64 n.a, .int .i64 n.b, .int .i64 n.c] 109)) B O (.slice a1 out.length c1) out) := H.out.below (low_alloc _ _)
  have HF1 : Hid (Row (W.alloc (.cells #[.int .i64 n.l, .int .i64 n.a, .int .i64 n.b, .int .i64 n.c] 109)) W.heap.size [.int .i64 n.l, .int .i64 n.a, .int .i64 n.b, .int .i64 n.c]) := row_fresh W [.int .i64 n.l, .int .i64 n.a, .int .i64 n.b, .int .i64 n.c] 109
  have HK1 : Hid (∀ b xs, Row W b xs → Row (W.alloc (.cells #[.int .i64 n.l, .int .i64 n.a, .int .i64 n.b, .int .i64 n.c] 109)) b xs) := fun b xs hr => hr.below (low_alloc _ _)
  generalize W.alloc (.cells #[.int .i64 n.l, .int .i64 n.a, .int .i64 n.b, .int .i64 n.c] 109) = U at HX1 HF1 HK1
  generalize W.heap.size = F at *
  clear b0
  have HSq : Hid (Sq U a1 (flat out)) := by
    obtain ⟨a', c', hv', hsq'⟩ := HX1.out.form
    cases hv'
    exact hsq'
  have hsome := beh_some U
  have q0 := Beh.row HX1.out.box 0 _ rfl
  have q1 := Beh.row HF1.out 1 _ rfl
  have q2 := Beh.row HF1.out 2 _ rfl
  have q3 := Beh.row HF1.out 3 _ rfl
  by_cases hz : out.length = 0
  case' pos =>
    have HPut : Hid (putN out n = out ++ [n]) := by
      show _ = _
      rw [List.length_eq_zero_iff.1 hz]
      rfl
    have hd0 : decide ((0 : Int) < (out.length : Int)) = false := by rw [decide_eq_false_iff_not]; omega
    have hd1 : decide (0 < out.length) = false := by rw [decide_eq_false_iff_not]; omega
    clear hz
    refine wp_region_beh (by kernel_rfl) (by kernel_rfl) ?_
    repeat (go_big_quiet_step (fail))
    refine wpQuiet_nil ?_
    rintro ⟨W3, hb3⟩
    clear hd0 hd1
  case' neg =>
    obtain ⟨k, hk⟩ : ∃ k, out.length = k + 1 := ⟨out.length - 1, by omega⟩
    have hkl : k < out.length := by omega
    have hE := List.getElem?_eq_getElem hkl
    have hlast : out.getLast? = some out[k] := by rw [List.getLast?_eq_getElem?, show out.length - 1 = k by omega]; exact hE
    generalize out[k] = l0 at hE hlast
    obtain ⟨p1, hp1, hcl⟩ := HSq.out.node k hkl
    clear hcl
    subst hp1
    obtain ⟨m0', m1', m2', m3'⟩ := Beh.node HSq.out hE
    have hd0 : decide ((0 : Int) < (out.length : Int)) = true := by rw [decide_eq_true_iff]; omega
    have hd1 : decide (0 < out.length) = true := by rw [decide_eq_true_iff]; omega
    have hki : (out.length : Int) - 1 = (k : Int) := by omega
    have hk0 : (0 : Int) ≤ (k : Int) := by omega
    have hk1 : (k : Int) < (out.length : Int) := by omega
    clear hk hz
    cases hsv : sameV l0 n
    case' true =>
      have HPut : Hid (putN out n = out) := by
        show _ = _
        unfold putN
        rw [hlast]
        simp [hsv]
      have hvq : ∀ Q : World, (Op.equalIn 10000 50 (.agg #[.int .i64 l0.a, .int .i64 l0.b, .int .i64 l0.c]) (.agg #[.int .i64 n.a, .int .i64 n.b, .int .i64 n.c])).run Tryz.prog Q = .ok true Q := fun Q => by rw [eq_vec, show (l0.a == n.a && (l0.b == n.b && l0.c == n.c)) = true from hsv]
      clear hsv hlast hE
      refine wp_region_beh (by kernel_rfl) (by kernel_rfl) ?_
      repeat (go_big_quiet_step (fail))
      refine wpQuiet_nil ?_
      rintro ⟨W3, hb3⟩
      clear hd0 hd1 m0' m1' m2' m3' hvq q0 q1 q2 q3 hsome
      have HX3 : Hid (Bx w W3 B O (.slice (some p1) out.length c1) out) := HX1.out.below hb3
      have HK3 : Hid (∀ b xs, Row W b xs → Row W3 b xs) := fun b xs hr => (HK1.out b xs hr).below hb3
      go_wp2_with fail
      exact bodyPost_ret (v := .tuple #[]) (by simp [results, Tryz.results95, go_sem]) rfl ⟨rfl, _, by rw [HPut.out]; exact HX3.out, fun b xs hr _ _ => HK3.out b xs hr⟩
    case' false =>
      have HPut : Hid (putN out n = out ++ [n]) := by
        show _ = _
        unfold putN
        rw [hlast]
        simp [hsv]
      have hvq : ∀ Q : World, (Op.equalIn 10000 50 (.agg #[.int .i64 l0.a, .int .i64 l0.b, .int .i64 l0.c]) (.agg #[.int .i64 n.a, .int .i64 n.b, .int .i64 n.c])).run Tryz.prog Q = .ok false Q := fun Q => by rw [eq_vec, show (l0.a == n.a && (l0.b == n.b && l0.c == n.c)) = false from hsv]
      clear hsv hlast hE
      refine wp_region_beh (by kernel_rfl) (by kernel_rfl) ?_
      repeat (go_big_quiet_step (fail))
      refine wpQuiet_nil ?_
      rintro ⟨W3, hb3⟩
      clear hd0 hd1 m0' m1' m2' m3' hvq hki hk0 hk1 hkl
      generalize (some p1 : Option Addr) = a1 at *
  all_goals
    clear q0 q1 q2 q3 hsome
    have HX3 : Hid (Bx w W3 B O (.slice a1 out.length c1) out) := HX1.out.below hb3
    have HF3 : Hid (Row W3 F [.int .i64 n.l, .int .i64 n.a, .int .i64 n.b, .int .i64 n.c]) := HF1.out.below hb3
    have HK3 : Hid (∀ b xs, Row W b xs → Row W3 b xs) := fun b xs hr => (HK1.out b xs hr).below hb3
    clear HX1 HF1 HK1 HSq
    have HX4 : Hid (Bx w (W3.alloc (.cells #[.int .i64 n.l, .int .i64 n.a, .int .i64 n.b, .int .i64 n.c] 109)).drew B O (.slice a1 out.length c1) out) := (HX3.out.below (low_alloc _ _)).below (low_drew _)
    have HK4 : Hid (∀ b xs, Row W b xs → Row (W3.alloc (.cells #[.int .i64 n.l, .int .i64 n.a, .int .i64 n.b, .int .i64 n.c] 109)).drew b xs) := fun b xs hr => ((HK3.out b xs hr).below (low_alloc _ _)).below (low_drew _)
    have b3 := HX3.out.box.cell 0 _ rfl
    have e0 := HF3.out.cell 0 _ rfl
    have e1 := HF3.out.cell 1 _ rfl
    have e2 := HF3.out.cell 2 _ rfl
    have e3 := HF3.out.cell 3 _ rfl
    have hle := HX3.out.le
    have hO3 := HX3.out.box.lt
    have hO4 : O ≠ W3.heap.size := by omega
    have hF3 := HF3.out.lt
    have hF4 : F ≠ W3.heap.size := by omega
    have k0 := cells4' W3 109 (.int .i64 n.l) (.int .i64 n.a) (.int .i64 n.b) (.int .i64 n.c)
    have k1 : ∀ u ∈ ([.int .i64 n.l, .int .i64 n.a, .int .i64 n.b, .int .i64 n.c] : List Value), u.oneCell' = true := by simp [Value.oneCell']
    have k2 : out.length + 1 ≤ maxLen := by unfold maxLen; omega
    have k3 : (out.length + 1) * 32 ≤ 140737488355328 := by omega
    have k4 : B ≤ (W3.alloc (.cells #[.int .i64 n.l, .int .i64 n.a, .int .i64 n.b, .int .i64 n.c] 109)).drew.heap.size := HX4.out.le
    have k5 : (W3.alloc (.cells #[.int .i64 n.l, .int .i64 n.a, .int .i64 n.b, .int .i64 n.c] 109)).drew.heap.size = W3.heap.size + 1 := by simp [go_sem]
    go_wp2_with fail
    go_region_law (refine step_append_lies _ rfl _ _ 42 rfl B 109 i0 (.agg #[.int .i64 0, .int .i64 0, .int .i64 0, .int .i64 0]) 4 32 Tryz.underlying42 hi hz0 hz1 hz2 rfl (by decide) (.slice a1 out.length c1) out.length (flat out) rfl HX4.out.own ⟨W3.heap.size, 0, none⟩ 1 1 [.int .i64 n.l, .int .i64 n.a, .int .i64 n.b, .int .i64 n.c] rfl rfl k0 k1 Nat.one_pos k2 k3 k4 (W3.heap.size + 1) k5 ?_; intro gq cq w11 hown hgrow hat _; obtain ⟨t1, t2, t3⟩ := HX4.out.add n hown hgrow (hat.elim (fun e => Or.inl e.symm) (fun e => Or.inr ((congrArg some e).trans (congrArg some k5.symm)))); have s1 := t1.cell 0 _ rfl; have sf1 := t1.free 0; have HX5 : Hid (Bx w (w11.setCell ⟨O, 0, none⟩ (.slice (some ⟨gq, 0, none⟩) (out.length + 1) cq)) B O (.slice (some ⟨gq, 0, none⟩) (out.length + 1) cq) (out ++ [n])) := t2; have HR5 : Hid (∀ b xs, Row W b xs → b < B → b ≠ O → Row (w11.setCell ⟨O, 0, none⟩ (.slice (some ⟨gq, 0, none⟩) (out.length + 1) cq)) b xs) := fun b xs hr h1 h2 => t3 b xs (HK4.out b xs hr) h1 h2; clear t1 t2 t3 hown hgrow hat)
    all_goals
      try go_simp
      go_wp2_with fail
      exact bodyPost_ret (v := .tuple #[]) (by simp [results, Tryz.results95, go_sem]) rfl ⟨rfl, _, by rw [HPut.out]; exact HX5.out, HR5.out⟩
end Go.Proofs.YtmpjebkjopfejaaGreat
