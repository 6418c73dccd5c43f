/- Two rising lists aS one: the program's walk. -/
import Derived.Test.YtdmgcbagijiohaaTkF
namespace Go.Proofs.Ytdmgcbagijiohaa
open Go.ChangeShapes Go.WideShapes Go.ChangeAt Go.RowKit

set_option maxHeartbeats 4000000 in
set_option maxRecDepth 20000 in
theorem merged_c (pa pb : Addr) (ca cb : Nat) (aS bS : List Int) (hla : aS.length ≤ 1000) (hlb : bS.length ≤ 2) (hca : aS.length ≤ ca) (hcb : bS.length ≤ cb) (hua : Up aS) (hub : Up bS) (w : World) (h : Sq w (some pa) (ints aS)) (h' : Sq w (some pb) (ints bS)) :
    Calls Try.prog 70 #[.slice (some pa) aS.length ca, .slice (some pb) bS.length cb] w fun e w' => ∃ v, e = .returned v ∧ w'.ownsRow w.heap.size 3 1 v (mg aS bS).length (ints (mg aS bS)) ∧ Below w.heap.size w w' := by
  have H : Hid (Sq w (some pa) (ints aS)) := h
  have H' : Hid (Sq w (some pb) (ints bS)) := h'
  have HUa : Hid (Up aS) := hua
  have HUb : Hid (Up bS) := hub
  clear h h' hua hub
  obtain ⟨i0, hi, hz0, hz1, hz2⟩ := info_parts infoInt
  obtain ⟨Z, hZ, hmk⟩ := make_room (aS.length + bS.length) (by omega)
  have hmk' : ∀ W : World, (Instr.makeSlice 32 (.int .i64 0) (.int .i64 ((aS.length : Int) + (bS.length : Int)))).run Try.prog W = .ok (.slice (some ⟨W.heap.size, 0, none⟩) 0 (aS.length + bS.length)) (W.alloc (.cells Z.toArray 3)) := fun W => by have := hmk W; rwa [Int.natCast_add] at this
  have HO0 : Hid ((w.alloc (.cells Z.toArray 3)).ownsRow w.heap.size 3 1 (.slice (some ⟨w.heap.size, 0, none⟩) 0 (aS.length + bS.length)) ([] : List Int).length (ints [])) := World.ownsRow_made w Z.toArray (aS.length + bS.length) (Nat.le_refl _) (by unfold maxLen; omega) (by simp [hZ])
  have HB0 : Hid (Below w.heap.size w (w.alloc (.cells Z.toArray 3))) := low_alloc _ _
  clear hmk hZ
  go_enter Try.func70, Try.ntmps70
  go_wp2_with fail
  generalize w.alloc (.cells Z.toArray 3) = w0 at HO0 HB0
  go_loopw [0, 1, 5] (fun xa xb o wr => ∃ (qa qb : Addr) (da db : Nat) (xs ys acc : List Int), xa = .slice (some qa) xs.length da ∧ xb = .slice (some qb) ys.length db ∧ xs.length ≤ aS.length ∧ ys.length ≤ bS.length ∧ xs.length ≤ da ∧ ys.length ≤ db ∧ Up xs ∧ Up ys ∧ Sq w (some qa) (ints xs) ∧ Sq w (some qb) (ints ys) ∧ acc.length + xs.length + ys.length ≤ aS.length + bS.length ∧ acc ++ mg xs ys = mg aS bS ∧
      wr.ownsRow w.heap.size 3 1 o acc.length (ints acc) ∧ Below w.heap.size w wr) (fun xa xb _ _ => (match xa with | .slice _ n _ => n | _ => 0) + (match xb with | .slice _ n _ => n | _ => 0))
  case atStart => exact ⟨pa, pb, ca, cb, aS, bS, [], rfl, rfl, Nat.le_refl _, Nat.le_refl _, hca, hcb, HUa.out, HUb.out, H.out, H'.out, by simp, rfl, HO0.out, HB0.out⟩
  case round =>
    obtain ⟨qa, qb, da, db, xs, ys, acc, rfl, rfl, hxl, hyl, hxd, hyd, hux, huy, hsx, hsy, hsum, hmg, hown, hb⟩ := hrel
    have HUx : Hid (Up xs) := hux
    have HUy : Hid (Up ys) := huy
    have HSx : Hid (Sq w (some qa) (ints xs)) := hsx
    have HSy : Hid (Sq w (some qb) (ints ys)) := hsy
    have HMg : Hid (acc ++ mg xs ys = mg aS bS) := hmg
    have HA : Hid (wr.ownsRow w.heap.size 3 1 u5 acc.length (ints acc)) := hown
    have HQ : Hid (Below w.heap.size w wr) := hb
    clear hux huy hsx hsy hmg hown hb HO0 HB0
    have hw := HQ.out.size
    by_cases hboth : 0 < xs.length ∧ 0 < ys.length
    · obtain ⟨h1, h2⟩ := hboth
      cases xs with
      | nil => simp at h1
      | cons x r =>
        cases ys with
        | nil => simp at h2
        | cons y s =>
          obtain ⟨_, hq1, _, cx⟩ := (HSx.out.below HQ.out).cell 0 (.int .i64 x) rfl
          cases hq1
          obtain ⟨_, hq2, _, cy⟩ := (HSy.out.below HQ.out).cell 0 (.int .i64 y) rfl
          cases hq2
          rw [show qa.add 0 = qa from rfl] at cx
          rw [show qb.add 0 = qb from rfl] at cy
          have hsome := beh_some wr
          have kx := Beh.cell cx
          have ky := Beh.cell cy
          obtain ⟨e1, e2, e3, e4, e5, e6⟩ := merge_step HUx.out HUy.out
          have HCx : Hid (∀ (W : World), Below w.heap.size w W → Calls Try.prog 107 #[.slice (some qa) (x :: r).length da, .int .i64 (if y < x then y else x)] W fun e w' => ∃ (q : Addr) (c : Nat), e = .returned (.slice (some q) (cutL (if y < x then y else x) x r).length c) ∧ Sq w (some q) (ints (cutL (if y < x then y else x) x r)) ∧ (cutL (if y < x then y else x) x r).length ≤ c ∧ w' = W) := fun W hW => behind_c qa da x _ r (by omega) hxd w W hW HSx.out
          have HCy : Hid (∀ (W : World), Below w.heap.size w W → Calls Try.prog 107 #[.slice (some qb) (y :: s).length db, .int .i64 (if y < x then y else x)] W fun e w' => ∃ (q : Addr) (c : Nat), e = .returned (.slice (some q) (cutL (if y < x then y else x) y s).length c) ∧ Sq w (some q) (ints (cutL (if y < x then y else x) y s)) ∧ (cutL (if y < x then y else x) y s).length ≤ c ∧ w' = W) := fun W hW => behind_c qb db y _ s (by omega) hyd w W hW HSy.out
          simp only [List.length_cons] at hxl hyl hxd hyd hsum HCx HCy ⊢
          have n1 : (0 : Int) < (r.length : Int) + 1 := by omega
          have n2 : (0 : Int) < (s.length : Int) + 1 := by omega
          go_wp2_with fail
          refine wp_region_beh (by kernel_rfl) (by kernel_rfl) ?_
          repeat (go_big_quiet_step (fail))
          refine wpQuiet_nil ?_
          rintro ⟨w2, hb2⟩
          generalize (if y < x then y else x) = z at *
          have HA2 : Hid (w2.ownsRow w.heap.size 3 1 u5 acc.length (ints acc)) := owns_below HA.out hb2
          have HQ2 : Hid (Below w.heap.size w w2) := below_then HQ.out hb2
          have HM2 : Hid (acc ++ [z] ++ mg (cutL z x r) (cutL z y s) = mg aS bS) := by show _ = _; rw [← HMg.out, e1]; simp
          clear cx cy kx ky hsome e1
          generalize cutL z x r = xs2 at *
          generalize cutL z y s = ys2 at *
          go_wp2_with (at_builtin; refine wpl_app1 (B := w) (base := w.heap.size) (xs := acc) (y := z) rfl rfl HA2.out (by omega) HQ2.out (Nat.le_refl _) HQ2.out.size rfl rfl ?_)
          intro v1 w6 HA3 HQ3
          go_wp2_with fail
          refine (HCx.out w6 HQ3.out).mono ?_
          rintro e w7 ⟨q7, c7, rfl, s7, d7, rfl⟩
          have S7 : Hid (Sq w (some q7) (ints xs2)) := s7
          clear s7
          go_wp2_with fail
          refine (HCy.out w7 HQ3.out).mono ?_
          rintro e w8 ⟨q8, c8, rfl, s8, d8, rfl⟩
          have S8 : Hid (Sq w (some q8) (ints ys2)) := s8
          have U1 : Hid (Up xs2) := e5
          have U2 : Hid (Up ys2) := e6
          clear s8 e5 e6
          go_wp2_with fail
          exact ⟨⟨q7, q8, c7, c8, xs2, ys2, acc ++ [z], rfl, rfl, by omega, by omega, d7, d8, U1.out, U2.out, S7.out, S8.out, by simp; omega, HM2.out, by rw [List.length_append, List.length_singleton]; exact HA3.out, HQ3.out⟩, by simp; omega⟩
    · have HEnd : Hid (acc ++ xs ++ ys = mg aS bS) := by
        show _ = _
        rw [← HMg.out, List.append_assoc]
        congr 1
        have hxy := hboth
        by_cases h1 : xs = []
        · subst h1
          rw [mg_none HUy.out (by omega)]
          rfl
        · have h2 : ys = [] := List.length_eq_zero_iff.1 (by have hp := List.length_pos_iff.2 h1; rcases Nat.eq_zero_or_pos ys.length with h | h; exact h; exact absurd ⟨hp, h⟩ hxy)
          subst h2
          rw [mg_nil]
          simp
      by_cases hx0 : 0 < xs.length
      case' pos =>
        have n1 : (0 : Int) < (xs.length : Int) := by omega
        have n2 : ¬ (0 : Int) < (ys.length : Int) := fun h => hboth ⟨hx0, by omega⟩
      case' neg => have n1 : ¬ (0 : Int) < (xs.length : Int) := by omega
      all_goals
        clear hboth
        go_wp2_with (at_builtin; refine wpl_appL (B := w) (base := w.heap.size) (xs := acc) (zs := xs) (q := qa) rfl rfl HA.out (by omega) HQ.out (Nat.le_refl _) HQ.out.size (HSx.out.below HQ.out) rfl rfl ?_)
        intro v1 w6 HA1 HQ1
        have HA2 : Hid (w6.ownsRow w.heap.size 3 1 v1 (acc ++ xs).length (ints (acc ++ xs))) := by rw [List.length_append]; exact HA1
        go_wp2_with (at_builtin; refine wpl_appL (B := w) (base := w.heap.size) (xs := acc ++ xs) (zs := ys) (q := qb) rfl rfl HA2.out (by simp; omega) HQ1.out (Nat.le_refl _) HQ1.out.size (HSy.out.below HQ1.out) rfl rfl ?_)
        intro v2 w7 HA3 HQ3
        have HA4 : Hid (w7.ownsRow w.heap.size 3 1 v2 (acc ++ xs ++ ys).length (ints (acc ++ xs ++ ys))) := by
          have e : (acc ++ xs ++ ys).length = (acc ++ xs).length + ys.length := List.length_append
          rw [e]
          first | exact HA3 | simpa using HA3
        go_wp2_with fail
        go_ret
        rw [← HEnd.out]
        exact ⟨v2, rfl, HA4.out, HQ3.out⟩
end Go.Proofs.Ytdmgcbagijiohaa
