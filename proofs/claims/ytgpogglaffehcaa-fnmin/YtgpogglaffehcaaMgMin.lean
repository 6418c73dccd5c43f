/- FnMin: for every code the law returns true: the least of a time is at most what is free at any time of it, and the least of a shorter one is not less; no condition. -/
import Derived.Test.YtgpogglaffehcaaMgC
import Derived.Test.YtgpogglaffehcaaPMinC
import Derived.Test.YtgpogglaffehcaaPAtC
import Derived.Test.YtgpogglaffehcaaVecD
import Derived.Deep.RegionWith
import Derived.Deep.DeepCutAuto
import Derived.Test.YtgpogglaffehcaaMgA
import Derived.ProofKit
import Derived.OpenShut
namespace Go.Proofs.Ytgpogglaffehcaa
open Go.ChangeShapes Go.WideShapes Go.ChangeAt Go.RowKit

theorem atR_yes {ns : List Nd} {t : Int} (h : POk ns) (ht : timeB t = true) : atR ns t = atL ns t := by
  unfold atR
  rw [if_pos ⟨h, ht⟩]

set_option maxHeartbeats 4000000 in
set_option maxRecDepth 100000 in
theorem fnMin_walk (a : Option Addr) (n cap : Nat) (w : World) (hc : n ≤ 1048576 → CodeIs w a n) :
    Calls Try.prog 4 #[.slice a n cap] w fun e w' => e = .returned (.bool true) ∧ Below w.heap.size w w' := by
  by_cases hbig : 1048576 < n
  · have hi : (1048576 : Int) < (n : Int) := by omega
    clear hc hbig
    go_enter Try.func4, Try.ntmps4
    go_wp2_with fail
    go_ret
    exact ⟨rfl, Below.refl _ _⟩
  · have H : Hid (CodeIs w a n) := hc (by omega)
    have hi : ¬ (1048576 : Int) < (n : Int) := by omega
    clear hc hbig
    go_enter Try.func4, Try.ntmps4
    go_wp2_with fail
    refine (drawProfMin_c a n cap w H.out).mono ?_
    rintro e w1 ⟨q, c, ns, f, t, rfl, hns, hnc, sq, hb⟩
    have HS1 : Hid (Sq w1 q (flat ns)) := sq
    have HB1 : Hid (Below w.heap.size w w1) := hb
    clear sq hb
    go_wp2_with fail
    have HS2 : Hid (Sq (w1.alloc (.cells #[.slice q ns.length c] 25)) q (flat ns)) := HS1.out.below (low_alloc _ _)
    have HB2 : Hid (Below w.heap.size w (w1.alloc (.cells #[.slice q ns.length c] 25))) := behind_alloc HB1.out _
    have HP2 : Hid (Row (w1.alloc (.cells #[.slice q ns.length c] 25)) w1.heap.size [.slice q ns.length c]) := row_fresh w1 [.slice q ns.length c] 25
    generalize w1.alloc (.cells #[.slice q ns.length c] 25) = V at *
    generalize w1.heap.size = P at *
    clear HS1 HB1
    refine (implProfMin_c q c ns f t hnc _ HS2.out).mono ?_
    rintro e w3 ⟨rfl, hb⟩
    have B3 : Hid (Below V.heap.size V w3) := hb
    clear hb
    have HSp : Hid (∀ W, Below V.heap.size V W → Calls Try.prog 22 #[.agg #[.slice q ns.length c], .int .i64 f, .int .i64 t] W fun e w' => e = .returned (.tuple #[.agg #[.int .i64 (minR ns f t).a, .int .i64 (minR ns f t).b, .int .i64 (minR ns f t).c], .bool (minK ns f t)]) ∧ Below W.heap.size W w') := fun W hW => specProfMin_c q c ns f t W (HS2.out.below hW)
    have hPV := HP2.out.lt
    have hV3 := B3.out.size
    have p3 := (HP2.out.below B3.out).cell 0 _ rfl
    have hP3 : P ≠ w3.heap.size := by omega
    have hP3' : P < w3.heap.size := by omega
    have B4 : Hid (Below V.heap.size V (w3.alloc (.cells #[.int .i64 (minR ns f t).a, .int .i64 (minR ns f t).b, .int .i64 (minR ns f t).c] 27))) := behind_alloc B3.out _
    have M4 : Hid (Row (w3.alloc (.cells #[.int .i64 (minR ns f t).a, .int .i64 (minR ns f t).b, .int .i64 (minR ns f t).c] 27)) w3.heap.size [.int .i64 (minR ns f t).a, .int .i64 (minR ns f t).b, .int .i64 (minR ns f t).c]) := row_fresh w3 [.int .i64 (minR ns f t).a, .int .i64 (minR ns f t).b, .int .i64 (minR ns f t).c] 27
    go_wp2_with fail
    generalize w3.alloc (.cells #[.int .i64 (minR ns f t).a, .int .i64 (minR ns f t).b, .int .i64 (minR ns f t).c] 27) = w4 at *
    clear p3 hP3 hP3' B3
    generalize w3.heap.size = M at *
    refine (HSp.out w4 B4.out).mono ?_
    rintro e w5 ⟨rfl, hb⟩
    have B5 : Hid (Below V.heap.size V w5) := below_then B4.out hb
    have M5 : Hid (Row w5 M [.int .i64 (minR ns f t).a, .int .i64 (minR ns f t).b, .int .i64 (minR ns f t).c]) := M4.out.below hb
    clear hb B4 M4 HSp
    cases hk : minK ns f t
    · have hm : minR ns f t = ⟨0, 0, 0, 0⟩ := by
        unfold minR
        rw [hk]
        rfl
      rw [hm] at M5 ⊢
      have m0 := M5.out.cell 0 _ rfl
      have m1 := M5.out.cell 1 _ rfl
      have m2 := M5.out.cell 2 _ rfl
      have hMn : M ≠ w5.heap.size := by have := M5.out.lt; omega
      have hMl := M5.out.lt
      clear hk hm
      have hvq : ∀ Q : World, (Op.equalIn 10000 27 (.agg #[.int .i64 0, .int .i64 0, .int .i64 0]) (.agg #[.int .i64 0, .int .i64 0, .int .i64 0])).run Try.prog Q = .ok true Q := fun Q => by rw [eq_vec]; rfl
      go_wp2_with fail
      go_ret
      exact ⟨rfl, below_then HB2.out (behind_alloc B5.out _)⟩
    · obtain ⟨hok, hs⟩ := minK_iff hk
      have hm : minR ns f t = minTo ns f t ns.length := (minK_yes hok hs).2
      have hsp := span_iff.1 hs
      rw [hm] at M5 ⊢
      clear hm hk
      have hMn : M ≠ w5.heap.size := by have := M5.out.lt; omega
      have hMl := M5.out.lt
      have hPn : P ≠ w5.heap.size := by have := B5.out.size; omega
      have hPl : P < w5.heap.size := by have := B5.out.size; omega
      have p5 := (HP2.out.below B5.out).cell 0 _ rfl
      have hs2 : spanB f (f + (t - f + 1) / 2) = true := span_iff.2 ⟨hsp.1, ⟨by omega, by omega⟩, by omega⟩
      have HQ : Hid (∀ W, Below V.heap.size V W → Calls Try.prog 21 #[.agg #[.slice q ns.length c], .int .i64 f, .int .i64 (f + (t - f + 1) / 2)] W fun e w' => e = .returned (.tuple #[.agg #[.int .i64 (minTo ns f (f + (t - f + 1) / 2) ns.length).a, .int .i64 (minTo ns f (f + (t - f + 1) / 2) ns.length).b, .int .i64 (minTo ns f (f + (t - f + 1) / 2) ns.length).c], .bool true]) ∧ Below W.heap.size W w') := fun W hW => by
        have h := implProfMin_c q c ns f (f + (t - f + 1) / 2) hnc W (HS2.out.below hW)
        rw [(minK_yes hok hs2).1, (minK_yes hok hs2).2] at h
        exact h
      have hv1 : vokN (minTo ns f t ns.length) = true := min_ok hok hsp.1.1 _
      have hv2 : vokN (minTo ns f (f + (t - f + 1) / 2) ns.length) = true := min_ok hok hsp.1.1 _
      have HF1 : Hid (fitB (minTo ns f t ns.length).a (minTo ns f t ns.length).b (minTo ns f t ns.length).c (atL ns f).a (atL ns f).b (atL ns f).c = true) := fit_le hv1 (hok.at_ok hsp.1.1) (min_at hok hsp.1.1 (Int.le_refl _) (by omega))
      have HF2 : Hid (fitB (minTo ns f t ns.length).a (minTo ns f t ns.length).b (minTo ns f t ns.length).c (atL ns (t - 1)).a (atL ns (t - 1)).b (atL ns (t - 1)).c = true) := fit_le hv1 (hok.at_ok (by omega)) (min_at hok hsp.1.1 (by omega) (by omega))
      have HF3 : Hid (fitB (minTo ns f t ns.length).a (minTo ns f t ns.length).b (minTo ns f t ns.length).c (minTo ns f (f + (t - f + 1) / 2) ns.length).a (minTo ns f (f + (t - f + 1) / 2) ns.length).b (minTo ns f (f + (t - f + 1) / 2) ns.length).c = true) := fit_le hv1 hv2 (min_less (by omega))
      have HA1 : Hid (∀ W, Below V.heap.size V W → Calls Try.prog 15 #[.agg #[.slice q ns.length c], .int .i64 f] W fun e w' => e = .returned (.agg #[.int .i64 (atL ns f).a, .int .i64 (atL ns f).b, .int .i64 (atL ns f).c]) ∧ Below W.heap.size W w') := fun W hW => by
        have h := implProfAt_c q c ns f W (HS2.out.below hW)
        rw [atR_yes hok (time_iff.2 hsp.1)] at h
        exact h
      have HA2 : Hid (∀ W, Below V.heap.size V W → Calls Try.prog 15 #[.agg #[.slice q ns.length c], .int .i64 (t - 1)] W fun e w' => e = .returned (.agg #[.int .i64 (atL ns (t - 1)).a, .int .i64 (atL ns (t - 1)).b, .int .i64 (atL ns (t - 1)).c]) ∧ Below W.heap.size W w') := fun W hW => by
        have h := implProfAt_c q c ns (t - 1) W (HS2.out.below hW)
        rw [atR_yes hok (time_iff.2 ⟨by omega, by omega⟩)] at h
        exact h
      generalize minTo ns f (f + (t - f + 1) / 2) ns.length = m2 at *
      generalize minTo ns f t ns.length = m at *
      generalize atL ns f = x1 at *
      generalize atL ns (t - 1) = x2 at *
      clear hv1 hv2 hs2 hs
      go_wp2_with fail
      have B6 : Hid (Below V.heap.size V (w5.alloc (.cells #[.int .i64 m.a, .int .i64 m.b, .int .i64 m.c] 27))) := behind_alloc B5.out _
      have M6 : Hid (Row (w5.alloc (.cells #[.int .i64 m.a, .int .i64 m.b, .int .i64 m.c] 27)) M [.int .i64 m.a, .int .i64 m.b, .int .i64 m.c]) := M5.out.below (low_alloc _ _)
      generalize w5.alloc (.cells #[.int .i64 m.a, .int .i64 m.b, .int .i64 m.c] 27) = w6 at *
      clear B5 M5 p5
      refine (HQ.out w6 B6.out).mono ?_
      rintro e w7 ⟨rfl, hb⟩
      have B7 : Hid (Below V.heap.size V w7) := below_then B6.out hb
      have M7 : Hid (Row w7 M [.int .i64 m.a, .int .i64 m.b, .int .i64 m.c]) := M6.out.below hb
      clear hb B6 M6 HQ hMn hPn
      go_wp2_with fail
      have B8 : Hid (Below V.heap.size V (w7.alloc (.cells #[.int .i64 m2.a, .int .i64 m2.b, .int .i64 m2.c] 27))) := behind_alloc B7.out _
      have M8 : Hid (Row (w7.alloc (.cells #[.int .i64 m2.a, .int .i64 m2.b, .int .i64 m2.c] 27)) M [.int .i64 m.a, .int .i64 m.b, .int .i64 m.c]) := M7.out.below (low_alloc _ _)
      have N8 : Hid (Row (w7.alloc (.cells #[.int .i64 m2.a, .int .i64 m2.b, .int .i64 m2.c] 27)) w7.heap.size [.int .i64 m2.a, .int .i64 m2.b, .int .i64 m2.c]) := row_fresh w7 [.int .i64 m2.a, .int .i64 m2.b, .int .i64 m2.c] 27
      generalize w7.alloc (.cells #[.int .i64 m2.a, .int .i64 m2.b, .int .i64 m2.c] 27) = U at *
      generalize w7.heap.size = N at *
      have hsome := beh_some U
      have hwt : IntKind.i64.wrap (t - 1) = t - 1 := by rw [IntKind.wrap_i64]; omega
      have q0 := Beh.row (HP2.out.below B8.out) 0 _ rfl
      have q1 := Beh.row M8.out 0 _ rfl
      have q2 := Beh.row M8.out 1 _ rfl
      have q3 := Beh.row M8.out 2 _ rfl
      have q4 := Beh.row N8.out 0 _ rfl
      have q5 := Beh.row N8.out 1 _ rfl
      have q6 := Beh.row N8.out 2 _ rfl
      have HC1 : Hid (∀ n : Beh U, Calls Try.prog 15 #[.agg #[.slice q ns.length c], .int .i64 f] n.w fun e w' => e = .returned (.agg #[.int .i64 x1.a, .int .i64 x1.b, .int .i64 x1.c]) ∧ Below n.w.heap.size n.w w') := fun n => HA1.out n.w (below_then B8.out n.low)
      have HC2 : Hid (∀ n : Beh U, Calls Try.prog 15 #[.agg #[.slice q ns.length c], .int .i64 (t - 1)] n.w fun e w' => e = .returned (.agg #[.int .i64 x2.a, .int .i64 x2.b, .int .i64 x2.c]) ∧ Below n.w.heap.size n.w w') := fun n => HA2.out n.w (below_then B8.out n.low)
      have HG1 : Hid (∀ n : Beh U, Calls Try.prog 23 #[.agg #[.int .i64 m.a, .int .i64 m.b, .int .i64 m.c], .agg #[.int .i64 x1.a, .int .i64 x1.b, .int .i64 x1.c]] n.w fun e w' => e = .returned (.bool true) ∧ Below n.w.heap.size n.w w') := fun n => by
        have h := implVecFits_c m.a m.b m.c x1.a x1.b x1.c n.w
        rw [HF1.out] at h
        exact h
      have HG2 : Hid (∀ n : Beh U, Calls Try.prog 23 #[.agg #[.int .i64 m.a, .int .i64 m.b, .int .i64 m.c], .agg #[.int .i64 x2.a, .int .i64 x2.b, .int .i64 x2.c]] n.w fun e w' => e = .returned (.bool true) ∧ Below n.w.heap.size n.w w') := fun n => by
        have h := implVecFits_c m.a m.b m.c x2.a x2.b x2.c n.w
        rw [HF2.out] at h
        exact h
      have HG3 : Hid (∀ n : Beh U, Calls Try.prog 23 #[.agg #[.int .i64 m.a, .int .i64 m.b, .int .i64 m.c], .agg #[.int .i64 m2.a, .int .i64 m2.b, .int .i64 m2.c]] n.w fun e w' => e = .returned (.bool true) ∧ Below n.w.heap.size n.w w') := fun n => by
        have h := implVecFits_c m.a m.b m.c m2.a m2.b m2.c n.w
        rw [HF3.out] at h
        exact h
      clear HF1 HF2 HF3 HA1 HA2 hok B7 M7
      refine wp_region_beh (by kernel_rfl) (by kernel_rfl) ?_
      repeat (go_big_quiet_step (first | with_reducible exact calls_beh (HC1.out _) | with_reducible exact calls_beh (HC2.out _) | with_reducible exact calls_beh (HG1.out _) | with_reducible exact calls_beh (HG2.out _) | with_reducible exact calls_beh (HG3.out _)))
      refine wpQuiet_nil ?_
      rintro ⟨w9, hb9⟩
      go_wp2_with fail
      go_ret
      exact ⟨rfl, below_then HB2.out (below_then B8.out hb9)⟩
end Go.Proofs.Ytgpogglaffehcaa

namespace Go.Proofs.Ytgpogglaffehcaa
open Go.ChangeShapes Go.WideShapes Go.ChangeAt Go.RowKit

theorem laidOutAll : laidOutB Try.prog = true := by kernel_rfl
theorem cellsByte : Try.prog.cellsOf 5 = 1 := by kernel_rfl

theorem byte_in {x : Int} (h : (Lit.int .u8 x).wf = true) : 0 ≤ x ∧ x < 256 := by
  have h1 : IntKind.u8.min = 0 := rfl
  have h2 : IntKind.u8.max = 255 := rfl
  simp only [Lit.wf, Bool.and_eq_true, decide_eq_true_eq] at h
  omega

/-- A code that came in: its length, and its bytes where it is no longer than the laws look at. -/
theorem code_opened {H : Type} {enc : TypeId × Value → H} {W : World} {a : Option Addr} {n cap : Nat} {d : DataW H} {p : List MemPlace}
    (h : DataW.Trod enc Try.prog W 0 (fun _ => true) true 22 (.slice a n cap) d p) : n ≤ maxLen ∧ (n ≤ 1048576 → CodeIs W a n) := by
  obtain ⟨fuel, hf⟩ := h
  rcases open_ints Try.underlying22 Try.underlying5 cellsByte hf with ⟨hcs, _⟩ | ⟨b, len, c, zs, hcs, _, hl, hm, hz, _, hcell, hwz⟩
  · simp [Value.cells] at hcs
    obtain ⟨rfl, rfl, rfl⟩ := hcs
    exact ⟨Nat.zero_le _, fun _ => ⟨by omega, fun i hi => by omega⟩⟩
  · simp [Value.cells] at hcs
    obtain ⟨rfl, rfl, rfl⟩ := hcs
    simp only [if_true] at hz
    refine ⟨by omega, fun hn => ⟨hn, fun i hi => ?_⟩⟩
    have hi' : i < zs.length := by omega
    have hc := hcell i hi'
    have hg : zs.getD i 0 = zs[i] := by simp [List.getD, hi']
    have hw := byte_in (hwz zs[i] (List.getElem_mem hi'))
    refine ⟨b, zs[i], rfl, ?_, by rw [hc, hg], hw.1, hw.2⟩
    have := World.block_lt_of_cell? _ _ hc
    rwa [block_add] at this
end Go.Proofs.Ytgpogglaffehcaa

namespace Go.Proofs.Ytgpogglaffehcaa
namespace LawFnMin
open Go.ChangeShapes Go.WideShapes Go.ChangeAt Go.RowKit Go.Joins

theorem own : ownKnob Try.prog.godebug = none := by kernel_rfl

set_option maxRecDepth 100000 in
theorem lifted (os : Os) (started : os.Started) (H : Type) (enc : TypeId × Value → H) :
    ReturnsInHanded {} Try.checked os 4 .any (Rows.fnMinSpec.pre6 enc Try.prog Try.f4 Rows.fnMinRow.domain false) (Rows.fnMinSpec.post enc Try.prog Try.f4 false true false false) := by
  refine returnsInHanded_of_change (C := Try.checked) own started (by kernel_rfl) Try.func4
    (ChangeSpec.witness6 (enc := enc) (C := Try.checked) false ⟨#[], #[.slice none 0 0], []⟩ 8 (by kernel_rfl) (by kernel_rfl) (by kernel_rfl) (by kernel_rfl)) ?_
  intro W base args ds gs before hval0 hW _ _
  have hval : ∀ (j : Nat) t v, Try.f4.params[j]? = some t → args[j]? = some v → Value.okWide Try.prog W .any base t v := hval0
  have hW' := hW
  obtain ⟨p, q, hA0, hV, rfl, _, _⟩ := hW
  have hA : DataW.TrodAll enc Try.prog W 0 (fun _ => true) true Try.f4.params.toList args.toList ds p := hA0
  rw [Try.params4] at hA hval
  obtain ⟨v0, d0, rfl, rfl, h0⟩ := trodAll_one hA
  obtain ⟨rfl, rfl⟩ := trodVars_none hV
  obtain ⟨a, n, cap, rfl⟩ := okWide_slice Try.underlying22 (hval 0 22 v0 rfl rfl)
  clear hA0 hval0
  simp only [List.append_nil] at hW'
  obtain ⟨_, hc⟩ := code_opened h0
  refine (fnMin_walk a n cap W hc).mono fun e W' ⟨he, hg⟩ => ?_
  subst he
  have hlt : ∀ x ∈ p, x.block < W.heap.size := fun x hx => by simpa using hW'.lt x hx
  have harg := Below.trod laidOutAll (by kernel_rfl) (of_decide_eq_true (by kernel_rfl)) h0 hg hlt
  exact ⟨_, rfl, _, _, _, [], _, [], hW', trodAll_mk1 (shut_bool Try.underlying4 _), trodAll_mk1 harg, rfl, hg.frame _, fun h => by cases h⟩
end LawFnMin

/-- For every code: the law returns true, and the code reads as it did. -/
theorem fnMin_holds : Rows.FnMinSaid :=
  OpenClaim.holds_of_wide 4 Try.f4 rfl rfl rfl rfl rfl rfl rfl ⟨rfl, rfl, rfl, rfl, rfl⟩ rfl rfl rfl rfl rfl (by kernel_rfl) Try.func4 (by kernel_rfl)
    (of_decide_eq_true (by kernel_rfl)) (by unfold Func.isWrapper; rw [if_neg (of_decide_eq_false (by kernel_rfl))]; exact ⟨rfl, rfl⟩)
    (fun os started H enc _ => LawFnMin.lifted os started H enc)
#print axioms fnMin_holds
end Go.Proofs.Ytgpogglaffehcaa
