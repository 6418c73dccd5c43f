/- FnExactTextVec: for every text the program's TextVec answers as the specification's; the listed variables of the library lie as its text lays them. -/
import Derived.Test.YtiblegdhaiajnajDoorWrap
import Derived.Test.YtiblegdhaiajnajDoorTvB
import Derived.Test.YtiblegdhaiajnajDoorLaid
import Derived.Test.YtiblegdhaiajnajDoorCards
import Derived.Test.YtiblegdhaiajnajDoorTie
import Derived.SevenTiedAt
namespace Go.Proofs.YtiblegdhaiajnajDoor
namespace LawTextVec
open Go.ChangeShapes Go.WideShapes Go.ChangeAt Go.RowKit
open Go.WideMaps Go.WideElems
open Go.ChangeMaps (open_string shut_string)

set_option maxHeartbeats 1000000 in
theorem walk (s : ByteArray) (w : World) (hs : s.size ≤ maxLen) (env : Env w) :
    Calls Tryd.prog 4 #[.string s] w fun e w' => e = .returned (.bool true) ∧ Below w.heap.size w w' := by
  have HE : Hid (Env w) := env
  clear env
  by_cases hl : 1048576 < s.size
  · unfold maxLen at hs
    go_enter Tryd.func4, Tryd.ntmps4
    go_wp2_with fail
    go_ret
    exact ⟨rfl, Below.refl _ _⟩
  · have hl' : s.size ≤ 1048576 := by omega
    have Hs : Hid (∀ W, Calls Tryd.prog 11 #[.string s] W fun e w' => e = .returned (.tuple #[.agg #[.int .i64 (tvR s.data.toList).1.1, .int .i64 (tvR s.data.toList).1.2.1, .int .i64 (tvR s.data.toList).1.2.2], .bool (tvR s.data.toList).2]) ∧ Below W.heap.size W w') := fun W => specTextVec_c s hl' W
    have Hi : Hid (∀ W, Env W → Calls Tryd.prog 12 #[.string s] W fun e w' => e = .returned (.tuple #[.agg #[.int .i64 (tvR s.data.toList).1.1, .int .i64 (tvR s.data.toList).1.2.1, .int .i64 (tvR s.data.toList).1.2.2], .bool (tvR s.data.toList).2]) ∧ Below W.heap.size W w') := fun W h => implTextVec_c s hl' W h
    generalize (tvR s.data.toList).1.1 = a at *
    generalize (tvR s.data.toList).1.2.1 = b at *
    generalize (tvR s.data.toList).1.2.2 = c at *
    generalize (tvR s.data.toList).2 = k at *
    clear hl hs
    go_enter Tryd.func4, Tryd.ntmps4
    go_wp2_with fail
    refine (Hs.out _).mono ?_
    rintro e w1 ⟨rfl, hb1⟩
    have B1 : Hid (Below w.heap.size w (w1.alloc (.cells #[.int .i64 a, .int .i64 b, .int .i64 c] 25))) := behind_alloc hb1 _
    clear hb1
    go_wp2_with fail
    refine (Hi.out _ (HE.out.on B1.out)).mono ?_
    rintro e w2 ⟨rfl, hb2⟩
    obtain ⟨d0, d1, d2⟩ := kept3 (behind_alloc hb2 (.cells #[.int .i64 a, .int .i64 b, .int .i64 c] 25)) w1.heap.size (.int .i64 a) (.int .i64 b) (.int .i64 c) (by go_size) (by simp [go_sem])
    have B2 : Hid (Below w.heap.size w (w2.alloc (.cells #[.int .i64 a, .int .i64 b, .int .i64 c] 25))) := behind_alloc (below_then B1.out hb2) _
    clear hb2 B1
    go_wp2_with fail
    refine (eqVec_c a b c a b c _).mono ?_
    rintro e we ⟨rfl, hbe⟩
    rw [show (a == a && b == b && c == c) = true by simp]
    go_wp2
    go_ret
    exact ⟨rfl, below_then B2.out hbe⟩

set_option maxRecDepth 100000 in
theorem lifted (os : Os) (started : os.Started) (H : Type) (enc : TypeId × Value → H) :
    ReturnsInHanded {} Tryd.checked os 4 .any (fun w args => (Rows.fnExactTextVecSpec.pre enc Tryd.prog Tryd.f4 [] false w args ∧ laidMetH Tryd.prog Rows.fnExactTextVecRow.laid w) ∧ sizedMet enc Tryd.prog Tryd.f4 (OpenSpec.ofChange Rows.fnExactTextVecSpec) false w args)
      (Rows.fnExactTextVecSpec.post enc Tryd.prog Tryd.f4 false true false false) := by
  refine handed (laid := Rows.fnExactTextVecRow.laid) started (by kernel_rfl) Tryd.func4
    (ChangeSpec.witness_shaped (enc := enc) (C := Tryd.checked) (os := os) (X := fun w _ => laidMetH Tryd.prog Rows.fnExactTextVecRow.laid w) false (World.laidAll Tryd.prog os Rows.fnExactTextVecRow.laid) #[.string ByteArray.empty] 8 (World.laidAll_os _ _ _)
      (World.shaped_of_ZipB (by kernel_rfl) (by kernel_rfl)) (by kernel_rfl) (by kernel_rfl) (by kernel_rfl)
      (by rw [MakeChecks.laidMetH_plain _ _ _ (by kernel_rfl)]; exact laidMet_laidAll _ (by kernel_rfl) (by kernel_rfl))) ?_
  intro W base args ds gs before hval0 hW hL hsh
  have hval : ∀ (j : Nat) t v, Tryd.f4.params[j]? = some t → args[j]? = some v → Value.okWide Tryd.prog W .any base t v := hval0
  have hW' := hW
  obtain ⟨p, q, hA0, hV, rfl, hfz, hnd⟩ := hW
  have hA : DataW.TrodAll enc Tryd.prog W 0 (fun _ => true) true Tryd.f4.params.toList args.toList ds p := hA0
  rw [Tryd.params4] at hA hval
  obtain ⟨v0, d0, rfl, rfl, h0⟩ := trodAll_one hA
  obtain ⟨rfl, rfl⟩ := trodVars_none hV
  obtain ⟨s, rfl, rfl, rfl, hs⟩ := open_string Tryd.underlying9 (hval 0 9 v0 rfl rfl) h0
  clear hA0 hval0
  simp only [List.append_nil] at hW'
  have hM := hL
  rw [MakeChecks.laidMetH_plain _ _ _ (by kernel_rfl)] at hM
  refine (walk s W hs ⟨tab_head hM.tail.tail, errs_head hM.tail.tail.tail.tail hM.tail.tail.tail.tail.tail, Tryd.laysM146.s1_3 W hsh⟩).mono fun e W' ⟨he, hg⟩ => ?_
  subst he
  exact ⟨_, rfl, _, _, _, [], [], [], hW', trodAll_mk1 (shut_bool Tryd.underlying4 _), trodAll_mk1 (shut_string Tryd.underlying9 hs), rfl, hg.frame _, fun h => by cases h⟩
end LawTextVec

theorem fnExactTextVec_row : Rows.FnExactTextVecSaid :=
  OpenClaim.holds_of_wide 4 Tryd.f4 rfl rfl rfl rfl rfl rfl rfl ⟨rfl, rfl, rfl, rfl, rfl⟩ rfl rfl rfl rfl rfl (by kernel_rfl) Tryd.func4 (by kernel_rfl)
    (of_decide_eq_true (by kernel_rfl)) (by unfold Func.isWrapper; rw [if_neg (of_decide_eq_false (by kernel_rfl))]; exact ⟨rfl, rfl⟩)
    (fun os started H enc _ => LawTextVec.lifted os started H enc)

/-- For every text: the law returns true; what it lists is tied to the program's text. -/
theorem fnExactTextVec_holds : Rows.FnExactTextVecCardSaid :=
  Claim7.holds_tied_plain_at .later [] _ true _ _
    fnExactTextVec_row (fun _ h => by cases h) (by kernel_rfl) (fun _ h => by cases h) fnExactTextVec_row_tie rfl ⟨rfl, rfl⟩ (by kernel_rfl) rfl
    (fun f fn hf hfn => by
      obtain rfl : f = 4 := Option.some.inj ((show Tryd.prog.funcNamed Rows.fnExactTextVecRow.func = some 4 by kernel_rfl).symm.trans hf) |>.symm
      obtain rfl : fn = Tryd.f4 := (Option.some.inj (Tryd.func4.symm.trans hfn)).symm
      exact ⟨by kernel_rfl, fun j t ht => by
        rw [Tryd.params4] at ht
        have hm : t ∈ [9] := by simpa using Array.mem_of_getElem? ht
        have hall : ([9].all fun u => !Tryd.prog.wantsStandIn u) = true := by kernel_rfl
        exact (show Tryd.prog.wantsStandIn t = false by simpa using List.all_eq_true.1 hall t hm)⟩)
    (by kernel_rfl)
#print axioms fnExactTextVec_holds
end Go.Proofs.YtiblegdhaiajnajDoor
