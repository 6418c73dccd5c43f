/- FnExactJournalAdd: for all arguments the program's JournalAdd answers as the specification's; the listed variables of the library lie as its text lays them. -/
import Derived.Test.YtpdmhpcejmankaaDoorWkJournalAdd
import Derived.Test.YtpdmhpcejmankaaDoorJoP
import Derived.Test.YtpdmhpcejmankaaDoorWrap
import Derived.Test.YtpdmhpcejmankaaDoorCards
import Derived.Test.YtpdmhpcejmankaaDoorTie
import Derived.SevenTiedAt
namespace Go.Proofs.YtpdmhpcejmankaaDoor
namespace LawJournalAdd
open Go.ChangeShapes Go.WideShapes Go.ChangeAt Go.RowKit
open Go.WideMaps Go.WideElems
open Go.ChangeMaps (open_string shut_string)

set_option maxRecDepth 100000 in
theorem lifted (os : Os) (started : os.Started) (H : Type) (enc : TypeId × Value → H) :
    ReturnsInHanded {} Tryd.checked os 7 .any (fun w args => (Rows.fnExactJournalAddSpec.pre enc Tryd.prog Tryd.f7 [] false w args ∧ laidMetH Tryd.prog Rows.fnExactJournalAddRow.laid w) ∧ sizedMet enc Tryd.prog Tryd.f7 (OpenSpec.ofChange Rows.fnExactJournalAddSpec) false w args)
      (Rows.fnExactJournalAddSpec.post enc Tryd.prog Tryd.f7 false true false false) := by
  refine handed (laid := Rows.fnExactJournalAddRow.laid) started (by kernel_rfl) Tryd.func7
    (ChangeSpec.witness_shaped (enc := enc) (C := Tryd.checked) (os := os) (X := fun w _ => laidMetH Tryd.prog Rows.fnExactJournalAddRow.laid w) false (World.laidAll Tryd.prog os Rows.fnExactJournalAddRow.laid) #[.agg #[.slice none 0 0, .int .i64 0, .int .i64 0], .string ByteArray.empty] 8 (World.laidAll_os _ _ _)
      (World.shaped_of_ZipB (by kernel_rfl) (by kernel_rfl)) (by kernel_rfl) (by kernel_rfl) (by kernel_rfl)
      (by rw [MakeChecks.laidMetH_plain _ _ _ (by kernel_rfl)]; exact laidMet_laidAll _ (by kernel_rfl) (by kernel_rfl))) ?_
  intro W base args ds gs before hval0 hW hL hsh
  have hval : ∀ (j : Nat) t v, Tryd.f7.params[j]? = some t → args[j]? = some v → Value.okWide Tryd.prog W .any base t v := hval0
  have hW' := hW
  obtain ⟨p, q, hA0, hV, rfl, hfz, hnd⟩ := hW
  have hA : DataW.TrodAll enc Tryd.prog W 0 (fun _ => true) true Tryd.f7.params.toList args.toList ds p := hA0
  rw [Tryd.params7] at hA hval
  obtain ⟨v0, v1, d0, d1, p0, p1, rfl, rfl, rfl, h0, h1⟩ := trodAll_two hA
  obtain ⟨rfl, rfl⟩ := trodVars_none hV
  obtain ⟨a0, l0, c0, s0, k0, rfl, hl0, hb0⟩ := journal_opened (hval 0 42 v0 rfl rfl) h0
  obtain ⟨s1, rfl, rfl, rfl, hs1⟩ := open_string Tryd.underlying9 (hval 1 9 v1 rfl rfl) h1
  clear hA0 hval0
  simp only [List.append_nil] at hW'
  have hM := hL
  rw [MakeChecks.laidMetH_plain _ _ _ (by kernel_rfl)] at hM
  refine (walk a0 c0 l0 s0 k0 s1 hl0 hs1 W hb0 ⟨tab_head hM.tail.tail, Tryd.laysM144.s1_3 W hsh⟩).mono fun e W' ⟨he, hg⟩ => ?_
  subst he
  have hlt : ∀ x ∈ p0, x.block < W.heap.size := fun x hx => hW'.lt x (by simp [hx])
  have harg0 := Below.trod laidOutJ (by kernel_rfl) (of_decide_eq_true (by kernel_rfl)) h0 hg (fun x hx => hlt x hx)
  exact ⟨_, rfl, _, _, _, [], _, [], hW', trodAll_mk1 (shut_bool Tryd.underlying4 _), trodAll_mk2 harg0 (shut_string Tryd.underlying9 hs1), rfl, hg.frame _, fun h => by cases h⟩
end LawJournalAdd

theorem fnExactJournalAdd_row : Rows.FnExactJournalAddSaid :=
  OpenClaim.holds_of_wide 7 Tryd.f7 rfl rfl rfl rfl rfl rfl rfl ⟨rfl, rfl, rfl, rfl, rfl⟩ rfl rfl rfl rfl rfl (by kernel_rfl) Tryd.func7 (by kernel_rfl)
    (of_decide_eq_true (by kernel_rfl)) (by unfold Func.isWrapper; rw [if_neg (of_decide_eq_false (by kernel_rfl))]; exact ⟨rfl, rfl⟩)
    (fun os started H enc _ => LawJournalAdd.lifted os started H enc)

/-- For all arguments: the law returns true; what it lists is tied to the program's text. -/
theorem fnExactJournalAdd_holds : Rows.FnExactJournalAddCardSaid :=
  Claim7.holds_tied_plain_at .later [] _ true _ _
    fnExactJournalAdd_row (fun _ h => by cases h) (by kernel_rfl) (fun _ h => by cases h) fnExactJournalAdd_row_tie rfl ⟨rfl, rfl⟩ (by kernel_rfl) rfl
    (fun f fn hf hfn => by
      obtain rfl : f = 7 := Option.some.inj ((show Tryd.prog.funcNamed Rows.fnExactJournalAddRow.func = some 7 by kernel_rfl).symm.trans hf) |>.symm
      obtain rfl : fn = Tryd.f7 := (Option.some.inj (Tryd.func7.symm.trans hfn)).symm
      exact ⟨by kernel_rfl, fun j t ht => by
        rw [Tryd.params7] at ht
        have hm : t ∈ [42, 9] := by simpa using Array.mem_of_getElem? ht
        have hall : ([42, 9].all fun u => !Tryd.prog.wantsStandIn u) = true := by kernel_rfl
        exact (show Tryd.prog.wantsStandIn t = false by simpa using List.all_eq_true.1 hall t hm)⟩)
    (by kernel_rfl)
#print axioms fnExactJournalAdd_holds
end Go.Proofs.YtpdmhpcejmankaaDoor
