/- FnExactJournalOpen: for all arguments the program's JournalOpen answers as the specification's; the listed variables of the library lie as its text lays them. -/
import Derived.Test.YtpdmhpcejmankaaDoorWkJournalOpen
import Derived.Test.YtpdmhpcejmankaaDoorJoP
import Derived.Test.YtpdmhpcejmankaaDoorWrap
import Derived.Test.YtpdmhpcejmankaaDoorCards
import Derived.Test.YtpdmhpcejmankaaDoorTie
import Derived.SevenTiedAt
namespace Go.Proofs.YtpdmhpcejmankaaDoor
namespace LawJournalOpen
open Go.ChangeShapes Go.WideShapes Go.ChangeAt Go.RowKit
open Go.WideMaps Go.WideElems
open Go.ChangeMaps (open_string shut_string)

set_option maxRecDepth 100000 in
theorem lifted (os : Os) (started : os.Started) (H : Type) (enc : TypeId × Value → H) :
    ReturnsInHanded {} Tryd.checked os 6 .any (fun w args => (Rows.fnExactJournalOpenSpec.pre enc Tryd.prog Tryd.f6 [] false w args ∧ laidMetH Tryd.prog Rows.fnExactJournalOpenRow.laid w) ∧ sizedMet enc Tryd.prog Tryd.f6 (OpenSpec.ofChange Rows.fnExactJournalOpenSpec) false w args)
      (Rows.fnExactJournalOpenSpec.post enc Tryd.prog Tryd.f6 false true false false) := by
  refine handed (laid := Rows.fnExactJournalOpenRow.laid) started (by kernel_rfl) Tryd.func6
    (ChangeSpec.witness_shaped (enc := enc) (C := Tryd.checked) (os := os) (X := fun w _ => laidMetH Tryd.prog Rows.fnExactJournalOpenRow.laid w) false (World.laidAll Tryd.prog os Rows.fnExactJournalOpenRow.laid) #[.slice none 0 0] 8 (World.laidAll_os _ _ _)
      (World.shaped_of_ZipB (by kernel_rfl) (by kernel_rfl)) (by kernel_rfl) (by kernel_rfl) (by kernel_rfl)
      (by rw [MakeChecks.laidMetH_plain _ _ _ (by kernel_rfl)]; exact laidMet_laidAll _ (by kernel_rfl) (by kernel_rfl))) ?_
  intro W base args ds gs before hval0 hW hL hsh
  have hval : ∀ (j : Nat) t v, Tryd.f6.params[j]? = some t → args[j]? = some v → Value.okWide Tryd.prog W .any base t v := hval0
  have hW' := hW
  obtain ⟨p, q, hA0, hV, rfl, hfz, hnd⟩ := hW
  have hA : DataW.TrodAll enc Tryd.prog W 0 (fun _ => true) true Tryd.f6.params.toList args.toList ds p := hA0
  rw [Tryd.params6] at hA hval
  obtain ⟨v0, d0, rfl, rfl, h0⟩ := trodAll_one hA
  obtain ⟨rfl, rfl⟩ := trodVars_none hV
  obtain ⟨x0, n0, cp0, rfl⟩ := okWide_slice Tryd.underlying22 (hval 0 22 v0 rfl rfl)
  obtain ⟨a0, l0, c0, hv0, hl0, hb0⟩ : ∃ a l cap, Value.slice x0 n0 cp0 = .slice a (l : List UInt8).length cap ∧ l.length ≤ maxLen ∧ ByA W a l := by
    obtain ⟨fuel, hf⟩ := h0
    exact bytes_opened (by simpa [Value.cells] using hf)
  cases hv0
  clear hA0 hval0
  simp only [List.append_nil] at hW'
  have hM := hL
  rw [MakeChecks.laidMetH_plain _ _ _ (by kernel_rfl)] at hM
  refine (walk _ _ l0 hl0 W hb0 ⟨tab_head hM.tail.tail, Tryd.laysM144.s1_3 W hsh⟩).mono fun e W' ⟨he, hg⟩ => ?_
  subst he
  have hlt : ∀ x ∈ p, x.block < W.heap.size := fun x hx => by simpa using hW'.lt x hx
  have harg0 := Below.trod laidOutJ (by kernel_rfl) (of_decide_eq_true (by kernel_rfl)) h0 hg (fun x hx => hlt x (hx))
  exact ⟨_, rfl, _, _, _, [], _, [], hW', trodAll_mk1 (shut_bool Tryd.underlying4 _), trodAll_mk1 harg0, rfl, hg.frame _, fun h => by cases h⟩
end LawJournalOpen

theorem fnExactJournalOpen_row : Rows.FnExactJournalOpenSaid :=
  OpenClaim.holds_of_wide 6 Tryd.f6 rfl rfl rfl rfl rfl rfl rfl ⟨rfl, rfl, rfl, rfl, rfl⟩ rfl rfl rfl rfl rfl (by kernel_rfl) Tryd.func6 (by kernel_rfl)
    (of_decide_eq_true (by kernel_rfl)) (by unfold Func.isWrapper; rw [if_neg (of_decide_eq_false (by kernel_rfl))]; exact ⟨rfl, rfl⟩)
    (fun os started H enc _ => LawJournalOpen.lifted os started H enc)

/-- For all arguments: the law returns true; what it lists is tied to the program's text. -/
theorem fnExactJournalOpen_holds : Rows.FnExactJournalOpenCardSaid :=
  Claim7.holds_tied_plain_at .later [] _ true _ _
    fnExactJournalOpen_row (fun _ h => by cases h) (by kernel_rfl) (fun _ h => by cases h) fnExactJournalOpen_row_tie rfl ⟨rfl, rfl⟩ (by kernel_rfl) rfl
    (fun f fn hf hfn => by
      obtain rfl : f = 6 := Option.some.inj ((show Tryd.prog.funcNamed Rows.fnExactJournalOpenRow.func = some 6 by kernel_rfl).symm.trans hf) |>.symm
      obtain rfl : fn = Tryd.f6 := (Option.some.inj (Tryd.func6.symm.trans hfn)).symm
      exact ⟨by kernel_rfl, fun j t ht => by
        rw [Tryd.params6] at ht
        have hm : t ∈ [22] := by simpa using Array.mem_of_getElem? ht
        have hall : ([22].all fun u => !Tryd.prog.wantsStandIn u) = true := by kernel_rfl
        exact (show Tryd.prog.wantsStandIn t = false by simpa using List.all_eq_true.1 hall t hm)⟩)
    (by kernel_rfl)
#print axioms fnExactJournalOpen_holds
end Go.Proofs.YtpdmhpcejmankaaDoor
