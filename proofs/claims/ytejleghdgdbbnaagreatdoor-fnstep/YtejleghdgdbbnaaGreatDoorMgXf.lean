/- FnStep: for every code the law returns true; the listed variables of the library lie as its text lays them. -/
import Derived.Test.YtejleghdgdbbnaaGreatDoorRows
import Derived.ProofKit
import Derived.OpenShut
import Derived.LaidMore
import Derived.Stop.Joined
import Derived.Stop.LaidErr
import Derived.Lay
import Derived.Test.YtejleghdgdbbnaaGreatDoorMgUk
import Derived.Lib.LaidTab
import Derived.Test.YtejleghdgdbbnaaGreatDoorMgUc
import Derived.Test.YtejleghdgdbbnaaGreatDoorMgUh
import Derived.Test.YtejleghdgdbbnaaGreatDoorMgXa
import Derived.Test.YtejleghdgdbbnaaGreatDoorMgXe
import Derived.OpenVars
import Derived.Test.YtejleghdgdbbnaaGreatDoorCards
import Derived.Test.YtejleghdgdbbnaaGreatDoorTie
import Derived.SevenTiedAt
namespace Go.Proofs.YtejleghdgdbbnaaGreatDoor
open Go.ChangeShapes Go.WideShapes Go.ChangeAt Go.RowKit

theorem ownKnobNone : ownKnob Tryz.prog.godebug = none := by kernel_rfl

set_option maxRecDepth 100000 in
/-- The listed data and the shape of the world, both handed to the walk. -/
theorem handed {H : Type} {enc : TypeId × Value → H} {os : Os} {f : FuncId} {fn : Func} {s : ChangeSpec} {laid : List (String × DataW Unit)} (started : os.Started)
    (noInit : Tryz.checked.prog.inits.idxOf? f = none) (hfn : Tryz.checked.prog.funcs[f]? = some fn)
    (wit : ∃ (w : World) (tape : Tape) (i : Input), w.os = os ∧ (w.forCall tape i).Shaped Tryz.checked.prog ∧ i.vars = [] ∧ Input.okWide Tryz.checked.prog (w.forCall tape i) .any w.heap.size f i ∧
      ((s.pre enc Tryz.checked.prog fn [] false (w.forCall tape i).memory i.args ∧ laidMetH Tryz.checked.prog laid (w.forCall tape i).memory) ∧ sizedMet enc Tryz.checked.prog fn (OpenSpec.ofChange s) false (w.forCall tape i).memory i.args) ∧ ({} : Assume).holds Tryz.checked.prog (lone (Frame.enter Tryz.checked.prog f i.args .normal) [] (w.forCall tape i)))
    (walk : ∀ (W : World) (base : Nat) (args : Array Value) (ds gs : List (DataW H)) (before : List MemPlace),
      (∀ (j : Nat) t v, fn.params[j]? = some t → args[j]? = some v → Value.okWide Tryz.checked.prog W .any base t v) →
      DataW.Whole enc Tryz.checked.prog fn.params.toList s.vars false W args.toList ds gs before →
      laidMetH Tryz.checked.prog laid W → W.ShapedOpen Tryz.checked.prog →
      Calls Tryz.checked.prog f args W fun e W' => ∃ v, e = .returned v ∧ s.post enc Tryz.checked.prog fn false true false false W args v W') :
    ReturnsInHanded {} Tryz.checked os f .any (fun w args => (s.pre enc Tryz.checked.prog fn [] false w args ∧ laidMetH Tryz.checked.prog laid w) ∧ sizedMet enc Tryz.checked.prog fn (OpenSpec.ofChange s) false w args) (s.post enc Tryz.checked.prog fn false true false false) := by
  refine returnsInHanded_of_calls ownKnobNone started noInit wit fun w tape i _ shape _ ok pre _ => ?_
  obtain ⟨_, _, _, fn1, hfn1, _, _, _, _, vals⟩ := ok
  obtain rfl : fn1 = fn := Option.some.inj (hfn1.symm.trans hfn)
  obtain ⟨⟨⟨ds, gs, before, whole, _⟩, laidThere⟩, _⟩ := pre
  have whole1 := DataW.Whole.of_heap (w' := w.forCall tape i) (by rfl) whole
  refine (walk _ w.heap.size i.args ds gs before vals whole1 (laidThere.of_heap (by rfl)) shape).mono fun e W1 ⟨v, he, hp⟩ => ?_
  subst he
  exact ChangeSpec.post_blind hp
end Go.Proofs.YtejleghdgdbbnaaGreatDoor

namespace Go.Proofs.YtejleghdgdbbnaaGreatDoor
open Go.ChangeShapes Go.WideShapes Go.ChangeAt Go.RowKit

theorem own : ownKnob Tryz.prog.godebug = none := by kernel_rfl
theorem gTabType : (Tryz.prog.globals[3]?).map (·.type) = some 125 := by kernel_rfl
theorem cellsTab : Tryz.prog.cellsOf 125 = 20 := by kernel_rfl
theorem cellsElem : Tryz.prog.cellsOf 109 = 1 := by kernel_rfl
theorem gErrSType : (Tryz.prog.globals[4]?).map (·.type) = some 81 := by kernel_rfl
theorem gErrRType : (Tryz.prog.globals[5]?).map (·.type) = some 81 := by kernel_rfl
theorem cellsErr : Tryz.prog.cellsOf 143 = 1 := by kernel_rfl
theorem cellsStr : Tryz.prog.cellsOf 9 = 1 := by kernel_rfl
theorem star : "*" ++ "errors.errorString" = "*errors.errorString" := by decide
theorem rowErr (u : TypeId) (h : Tryz.prog.typeName? 3 u = some "*errors.errorString") : u = 141 :=
  typeName_ptr_named (nm := "errors.errorString") (by rw [star]; kernel_rfl) (by kernel_rfl) (by decide) u (by rw [star]; exact h)

theorem tab_head {W : World} {r : List (String × DataW Unit)} (h : laidMet Tryz.prog (("internal/strconv.uint64pow10", Rows.laid_internal_strconv_uint64pow10) :: r) W) : Tab W := by
  have h2 : laidMet Tryz.prog (("internal/strconv.uint64pow10", Lib.tabData .u64 Lib.pow10Tab) :: r) W := h
  have hT := Lib.tabIs_of_head gTab gTabType Tryz.underlying125 Tryz.underlying109 cellsElem cellsTab h2
  exact ⟨hT, World.block_lt_of_cell? W _ (hT.cell gTab 0 (by decide))⟩

theorem errs_head {W : World} {r r' : List (String × DataW Unit)} (hR : laidMet Tryz.prog (("strconv.ErrRange", Rows.laid_strconv_ErrRange) :: r) W) (hS : laidMet Tryz.prog (("strconv.ErrSyntax", Rows.laid_strconv_ErrSyntax) :: r') W) : Errs W := by
  obtain ⟨a0, s0, hv0, -, -, -⟩ := laid_sentinel hS gErrS gErrSType Tryz.underlying81 rowErr Tryz.underlying141 Tryz.underlying143 rfl rfl Tryz.underlying9 cellsErr cellsStr
  obtain ⟨a1, s1, hv1, -, -, -⟩ := laid_sentinel hR gErrR gErrRType Tryz.underlying81 rowErr Tryz.underlying141 Tryz.underlying143 rfl rfl Tryz.underlying9 cellsErr cellsStr
  have c0 := World.var?_cell gErrS hv0 0
  have c1 := World.var?_cell gErrR hv1 0
  exact ⟨⟨_, _, hv0⟩, ⟨_, _, hv1⟩, World.block_lt_of_cell? W _ (by simpa using c0), World.block_lt_of_cell? W _ (by simpa using c1)⟩
end Go.Proofs.YtejleghdgdbbnaaGreatDoor

namespace Go.Proofs.YtejleghdgdbbnaaGreatDoor
open Go.ChangeShapes Go.WideShapes Go.ChangeAt Go.RowKit

/-- An array of texts that reads as the list holds these texts, cell for cell. -/
theorem cells_of_texts {H : Type} {enc : TypeId × Value → H} {P : Program} {w : World} {base : Nat} {sp : Nat → Bool} {held : Bool} {fuel : Nat} {t e : TypeId} {n : Nat} {cs : List Value} {ws : List (List UInt8)} {p : List MemPlace}
    (ht : P.underlying t = some (.array n e)) (he : P.underlying e = some .string) (hce : P.cellsOf e = 1) (hct : P.cellsOf t = n)
    (h : DataW.trod enc P w base sp held fuel t cs = some (.agg (ws.map fun l => .lit (.string l)), p)) : cs = strs ws := by
  obtain ⟨xs, m, _, hx, hl, hxl, hf⟩ := DataW.trod_array ht h
  simp only [Prod.mk.injEq, DataW.agg.injEq] at hx
  have hxs := hx.1
  rw [hct] at hl
  have hwl : ws.length = n := by
    have := congrArg List.length hxs
    simp at this
    omega
  apply List.ext_getElem?
  intro i
  by_cases hi : i < n
  · have hfi := hf i hi
    rw [hce] at hfi
    have hxi : xs[i]? = some xs[i] := List.getElem?_eq_getElem (by omega)
    rw [hxi] at hfi
    obtain ⟨s, hc, hx2, _⟩ := DataW.trod_string he hfi
    have h1 : cs[i]? = some (.string s) := by
      have := congrArg (·[0]?) hc
      simpa [List.getElem?_take, List.getElem?_drop] using this
    have h2 := congrArg (·[i]?) hxs
    simp only [List.getElem?_map, hxi, Option.map_some, hx2] at h2
    rw [h1, strs_get]
    cases hw : ws[i]? with
    | none => rw [hw] at h2; cases h2
    | some l =>
      rw [hw] at h2
      simp at h2
      rw [Option.map_some, h2]
  · rw [List.getElem?_eq_none (by omega), List.getElem?_eq_none (by rw [strs_length]; omega)]

theorem gKwType : (Tryz.prog.globals[1]?).map (·.type) = some 85 := by kernel_rfl
theorem cellsKw : Tryz.prog.cellsOf 85 = 8 := by kernel_rfl
theorem cellsStrK : Tryz.prog.cellsOf 9 = 1 := by kernel_rfl
theorem kwV_strs : strs kws = kwV := rfl

theorem kw_head {W : World} {r : List (String × DataW Unit)} (h : laidMet Tryz.prog (("loop.example/g00454/impl.kindWords", Rows.laid_loop_example_g00454_impl_kindWords) :: r) W) : KwT W := by
  have h2 : laidMet Tryz.prog (("loop.example/g00454/impl.kindWords", .agg (kws.map fun l => .lit (.string l))) :: r) W := h
  obtain ⟨ps, ⟨g', t', cs, fuel, p, q, hg', ht', hvar, hd, _, _⟩, _⟩ := h2
  obtain rfl := Option.some.inj (gKw.symm.trans hg')
  obtain rfl := Option.some.inj (gKwType.symm.trans ht')
  have hcs := cells_of_texts Tryz.underlying85 Tryz.underlying9 cellsStrK cellsKw hd
  have hcs2 : cs = kwV.toArray := by rw [← kwV_strs, ← hcs]
  subst hcs2
  refine ⟨hvar, ?_⟩
  have := World.var?_cell gKw hvar 0
  exact World.block_lt_of_cell? W _ (by rw [this]; rfl)
end Go.Proofs.YtejleghdgdbbnaaGreatDoor

namespace Go.Proofs.YtejleghdgdbbnaaGreatDoor
open Go.ChangeShapes Go.WideShapes Go.ChangeAt Go.RowKit

theorem gStType : (Tryz.prog.globals[0]?).map (·.type) = some 42 := by kernel_rfl
theorem cellsSt : Tryz.prog.cellsOf 42 = 5 := by kernel_rfl
theorem cellsStrS : Tryz.prog.cellsOf 9 = 1 := by kernel_rfl
theorem stwV_strs : strs stws = stwV := rfl

theorem st_head {W : World} {r : List (String × DataW Unit)} (h : laidMet Tryz.prog (("loop.example/g00454/impl.stepWords", Rows.laid_loop_example_g00454_impl_stepWords) :: r) W) : StT W := by
  have h2 : laidMet Tryz.prog (("loop.example/g00454/impl.stepWords", .agg (stws.map fun l => .lit (.string l))) :: r) W := h
  obtain ⟨ps, ⟨g', t', cs, fuel, p, q, hg', ht', hvar, hd, _, _⟩, _⟩ := h2
  obtain rfl := Option.some.inj (gSt.symm.trans hg')
  obtain rfl := Option.some.inj (gStType.symm.trans ht')
  have hcs := cells_of_texts Tryz.underlying42 Tryz.underlying9 cellsStrS cellsSt hd
  have hcs2 : cs = stwV.toArray := by rw [← stwV_strs, ← hcs]
  subst hcs2
  refine ⟨hvar, ?_⟩
  have := World.var?_cell gSt hvar 0
  exact World.block_lt_of_cell? W _ (by rw [this]; rfl)
end Go.Proofs.YtejleghdgdbbnaaGreatDoor

namespace Go.Proofs.YtejleghdgdbbnaaGreatDoor
open Go.ChangeShapes Go.WideShapes Go.ChangeAt Go.RowKit

theorem laidOutAll : laidOutB Tryz.prog = true := by kernel_rfl
theorem cellsByte : Tryz.prog.cellsOf 5 = 1 := by kernel_rfl

theorem byte_in {x : Int} (h : (Lit.int .u8 x).wf = true) : 0 ≤ x ∧ x < 256 := by
  have h1 : IntKind.u8.min = 0 := rfl
  have h2 : IntKind.u8.max = 255 := rfl
  simp only [Lit.wf, Bool.and_eq_true, decide_eq_true_eq] at h
  omega

/-- A code that came in: its length, and its bytes where it is no longer than the laws look at. -/
theorem code_opened {H : Type} {enc : TypeId × Value → H} {W : World} {a : Option Addr} {n cap : Nat} {d : DataW H} {p : List MemPlace}
    (h : DataW.Trod enc Tryz.prog W 0 (fun _ => true) true 22 (.slice a n cap) d p) : n ≤ maxLen ∧ (n ≤ 1048576 → CodeIs W a n) := by
  obtain ⟨fuel, hf⟩ := h
  rcases open_ints Tryz.underlying22 Tryz.underlying5 cellsByte hf with ⟨hcs, _⟩ | ⟨b, len, c, zs, hcs, _, hl, hm, hz, _, hcell, hwz⟩
  · simp [Value.cells] at hcs
    obtain ⟨rfl, rfl, rfl⟩ := hcs
    exact ⟨Nat.zero_le _, fun _ => ⟨by omega, fun i hi => by omega⟩⟩
  · simp [Value.cells] at hcs
    obtain ⟨rfl, rfl, rfl⟩ := hcs
    simp only [if_true] at hz
    refine ⟨by omega, fun hn => ⟨hn, fun i hi => ?_⟩⟩
    have hi' : i < zs.length := by omega
    have hc := hcell i hi'
    have hg : zs.getD i 0 = zs[i] := by simp [List.getD, hi']
    have hw := byte_in (hwz zs[i] (List.getElem_mem hi'))
    refine ⟨b, zs[i], rfl, ?_, by rw [hc, hg], hw.1, hw.2⟩
    have := World.block_lt_of_cell? _ _ hc
    rwa [block_add] at this
end Go.Proofs.YtejleghdgdbbnaaGreatDoor

namespace Go.Proofs.YtejleghdgdbbnaaGreatDoor
namespace LawFnStep
open Go.ChangeShapes Go.WideShapes Go.ChangeAt Go.RowKit
open Go.WideMaps Go.WideElems

set_option maxRecDepth 100000 in
theorem lifted (os : Os) (started : os.Started) (H : Type) (enc : TypeId × Value → H) :
    ReturnsInHanded {} Tryz.checked os 3 .any (fun w args => (Rows.fnStepSpec.pre enc Tryz.prog Tryz.f3 [] false w args ∧ laidMetH Tryz.prog Rows.fnStepRow.laid w) ∧ sizedMet enc Tryz.prog Tryz.f3 (OpenSpec.ofChange Rows.fnStepSpec) false w args)
      (Rows.fnStepSpec.post enc Tryz.prog Tryz.f3 false true false false) := by
  refine handed (laid := Rows.fnStepRow.laid) started (by kernel_rfl) Tryz.func3
    (ChangeSpec.witness_shaped (enc := enc) (C := Tryz.checked) (os := os) (X := fun w _ => laidMetH Tryz.prog Rows.fnStepRow.laid w) false (World.laidAll Tryz.prog os Rows.fnStepRow.laid) #[.slice none 0 0] 8 (World.laidAll_os _ _ _)
      (World.shaped_of_ZipB (by kernel_rfl) (by kernel_rfl)) (by kernel_rfl) (by kernel_rfl) (by kernel_rfl)
      (by rw [MakeChecks.laidMetH_plain _ _ _ (by kernel_rfl)]; exact laidMet_laidAll _ (by kernel_rfl) (by kernel_rfl))) ?_
  intro W base args ds gs before hval0 hW hL hsh
  have hval : ∀ (j : Nat) t v, Tryz.f3.params[j]? = some t → args[j]? = some v → Value.okWide Tryz.prog W .any base t v := hval0
  have hW' := hW
  obtain ⟨p, q, hA0, hV, rfl, hfz, hnd⟩ := hW
  have hA : DataW.TrodAll enc Tryz.prog W 0 (fun _ => true) true Tryz.f3.params.toList args.toList ds p := hA0
  rw [Tryz.params3] at hA hval
  obtain ⟨v0, d0, rfl, rfl, h0⟩ := trodAll_one hA
  have hV0 := hV
  obtain ⟨g0, t0, cs0, f0, e0, p0, g1, t1, cs1, f1, e1, p1, rfl, _, _, _, _, _, _, _, _, _⟩ := trodVars_two hV
  obtain ⟨a, n, cap, rfl⟩ := okWide_slice Tryz.underlying22 (hval 0 22 v0 rfl rfl)
  clear hA0 hval0
  obtain ⟨hn, hc⟩ := code_opened h0
  have hM := hL
  rw [MakeChecks.laidMetH_plain _ _ _ (by kernel_rfl)] at hM
  refine (fnStep_walk a n cap W hn hc (st_head hM.tail.tail.tail.tail.tail.tail.tail) (kw_head hM.tail.tail.tail.tail.tail.tail) ⟨tab_head hM.tail.tail, errs_head hM.tail.tail.tail.tail hM.tail.tail.tail.tail.tail, Tryz.laysM146.s1_3 W hsh⟩).mono fun e W' ⟨he, hg⟩ => ?_
  subst he
  have hlt : ∀ x ∈ p, x.block < W.heap.size := fun x hx => by simpa using hW'.lt x (List.mem_append_left _ hx)
  have harg := Below.trod laidOutAll (by kernel_rfl) (of_decide_eq_true (by kernel_rfl)) h0 hg hlt
  have hvars := Below.trodVars laidOutAll hg (by kernel_rfl) hV0
  exact ⟨_, rfl, _, _, _, [], _, _, hW', trodAll_mk1 (shut_bool Tryz.underlying4 _), trodAll_mk1 harg, hvars, hg.frame _, fun h => by cases h⟩
end LawFnStep

theorem fnStep_row : Rows.FnStepSaid :=
  OpenClaim.holds_of_wide 3 Tryz.f3 rfl rfl rfl rfl rfl rfl rfl ⟨rfl, rfl, rfl, rfl, rfl⟩ rfl rfl rfl rfl rfl (by kernel_rfl) Tryz.func3 (by kernel_rfl)
    (of_decide_eq_true (by kernel_rfl)) (by unfold Func.isWrapper; rw [if_neg (of_decide_eq_false (by kernel_rfl))]; exact ⟨rfl, rfl⟩)
    (fun os started H enc _ => LawFnStep.lifted os started H enc)

/-- For every code: the law returns true; what it lists is tied to the program's text. -/
theorem fnStep_holds : Rows.FnStepCardSaid :=
  Claim7.holds_tied_plain_at .later [] _ true _ _
    fnStep_row (fun _ h => by cases h) (by kernel_rfl) (fun _ h => by cases h) fnStep_row_tie rfl ⟨rfl, rfl⟩ (by kernel_rfl) rfl
    (fun f fn hf hfn => by
      obtain rfl : f = 3 := Option.some.inj ((show Tryz.prog.funcNamed Rows.fnStepRow.func = some 3 by kernel_rfl).symm.trans hf) |>.symm
      obtain rfl : fn = Tryz.f3 := (Option.some.inj (Tryz.func3.symm.trans hfn)).symm
      exact ⟨by kernel_rfl, fun j t ht => by
        rw [Tryz.params3] at ht
        have hm : t ∈ [22] := by simpa using Array.mem_of_getElem? ht
        have hall : ([22].all fun u => !Tryz.prog.wantsStandIn u) = true := by kernel_rfl
        exact (show Tryz.prog.wantsStandIn t = false by simpa using List.all_eq_true.1 hall t hm)⟩)
    (by kernel_rfl)
#print axioms fnStep_holds
end Go.Proofs.YtejleghdgdbbnaaGreatDoor
