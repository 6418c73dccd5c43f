/- FnStep: for every code the law returns true; the listed variables of the library lie as its text lays them. -/
import Derived.Test.YtejleghdgdbbnaaGreatDoorRows
import Derived.ProofKit
import Derived.OpenShut
import Derived.LaidMore
import Derived.Stop.Joined
import Derived.Stop.LaidErr
import Derived.Lay
import Derived.Test.YtejleghdgdbbnaaGreatDoorMgUk
import Derived.Lib.LaidTab
import Derived.Test.YtejleghdgdbbnaaGreatDoorMgUc
import Derived.Test.YtejleghdgdbbnaaGreatDoorMgUh
import Derived.Test.YtejleghdgdbbnaaGreatDoorTcD
import Derived.Test.YtejleghdgdbbnaaGreatDoorMgUi
import Derived.Test.YtejleghdgdbbnaaGreatDoorMgXc
import Derived.Test.YtejleghdgdbbnaaGreatDoorMgXa
import Derived.OpenVars
import Derived.Test.YtejleghdgdbbnaaGreatDoorCards
import Derived.Test.YtejleghdgdbbnaaGreatDoorTie
import Derived.SevenTiedAt
namespace Go.Proofs.YtejleghdgdbbnaaGreatDoor
open Go.ChangeShapes Go.WideShapes Go.ChangeAt Go.RowKit

theorem ownKnobNone : ownKnob Tryz.prog.godebug = none := by kernel_rfl

set_option maxRecDepth 100000 in
/-- The listed data and the shape of the world, both handed to the walk. -/
theorem handed {H : Type} {enc : TypeId × Value → H} {os : Os} {f : FuncId} {fn : Func} {s : ChangeSpec} {laid : List (String × DataW Unit)} (started : os.Started)
    (noInit : Tryz.checked.prog.inits.idxOf? f = none) (hfn : Tryz.checked.prog.funcs[f]? = some fn)
    (wit : ∃ (w : World) (tape : Tape) (i : Input), w.os = os ∧ (w.forCall tape i).Shaped Tryz.checked.prog ∧ i.vars = [] ∧ Input.okWide Tryz.checked.prog (w.forCall tape i) .any w.heap.size f i ∧
      ((s.pre enc Tryz.checked.prog fn [] false (w.forCall tape i).memory i.args ∧ laidMetH Tryz.checked.prog laid (w.forCall tape i).memory) ∧ sizedMet enc Tryz.checked.prog fn (OpenSpec.ofChange s) false (w.forCall tape i).memory i.args) ∧ ({} : Assume).holds Tryz.checked.prog (lone (Frame.enter Tryz.checked.prog f i.args .normal) [] (w.forCall tape i)))
    (walk : ∀ (W : World) (base : Nat) (args : Array Value) (ds gs : List (DataW H)) (before : List MemPlace),
      (∀ (j : Nat) t v, fn.params[j]? = some t → args[j]? = some v → Value.okWide Tryz.checked.prog W .any base t v) →
      DataW.Whole enc Tryz.checked.prog fn.params.toList s.vars false W args.toList ds gs before →
      laidMetH Tryz.checked.prog laid W → W.ShapedOpen Tryz.checked.prog →
      Calls Tryz.checked.prog f args W fun e W' => ∃ v, e = .returned v ∧ s.post enc Tryz.checked.prog fn false true false false W args v W') :
    ReturnsInHanded {} Tryz.checked os f .any (fun w args => (s.pre enc Tryz.checked.prog fn [] false w args ∧ laidMetH Tryz.checked.prog laid w) ∧ sizedMet enc Tryz.checked.prog fn (OpenSpec.ofChange s) false w args) (s.post enc Tryz.checked.prog fn false true false false) := by
  refine returnsInHanded_of_calls ownKnobNone started noInit wit fun w tape i _ shape _ ok pre _ => ?_
  obtain ⟨_, _, _, fn1, hfn1, _, _, _, _, vals⟩ := ok
  obtain rfl : fn1 = fn := Option.some.inj (hfn1.symm.trans hfn)
  obtain ⟨⟨⟨ds, gs, before, whole, _⟩, laidThere⟩, _⟩ := pre
  have whole1 := DataW.Whole.of_heap (w' := w.forCall tape i) (by rfl) whole
  refine (walk _ w.heap.size i.args ds gs before vals whole1 (laidThere.of_heap (by rfl)) shape).mono fun e W1 ⟨v, he, hp⟩ => ?_
  subst he
  exact ChangeSpec.post_blind hp
end Go.Proofs.YtejleghdgdbbnaaGreatDoor

namespace Go.Proofs.YtejleghdgdbbnaaGreatDoor
open Go.ChangeShapes Go.WideShapes Go.ChangeAt Go.RowKit

theorem own : ownKnob Tryz.prog.godebug = none := by kernel_rfl
theorem gTabType : (Tryz.prog.globals[3]?).map (·.type) = some 125 := by kernel_rfl
theorem cellsTab : Tryz.prog.cellsOf 125 = 20 := by kernel_rfl
theorem cellsElem : Tryz.prog.cellsOf 109 = 1 := by kernel_rfl
theorem gErrSType : (Tryz.prog.globals[4]?).map (·.type) = some 81 := by kernel_rfl
theorem gErrRType : (Tryz.prog.globals[5]?).map (·.type) = some 81 := by kernel_rfl
theorem cellsErr : Tryz.prog.cellsOf 143 = 1 := by kernel_rfl
theorem cellsStr : Tryz.prog.cellsOf 9 = 1 := by kernel_rfl
theorem star : "*" ++ "errors.errorString" = "*errors.errorString" := by decide
theorem rowErr (u : TypeId) (h : Tryz.prog.typeName? 3 u = some "*errors.errorString") : u = 141 :=
  typeName_ptr_named (nm := "errors.errorString") (by rw [star]; kernel_rfl) (by kernel_rfl) (by decide) u (by rw [star]; exact h)

theorem tab_head {W : World} {r : List (String × DataW Unit)} (h : laidMet Tryz.prog (("internal/strconv.uint64pow10", Rows.laid_internal_strconv_uint64pow10) :: r) W) : Tab W := by
  have h2 : laidMet Tryz.prog (("internal/strconv.uint64pow10", Lib.tabData .u64 Lib.pow10Tab) :: r) W := h
  have hT := Lib.tabIs_of_head gTab gTabType Tryz.underlying125 Tryz.underlying109 cellsElem cellsTab h2
  exact ⟨hT, World.block_lt_of_cell? W _ (hT.cell gTab 0 (by decide))⟩

theorem errs_head {W : World} {r r' : List (String × DataW Unit)} (hR : laidMet Tryz.prog (("strconv.ErrRange", Rows.laid_strconv_ErrRange) :: r) W) (hS : laidMet Tryz.prog (("strconv.ErrSyntax", Rows.laid_strconv_ErrSyntax) :: r') W) : Errs W := by
  obtain ⟨a0, s0, hv0, -, -, -⟩ := laid_sentinel hS gErrS gErrSType Tryz.underlying81 rowErr Tryz.underlying141 Tryz.underlying143 rfl rfl Tryz.underlying9 cellsErr cellsStr
  obtain ⟨a1, s1, hv1, -, -, -⟩ := laid_sentinel hR gErrR gErrRType Tryz.underlying81 rowErr Tryz.underlying141 Tryz.underlying143 rfl rfl Tryz.underlying9 cellsErr cellsStr
  have c0 := World.var?_cell gErrS hv0 0
  have c1 := World.var?_cell gErrR hv1 0
  exact ⟨⟨_, _, hv0⟩, ⟨_, _, hv1⟩, World.block_lt_of_cell? W _ (by simpa using c0), World.block_lt_of_cell? W _ (by simpa using c1)⟩
end Go.Proofs.YtejleghdgdbbnaaGreatDoor

namespace Go.Proofs.YtejleghdgdbbnaaGreatDoor
open Go.ChangeShapes Go.WideShapes Go.ChangeAt Go.RowKit

/-- An array of texts that reads as the list holds these texts, cell for cell. -/
theorem cells_of_texts {H : Type} {enc : TypeId × Value → H} {P : Program} {w : World} {base : Nat} {sp : Nat → Bool} {held : Bool} {fuel : Nat} {t e : TypeId} {n : Nat} {cs : List Value} {ws : List (List UInt8)} {p : List MemPlace}
    (ht : P.underlying t = some (.array n e)) (he : P.underlying e = some .string) (hce : P.cellsOf e = 1) (hct : P.cellsOf t = n)
    (h : DataW.trod enc P w base sp held fuel t cs = some (.agg (ws.map fun l => .lit (.string l)), p)) : cs = strs ws := by
  obtain ⟨xs, m, _, hx, hl, hxl, hf⟩ := DataW.trod_array ht h
  simp only [Prod.mk.injEq, DataW.agg.injEq] at hx
  have hxs := hx.1
  rw [hct] at hl
  have hwl : ws.length = n := by
    have := congrArg List.length hxs
    simp at this
    omega
  apply List.ext_getElem?
  intro i
  by_cases hi : i < n
  · have hfi := hf i hi
    rw [hce] at hfi
    have hxi : xs[i]? = some xs[i] := List.getElem?_eq_getElem (by omega)
    rw [hxi] at hfi
    obtain ⟨s, hc, hx2, _⟩ := DataW.trod_string he hfi
    have h1 : cs[i]? = some (.string s) := by
      have := congrArg (·[0]?) hc
      simpa [List.getElem?_take, List.getElem?_drop] using this
    have h2 := congrArg (·[i]?) hxs
    simp only [List.getElem?_map, hxi, Option.map_some, hx2] at h2
    rw [h1, strs_get]
    cases hw : ws[i]? with
    | none => rw [hw] at h2; cases h2
    | some l =>
      rw [hw] at h2
      simp at h2
      rw [Option.map_some, h2]
  · rw [List.getElem?_eq_none (by omega), List.getElem?_eq_none (by rw [strs_length]; omega)]

theorem gKwType : (Tryz.prog.globals[1]?).map (·.type) = some 85 := by kernel_rfl
theorem cellsKw : Tryz.prog.cellsOf 85 = 8 := by kernel_rfl
theorem cellsStrK : Tryz.prog.cellsOf 9 = 1 := by kernel_rfl
theorem kwV_strs : strs kws = kwV := rfl

theorem kw_head {W : World} {r : List (String × DataW Unit)} (h : laidMet Tryz.prog (("loop.example/g00454/impl.kindWords", Rows.laid_loop_example_g00454_impl_kindWords) :: r) W) : KwT W := by
  have h2 : laidMet Tryz.prog (("loop.example/g00454/impl.kindWords", .agg (kws.map fun l => .lit (.string l))) :: r) W := h
  obtain ⟨ps, ⟨g', t', cs, fuel, p, q, hg', ht', hvar, hd, _, _⟩, _⟩ := h2
  obtain rfl := Option.some.inj (gKw.symm.trans hg')
  obtain rfl := Option.some.inj (gKwType.symm.trans ht')
  have hcs := cells_of_texts Tryz.underlying85 Tryz.underlying9 cellsStrK cellsKw hd
  have hcs2 : cs = kwV.toArray := by rw [← kwV_strs, ← hcs]
  subst hcs2
  refine ⟨hvar, ?_⟩
  have := World.var?_cell gKw hvar 0
  exact World.block_lt_of_cell? W _ (by rw [this]; rfl)
end Go.Proofs.YtejleghdgdbbnaaGreatDoor

namespace Go.Proofs.YtejleghdgdbbnaaGreatDoor
open Go.ChangeShapes Go.WideShapes Go.ChangeAt Go.RowKit

theorem gStType : (Tryz.prog.globals[0]?).map (·.type) = some 42 := by kernel_rfl
theorem cellsSt : Tryz.prog.cellsOf 42 = 5 := by kernel_rfl
theorem cellsStrS : Tryz.prog.cellsOf 9 = 1 := by kernel_rfl
theorem stwV_strs : strs stws = stwV := rfl

theorem st_head {W : World} {r : List (String × DataW Unit)} (h : laidMet Tryz.prog (("loop.example/g00454/impl.stepWords", Rows.laid_loop_example_g00454_impl_stepWords) :: r) W) : StT W := by
  have h2 : laidMet Tryz.prog (("loop.example/g00454/impl.stepWords", .agg (stws.map fun l => .lit (.string l))) :: r) W := h
  obtain ⟨ps, ⟨g', t', cs, fuel, p, q, hg', ht', hvar, hd, _, _⟩, _⟩ := h2
  obtain rfl := Option.some.inj (gSt.symm.trans hg')
  obtain rfl := Option.some.inj (gStType.symm.trans ht')
  have hcs := cells_of_texts Tryz.underlying42 Tryz.underlying9 cellsStrS cellsSt hd
  have hcs2 : cs = stwV.toArray := by rw [← stwV_strs, ← hcs]
  subst hcs2
  refine ⟨hvar, ?_⟩
  have := World.var?_cell gSt hvar 0
  exact World.block_lt_of_cell? W _ (by rw [this]; rfl)
end Go.Proofs.YtejleghdgdbbnaaGreatDoor

namespace Go.Proofs.YtejleghdgdbbnaaGreatDoor
open Go.RowKit

theorem num_no_blank (n : Int) : (32 : UInt8) ∉ numL n := by
  intro hm
  obtain ⟨k, hk⟩ := List.getElem?_of_mem hm
  cases h : timB n
  · rw [numL, h] at hk; simp at hk
  · rw [numL, h] at hk
    have h2 := decFrom_none _ 0 k 32 hk rfl
    have h3 := decFrom_digits _ n.toNat (Nat.le_refl _)
    simp only [cond_true] at h2
    rw [h2] at h3
    cases h3
theorem vt_no_blank (a b c : Int) : (32 : UInt8) ∉ vtL a b c := by
  unfold vtL
  cases vokB a b c
  · simp
  · simp only [cond_true, List.mem_append, List.mem_cons, List.not_mem_nil, or_false, not_or]
    exact ⟨⟨⟨⟨num_no_blank a, by decide⟩, num_no_blank b⟩, by decide⟩, num_no_blank c⟩
theorem kw_no_blank (s : Int) : (32 : UInt8) ∉ kwL s := by
  unfold kwL
  generalize s.toNat = k
  match k with
  | 0 => decide
  | 1 => decide
  | 2 => decide
  | 3 => decide
  | 4 => decide
  | 5 => decide
  | 6 => decide
  | 7 => decide
  | k + 8 => simp [kws]
theorem not_at {b : UInt8} {l : List UInt8} (h : b ∉ l) : ∀ k : Nat, l[k]? ≠ some b := fun _ hk => h (List.mem_of_getElem? hk)
theorem pcs_join (b : UInt8) : ∀ (x : List UInt8) (ws : List (List UInt8)), (∀ w ∈ x :: ws, b ∉ w) → pcs b (Lib.join (x :: ws) [b]) = x :: ws
  | x, [], h => by
    have e : Lib.join [x] [b] = x := Lib.join_one x [b]
    rw [e]
    exact pcs_none b x (not_at (h x (by simp)))
  | x, y :: ws, h => by
    have e : Lib.join (x :: y :: ws) [b] = x ++ b :: Lib.join (y :: ws) [b] := by simp [Lib.join, List.intercalate]
    rw [e, pcs_at b _ _ (not_at (h x (by simp))), pcs_join b y ws (fun w hw => h w (List.mem_cons_of_mem _ hw))]

theorem vt_again {a b c : Int} (h : vokB a b c = true) : tvR (vtL a b c) = ((a, b, c), true) := by
  have hne : vtL a b c ≠ [] := by
    intro e
    have := vt_pcs h
    rw [e] at this
    simp [pcs] at this
  obtain ⟨_, hp, ta, tb, tc⟩ := tv_yes hne rfl
  have e0 : pn (pcs 47 (vtL a b c)) 0 = a := by rw [hp, (pn_three _ _ _).1, tn_num ta]
  have e1 : pn (pcs 47 (vtL a b c)) 1 = b := by rw [hp, (pn_three _ _ _).2.1, tn_num tb]
  have e2 : pn (pcs 47 (vtL a b c)) 2 = c := by rw [hp, (pn_three _ _ _).2.2, tn_num tc]
  rw [tv_true (by rw [e0, e1, e2]), e0, e1, e2]
theorem tim_of {n lo hi : Int} (h : btwB lo n hi = true) (h0 : 0 ≤ lo) (h1 : hi ≤ 1000000000) : timB n = true := by
  have := btw_iff.1 h
  simp [timB]; omega
theorem jb_zero {j : Jb} (h : jeB j jb0 = true) : j = jb0 := by
  obtain ⟨i0, i1, i2, i3, i4, i5, i6, i7, i8, i9, i10⟩ := j
  simp [jeB, veB, jb0] at h ⊢
  omega
theorem ve_zero {a b c : Int} (h : veB a b c 0 0 0 = true) : a = 0 ∧ b = 0 ∧ c = 0 := by
  simp [veB] at h
  omega
theorem jrd_again {j : Jb} (h : jobB j = true) : jrd (numL j.id) (numL j.pr) (numL j.nd) (vtL j.na j.nb j.nc) (vtL j.la j.lb j.lc) (numL j.wl) (numL j.lv) = j := by
  simp only [jobB, Bool.and_eq_true] at h
  obtain ⟨h1, h2, h3, h4, h5, h6, h7⟩ := h
  unfold jrd
  rw [tn_num (tim_of h1 (by omega) (by omega)), tn_num (tim_of h2 (by omega) (by omega)), tn_num (tim_of h3 (by omega) (by omega)), vt_again h4, vt_again h5, tn_num (tim_of h6 (by omega) (by omega)), tn_num (tim_of h7 (by omega) (by omega))]

theorem cw_pcs (s : Int) (j : Jb) (n a b c : Int) : pcs 32 (Lib.join (cwL s j n a b c) [32]) = cwL s j n a b c := by
  unfold cwL
  split
  · refine pcs_join 32 _ _ ?_
    intro w hw
    simp only [jwL, List.mem_cons, List.not_mem_nil, or_false] at hw
    rcases hw with rfl | rfl | rfl | rfl | rfl | rfl | rfl | rfl
    · exact kw_no_blank _
    · exact num_no_blank _
    · exact num_no_blank _
    · exact num_no_blank _
    · exact vt_no_blank _ _ _
    · exact vt_no_blank _ _ _
    · exact num_no_blank _
    · exact num_no_blank _
  · split
    · refine pcs_join 32 _ _ ?_
      intro w hw
      simp only [List.mem_cons, List.not_mem_nil, or_false] at hw
      rcases hw with rfl | rfl
      · exact kw_no_blank _
      · exact vt_no_blank _ _ _
    · refine pcs_join 32 _ _ ?_
      intro w hw
      simp only [List.mem_cons, List.not_mem_nil, or_false] at hw
      rcases hw with rfl | rfl
      · exact kw_no_blank _
      · exact num_no_blank _

/-- What is written is read again. -/
theorem tc_again (s : Int) (j : Jb) (n a b c : Int) (h : cmdB s j n a b c = true) : tcR (ctL s j n a b c) = (⟨s, j, n, a, b, c⟩, true) := by
  have hct : ctL s j n a b c = Lib.join (cwL s j n a b c) [32] := by rw [ctL, h]; rfl
  have hr : rdC (cwL s j n a b c) = ⟨s, j, n, a, b, c⟩ := by
    have h7 := cmdB_seven h
    have num : ∀ (k : Int) (hk : kdN (kwL k) ≠ 6) (hk1 : (kdN (kwL k) : Int) = k), cwL k j n a b c = [kwL k, numL n] → j = jb0 → a = 0 ∧ b = 0 ∧ c = 0 → timB n = true → rdC (cwL k j n a b c) = ⟨k, j, n, a, b, c⟩ := fun k hk hk1 hc hj hz ht => by
      obtain ⟨rfl, rfl, rfl⟩ := hz
      rw [hc, hj]
      unfold rdC
      rw [if_neg (fun t => by have := t.1; simp at this), if_neg (fun t => hk t.2), if_pos (show [kwL k, numL n].length = 2 from rfl)]
      show (⟨(kdN (kwL k) : Int), jb0, (tnR (numL n)).1, 0, 0, 0⟩ : Cm) = _
      rw [hk1, tn_num ht]
    rcases h7 with rfl | rfl | rfl | rfl | rfl | rfl | rfl
    · simp only [cmdB, if_pos, Bool.and_eq_true, beq_iff_eq] at h
      obtain ⟨hj, hn, hv⟩ := h
      obtain ⟨rfl, rfl, rfl⟩ := ve_zero hv
      subst hn
      show rdC (kwL 1 :: jwL j) = _
      unfold rdC
      rw [if_pos ⟨rfl, rfl⟩]
      show (⟨1, jrd (numL j.id) (numL j.pr) (numL j.nd) (vtL j.na j.nb j.nc) (vtL j.la j.lb j.lc) (numL j.wl) (numL j.lv), 0, 0, 0, 0⟩ : Cm) = _
      rw [jrd_again hj]
    · have h' : (btwB 1 n 999 && (jeB j jb0 && veB a b c 0 0 0)) = true := h
      simp only [Bool.and_eq_true] at h'
      exact num 2 (by decide) rfl rfl (jb_zero h'.2.1) (ve_zero h'.2.2) (tim_of h'.1 (by omega) (by omega))
    · have h' : (btwB 1 n 999 && (jeB j jb0 && veB a b c 0 0 0)) = true := h
      simp only [Bool.and_eq_true] at h'
      exact num 3 (by decide) rfl rfl (jb_zero h'.2.1) (ve_zero h'.2.2) (tim_of h'.1 (by omega) (by omega))
    · have h' : (btwB 0 n 23 && (jeB j jb0 && veB a b c 0 0 0)) = true := h
      simp only [Bool.and_eq_true] at h'
      exact num 4 (by decide) rfl rfl (jb_zero h'.2.1) (ve_zero h'.2.2) (tim_of h'.1 (by omega) (by omega))
    · have h' : (btwB 0 n 23 && (jeB j jb0 && veB a b c 0 0 0)) = true := h
      simp only [Bool.and_eq_true] at h'
      exact num 5 (by decide) rfl rfl (jb_zero h'.2.1) (ve_zero h'.2.2) (tim_of h'.1 (by omega) (by omega))
    · have h' : (vokB a b c && (jeB j jb0 && n == 0)) = true := h
      simp only [Bool.and_eq_true, beq_iff_eq] at h'
      obtain ⟨hv, hj, rfl⟩ := h'
      have hj0 := jb_zero hj
      subst hj0
      show rdC [kwL 6, vtL a b c] = _
      unfold rdC
      rw [if_neg (fun t => by have := t.1; simp at this), if_pos ⟨rfl, rfl⟩]
      show (⟨6, jb0, 0, (tvR (vtL a b c)).1.1, (tvR (vtL a b c)).1.2.1, (tvR (vtL a b c)).1.2.2⟩ : Cm) = _
      rw [vt_again hv]
    · have h' : (timB n && (jeB j jb0 && veB a b c 0 0 0)) = true := h
      simp only [Bool.and_eq_true] at h'
      exact num 7 (by decide) rfl rfl (jb_zero h'.2.1) (ve_zero h'.2.2) h'.1
  unfold tcR
  rw [hct, cw_pcs, hr, ← hct, if_pos ⟨h, rfl⟩]
end Go.Proofs.YtejleghdgdbbnaaGreatDoor

namespace Go.Proofs.YtejleghdgdbbnaaGreatDoor

theorem cut_app {b : UInt8} (r : List UInt8) : ∀ {a : List UInt8}, b ∉ a → Lib.cut (a ++ b :: r) [b] = (a, r, true)
  | [], _ => cut_hit b r
  | c :: a, h => by
    have hc : c ≠ b := fun e => h (by rw [e]; exact List.mem_cons_self ..)
    have := cut_app r (a := a) (fun e => h (List.mem_cons_of_mem _ e))
    rw [List.cons_append, cut_pass hc, this]
theorem cut_none {b : UInt8} : ∀ {a : List UInt8}, b ∉ a → Lib.cut a [b] = (a, [], false)
  | [], _ => by simp [Lib.cut, Lib.index]
  | c :: a, h => by
    have hc : c ≠ b := fun e => h (by rw [e]; exact List.mem_cons_self ..)
    have := cut_none (a := a) (fun e => h (List.mem_cons_of_mem _ e))
    rw [cut_pass hc, this]
theorem rdS_again {k : Int} {x : Cm} {p : Int} (h : stB k x p = true) : rdS (stL k x p) = ⟨k, x, p⟩ := by
  have hL : stL k x p = (if k = 1 then [100, 111, 32] ++ ctL x.s x.j x.n x.a x.b x.c else if k = 2 then [116, 111, 114, 110, 32] ++ numL p ++ [32] ++ ctL x.s x.j x.n x.a x.b x.c else if k = 3 then [99, 114, 97, 115, 104] else [115, 116, 97, 114, 116]) := by
    unfold stL; rw [h]; rfl
  rw [hL]
  unfold stB at h
  by_cases h1 : k = 1
  · rw [if_pos h1] at h ⊢
    rw [Bool.and_eq_true] at h
    have hp : p = 0 := by simpa using h.2
    have ht := tc_again x.s x.j x.n x.a x.b x.c h.1
    have hc : Lib.cut ([100, 111, 32] ++ ctL x.s x.j x.n x.a x.b x.c) [32] = ([100, 111], ctL x.s x.j x.n x.a x.b x.c, true) := cut_app (b := 32) (a := [100, 111]) _ (by decide)
    unfold rdS
    rw [hc]
    simp only
    rw [if_pos (show sdN [100, 111] = 1 from rfl), ht, h1, hp]
  · rw [if_neg h1] at h ⊢
    by_cases h2 : k = 2
    · rw [if_pos h2] at h ⊢
      rw [Bool.and_eq_true] at h
      have ht := tc_again x.s x.j x.n x.a x.b x.c h.1
      have hc : Lib.cut ([116, 111, 114, 110, 32] ++ numL p ++ [32] ++ ctL x.s x.j x.n x.a x.b x.c) [32] = ([116, 111, 114, 110], numL p ++ 32 :: ctL x.s x.j x.n x.a x.b x.c, true) := by
        have := cut_app (b := 32) (a := [116, 111, 114, 110]) (numL p ++ 32 :: ctL x.s x.j x.n x.a x.b x.c) (by decide)
        rw [← this]
        congr 1
        simp
      have hc2 : Lib.cut (numL p ++ 32 :: ctL x.s x.j x.n x.a x.b x.c) [32] = (numL p, ctL x.s x.j x.n x.a x.b x.c, true) := cut_app _ (num_no_blank p)
      unfold rdS
      rw [hc]
      simp only
      rw [hc2]
      simp only
      rw [if_neg (show ¬ sdN [116, 111, 114, 110] = 1 by decide), if_pos (show sdN [116, 111, 114, 110] = 2 from rfl), ht, tn_num h.2, h2]
    · rw [if_neg h2] at h ⊢
      by_cases h3 : k = 3 ∨ k = 4
      · rw [if_pos h3, Bool.and_eq_true] at h
        have hp : p = 0 := by simpa using h.2
        have hx := cmz_eq h.1
        subst hp hx
        rcases h3 with rfl | rfl
        · rw [if_pos rfl]
          have hc : Lib.cut [99, 114, 97, 115, 104] [32] = ([99, 114, 97, 115, 104], [], false) := cut_none (by decide)
          unfold rdS
          rw [hc]
          rfl
        · rw [if_neg (by decide)]
          have hc : Lib.cut [115, 116, 97, 114, 116] [32] = ([115, 116, 97, 114, 116], [], false) := cut_none (by decide)
          unfold rdS
          rw [hc]
          rfl
      · rw [if_neg h3] at h
        cases h
theorem ts_again {k : Int} {x : Cm} {p : Int} (h : stB k x p = true) : tsR (stL k x p) = (⟨k, x, p⟩, true) := by
  have hr := rdS_again h
  have := tsR_eq (l := stL k x p) (by rw [hr]; exact h) (by rw [hr])
  rw [hr] at this
  exact this
theorem ts_nil : tsR [] = (⟨0, cm0, 0⟩, false) := by
  refine tsR_no ?_
  unfold rdS
  have e : sdN (Lib.cut [] [32]).1 = 0 := by simp [Lib.cut, Lib.index, sdN]
  rw [e]
  rfl
theorem stL_ne {k : Int} {x : Cm} {p : Int} (h : stB k x p = true) : stL k x p ≠ [] := by
  unfold stL
  rw [h]
  intro e
  simp only [cond_true] at e
  by_cases h1 : k = 1
  · rw [if_pos h1] at e; simp at e
  · rw [if_neg h1] at e
    by_cases h2 : k = 2
    · rw [if_pos h2] at e; simp at e
    · rw [if_neg h2] at e
      split at e <;> simp at e
end Go.Proofs.YtejleghdgdbbnaaGreatDoor

namespace Go.Proofs.YtejleghdgdbbnaaGreatDoor
open Go.ChangeShapes Go.WideShapes Go.ChangeAt Go.RowKit

theorem seq_self (k : Int) (x : Cm) (p : Int) (W : World) : (Op.equalIn 10000 30 (.agg #[.int .i64 k, .int .i64 x.s, .int .i64 x.j.id, .int .i64 x.j.pr, .int .i64 x.j.nd, .int .i64 x.j.na, .int .i64 x.j.nb, .int .i64 x.j.nc, .int .i64 x.j.la, .int .i64 x.j.lb, .int .i64 x.j.lc, .int .i64 x.j.wl, .int .i64 x.j.lv, .int .i64 x.n, .int .i64 x.a, .int .i64 x.b, .int .i64 x.c, .int .i64 p]) (.agg #[.int .i64 k, .int .i64 x.s, .int .i64 x.j.id, .int .i64 x.j.pr, .int .i64 x.j.nd, .int .i64 x.j.na, .int .i64 x.j.nb, .int .i64 x.j.nc, .int .i64 x.j.la, .int .i64 x.j.lb, .int .i64 x.j.lc, .int .i64 x.j.wl, .int .i64 x.j.lv, .int .i64 x.n, .int .i64 x.a, .int .i64 x.b, .int .i64 x.c, .int .i64 p])).run Tryz.prog W = .ok true W := by
  have h := eq_step 9995 k x p k x p W
  rw [show [k == k, ceB x.s x.j x.n x.a x.b x.c x.s x.j x.n x.a x.b x.c, p == p].all id = true by simp [ceB, jeB_self, veB_self]] at h
  exact h
theorem stL_len (k : Int) (x : Cm) (p : Int) : (stL k x p).length ≤ 600 := by
  have h1 := ct_len x
  have h2 := numL_len p
  unfold stL
  cases stB k x p
  · exact Nat.zero_le _
  · simp only [cond_true]
    split
    · simp only [List.length_append, List.length_cons, List.length_nil]; omega
    · split
      · simp only [List.length_append, List.length_cons, List.length_nil]; omega
      · split <;> simp
set_option maxHeartbeats 4000000 in
set_option maxRecDepth 100000 in
theorem fnStep_walk (pp : Option Addr) (n cap : Nat) (w : World) (hn : n ≤ maxLen) (hc : n ≤ 1048576 → CodeIs w pp n) (hs : StT w) (hk : KwT w) (env : Env w) :
    Calls Tryz.prog 3 #[.slice pp n cap] w fun e w' => e = .returned (.bool true) ∧ Below w.heap.size w w' := by
  have HE : Hid (Env w) := env
  have HK : Hid (KwT w) := hk
  have HS : Hid (StT w) := hs
  clear env hk hs
  by_cases hl : 1048576 < n
  · unfold maxLen at hn
    clear hc
    go_enter Tryz.func3, Tryz.ntmps3
    go_wp2_with fail
    go_ret
    exact ⟨rfl, by go_grown⟩
  · have hl' : n ≤ 1048576 := by omega
    have H : Hid (CodeIs w pp n) := hc hl'
    clear hc hl hn
    go_enter Tryz.func3, Tryz.ntmps3
    go_wp2_with fail
    refine (drawStepText_c pp n cap _ H.out).mono ?_
    rintro e w1 ⟨k, x, p, rfl, hb⟩
    have HB : Hid (Below w.heap.size w w1) := hb
    clear hb H
    go_wp2_with (refine stay_load 30 ?_)
    refine ⟨?_⟩
    have HX : Hid (Row (w1.alloc (.cells #[.int .i64 k, .int .i64 x.s, .int .i64 x.j.id, .int .i64 x.j.pr, .int .i64 x.j.nd, .int .i64 x.j.na, .int .i64 x.j.nb, .int .i64 x.j.nc, .int .i64 x.j.la, .int .i64 x.j.lb, .int .i64 x.j.lc, .int .i64 x.j.wl, .int .i64 x.j.lv, .int .i64 x.n, .int .i64 x.a, .int .i64 x.b, .int .i64 x.c, .int .i64 p] 30)) w1.heap.size [.int .i64 k, .int .i64 x.s, .int .i64 x.j.id, .int .i64 x.j.pr, .int .i64 x.j.nd, .int .i64 x.j.na, .int .i64 x.j.nb, .int .i64 x.j.nc, .int .i64 x.j.la, .int .i64 x.j.lb, .int .i64 x.j.lc, .int .i64 x.j.wl, .int .i64 x.j.lv, .int .i64 x.n, .int .i64 x.a, .int .i64 x.b, .int .i64 x.c, .int .i64 p]) := row_new w1 [.int .i64 k, .int .i64 x.s, .int .i64 x.j.id, .int .i64 x.j.pr, .int .i64 x.j.nd, .int .i64 x.j.na, .int .i64 x.j.nb, .int .i64 x.j.nc, .int .i64 x.j.la, .int .i64 x.j.lb, .int .i64 x.j.lc, .int .i64 x.j.wl, .int .i64 x.j.lv, .int .i64 x.n, .int .i64 x.a, .int .i64 x.b, .int .i64 x.c, .int .i64 p] 30
    replace HB : Hid (Below w.heap.size w (w1.alloc (.cells #[.int .i64 k, .int .i64 x.s, .int .i64 x.j.id, .int .i64 x.j.pr, .int .i64 x.j.nd, .int .i64 x.j.na, .int .i64 x.j.nb, .int .i64 x.j.nc, .int .i64 x.j.la, .int .i64 x.j.lb, .int .i64 x.j.lc, .int .i64 x.j.wl, .int .i64 x.j.lv, .int .i64 x.n, .int .i64 x.a, .int .i64 x.b, .int .i64 x.c, .int .i64 p] 30))) := behind_alloc HB.out _
    generalize w1.alloc (.cells #[.int .i64 k, .int .i64 x.s, .int .i64 x.j.id, .int .i64 x.j.pr, .int .i64 x.j.nd, .int .i64 x.j.na, .int .i64 x.j.nb, .int .i64 x.j.nc, .int .i64 x.j.la, .int .i64 x.j.lb, .int .i64 x.j.lc, .int .i64 x.j.wl, .int .i64 x.j.lv, .int .i64 x.n, .int .i64 x.a, .int .i64 x.b, .int .i64 x.c, .int .i64 p] 30) = u1 at HX HB ⊢
    generalize w1.heap.size = q at HX ⊢
    refine wpList_load_mid rfl 30 _ rfl q 0 rfl [.int .i64 k, .int .i64 x.s, .int .i64 x.j.id, .int .i64 x.j.pr, .int .i64 x.j.nd, .int .i64 x.j.na, .int .i64 x.j.nb, .int .i64 x.j.nc, .int .i64 x.j.la, .int .i64 x.j.lb, .int .i64 x.j.lc, .int .i64 x.j.wl, .int .i64 x.j.lv, .int .i64 x.n, .int .i64 x.a, .int .i64 x.b, .int .i64 x.c, .int .i64 p] _ HX.out.all Tryz.underlying30 rfl szStep ?_
    go_wp2_with fail
    refine (implStepText_c k x p _ (HS.out.on HB.out) (HE.out.on HB.out).1 (HK.out.on HB.out)).mono ?_
    rintro e w2 ⟨rfl, hb⟩
    replace HX : Hid (Row w2 q [.int .i64 k, .int .i64 x.s, .int .i64 x.j.id, .int .i64 x.j.pr, .int .i64 x.j.nd, .int .i64 x.j.na, .int .i64 x.j.nb, .int .i64 x.j.nc, .int .i64 x.j.la, .int .i64 x.j.lb, .int .i64 x.j.lc, .int .i64 x.j.wl, .int .i64 x.j.lv, .int .i64 x.n, .int .i64 x.a, .int .i64 x.b, .int .i64 x.c, .int .i64 p]) := HX.out.below hb
    replace HB : Hid (Below w.heap.size w w2) := below_then HB.out hb
    clear hb
    have HCO : Hid (∀ W : World, Calls Tryz.prog 7 #[.agg #[.int .i64 k, .int .i64 x.s, .int .i64 x.j.id, .int .i64 x.j.pr, .int .i64 x.j.nd, .int .i64 x.j.na, .int .i64 x.j.nb, .int .i64 x.j.nc, .int .i64 x.j.la, .int .i64 x.j.lb, .int .i64 x.j.lc, .int .i64 x.j.wl, .int .i64 x.j.lv, .int .i64 x.n, .int .i64 x.a, .int .i64 x.b, .int .i64 x.c, .int .i64 p]] W fun e w' => e = .returned (.string ⟨(stL k x p).toArray⟩) ∧ Below W.heap.size W w') := fun W => specStepText_c k x p W
    have hlen := stL_len k x p
    cases hB : stB k x p
    · have e0 : stL k x p = [] := st_no hB
      rw [e0] at HCO ⊢
      have HT : Hid (∀ W : World, StT W → KwT W → Env W → Calls Tryz.prog 8 #[.string ⟨#[]⟩] W fun e w' => e = .returned (.tuple #[.agg #[.int .i64 0, .int .i64 0, .int .i64 0, .int .i64 0, .int .i64 0, .int .i64 0, .int .i64 0, .int .i64 0, .int .i64 0, .int .i64 0, .int .i64 0, .int .i64 0, .int .i64 0, .int .i64 0, .int .i64 0, .int .i64 0, .int .i64 0, .int .i64 0], .bool false]) ∧ Below W.heap.size W w') := fun W hs hk he => implTextStep_c [] (by simp) W hs hk he _ _ _ _ ts_nil
      clear e0 hB hlen
      go_wp2_with (refine stay_load 30 ?_)
      refine ⟨?_⟩
      refine wpList_load_mid rfl 30 _ rfl q 0 rfl [.int .i64 k, .int .i64 x.s, .int .i64 x.j.id, .int .i64 x.j.pr, .int .i64 x.j.nd, .int .i64 x.j.na, .int .i64 x.j.nb, .int .i64 x.j.nc, .int .i64 x.j.la, .int .i64 x.j.lb, .int .i64 x.j.lc, .int .i64 x.j.wl, .int .i64 x.j.lv, .int .i64 x.n, .int .i64 x.a, .int .i64 x.b, .int .i64 x.c, .int .i64 p] _ HX.out.all Tryz.underlying30 rfl szStep ?_
      go_wp2_with fail
      refine (HCO.out _).mono ?_
      rintro e w3 ⟨rfl, hb⟩
      replace HX : Hid (Row w3 q [.int .i64 k, .int .i64 x.s, .int .i64 x.j.id, .int .i64 x.j.pr, .int .i64 x.j.nd, .int .i64 x.j.na, .int .i64 x.j.nb, .int .i64 x.j.nc, .int .i64 x.j.la, .int .i64 x.j.lb, .int .i64 x.j.lc, .int .i64 x.j.wl, .int .i64 x.j.lv, .int .i64 x.n, .int .i64 x.a, .int .i64 x.b, .int .i64 x.c, .int .i64 p]) := HX.out.below hb
      replace HB : Hid (Below w.heap.size w w3) := below_then HB.out hb
      clear hb HCO
      have hi : (⟨([] : List UInt8).toArray⟩ : ByteArray).toList.isEmpty = true := by rw [ba_toL]; rfl
      go_wp2_with fail
      refine (HT.out _ (HS.out.on HB.out) (HK.out.on HB.out) (HE.out.on HB.out)).mono ?_
      rintro e w4 ⟨rfl, hb⟩
      replace HB : Hid (Below w.heap.size w w4) := below_then HB.out hb
      clear hb HX HT
      go_wp2_with fail
      go_ret
      exact ⟨rfl, behind_alloc HB.out _⟩
    · have hag := ts_again hB
      have hne := stL_ne hB
      clear hB
      generalize stL k x p = l at hag hne hlen HCO ⊢
      have HT0 : Hid (∀ W : World, StT W → KwT W → Env W → Calls Tryz.prog 8 #[.string ⟨l.toArray⟩] W fun e w' => e = .returned (.tuple #[.agg #[.int .i64 k, .int .i64 x.s, .int .i64 x.j.id, .int .i64 x.j.pr, .int .i64 x.j.nd, .int .i64 x.j.na, .int .i64 x.j.nb, .int .i64 x.j.nc, .int .i64 x.j.la, .int .i64 x.j.lb, .int .i64 x.j.lc, .int .i64 x.j.wl, .int .i64 x.j.lv, .int .i64 x.n, .int .i64 x.a, .int .i64 x.b, .int .i64 x.c, .int .i64 p], .bool true]) ∧ Below W.heap.size W w') := fun W hs hk he => implTextStep_c l (by omega) W hs hk he _ _ _ _ hag
      have hi0 : (⟨l.toArray⟩ : ByteArray).toList.isEmpty = false := by rw [ba_toL]; cases l with
        | nil => exact absurd rfl hne
        | cons _ _ => rfl
      clear hag hne hlen
      generalize (⟨l.toArray⟩ : ByteArray) = S at HT0 hi0 HCO ⊢
      have HT := HT0
      have hi := hi0
      clear HT0 hi0
      go_wp2_with (refine stay_load 30 ?_)
      refine ⟨?_⟩
      refine wpList_load_mid rfl 30 _ rfl q 0 rfl [.int .i64 k, .int .i64 x.s, .int .i64 x.j.id, .int .i64 x.j.pr, .int .i64 x.j.nd, .int .i64 x.j.na, .int .i64 x.j.nb, .int .i64 x.j.nc, .int .i64 x.j.la, .int .i64 x.j.lb, .int .i64 x.j.lc, .int .i64 x.j.wl, .int .i64 x.j.lv, .int .i64 x.n, .int .i64 x.a, .int .i64 x.b, .int .i64 x.c, .int .i64 p] _ HX.out.all Tryz.underlying30 rfl szStep ?_
      go_wp2_with fail
      refine (HCO.out _).mono ?_
      rintro e w3 ⟨rfl, hb⟩
      replace HX : Hid (Row w3 q [.int .i64 k, .int .i64 x.s, .int .i64 x.j.id, .int .i64 x.j.pr, .int .i64 x.j.nd, .int .i64 x.j.na, .int .i64 x.j.nb, .int .i64 x.j.nc, .int .i64 x.j.la, .int .i64 x.j.lb, .int .i64 x.j.lc, .int .i64 x.j.wl, .int .i64 x.j.lv, .int .i64 x.n, .int .i64 x.a, .int .i64 x.b, .int .i64 x.c, .int .i64 p]) := HX.out.below hb
      replace HB : Hid (Below w.heap.size w w3) := below_then HB.out hb
      clear hb HCO
      go_wp2_with fail
      refine (HT.out _ (HS.out.on HB.out) (HK.out.on HB.out) (HE.out.on HB.out)).mono ?_
      rintro e w4 ⟨rfl, hb⟩
      replace HX : Hid (Row (w4.alloc (.cells #[.int .i64 k, .int .i64 x.s, .int .i64 x.j.id, .int .i64 x.j.pr, .int .i64 x.j.nd, .int .i64 x.j.na, .int .i64 x.j.nb, .int .i64 x.j.nc, .int .i64 x.j.la, .int .i64 x.j.lb, .int .i64 x.j.lc, .int .i64 x.j.wl, .int .i64 x.j.lv, .int .i64 x.n, .int .i64 x.a, .int .i64 x.b, .int .i64 x.c, .int .i64 p] 30)) q [.int .i64 k, .int .i64 x.s, .int .i64 x.j.id, .int .i64 x.j.pr, .int .i64 x.j.nd, .int .i64 x.j.na, .int .i64 x.j.nb, .int .i64 x.j.nc, .int .i64 x.j.la, .int .i64 x.j.lb, .int .i64 x.j.lc, .int .i64 x.j.wl, .int .i64 x.j.lv, .int .i64 x.n, .int .i64 x.a, .int .i64 x.b, .int .i64 x.c, .int .i64 p]) := (HX.out.below hb).below (low_alloc _ _)
      have HD : Hid (Row (w4.alloc (.cells #[.int .i64 k, .int .i64 x.s, .int .i64 x.j.id, .int .i64 x.j.pr, .int .i64 x.j.nd, .int .i64 x.j.na, .int .i64 x.j.nb, .int .i64 x.j.nc, .int .i64 x.j.la, .int .i64 x.j.lb, .int .i64 x.j.lc, .int .i64 x.j.wl, .int .i64 x.j.lv, .int .i64 x.n, .int .i64 x.a, .int .i64 x.b, .int .i64 x.c, .int .i64 p] 30)) w4.heap.size [.int .i64 k, .int .i64 x.s, .int .i64 x.j.id, .int .i64 x.j.pr, .int .i64 x.j.nd, .int .i64 x.j.na, .int .i64 x.j.nb, .int .i64 x.j.nc, .int .i64 x.j.la, .int .i64 x.j.lb, .int .i64 x.j.lc, .int .i64 x.j.wl, .int .i64 x.j.lv, .int .i64 x.n, .int .i64 x.a, .int .i64 x.b, .int .i64 x.c, .int .i64 p]) := row_new w4 [.int .i64 k, .int .i64 x.s, .int .i64 x.j.id, .int .i64 x.j.pr, .int .i64 x.j.nd, .int .i64 x.j.na, .int .i64 x.j.nb, .int .i64 x.j.nc, .int .i64 x.j.la, .int .i64 x.j.lb, .int .i64 x.j.lc, .int .i64 x.j.wl, .int .i64 x.j.lv, .int .i64 x.n, .int .i64 x.a, .int .i64 x.b, .int .i64 x.c, .int .i64 p] 30
      replace HB : Hid (Below w.heap.size w (w4.alloc (.cells #[.int .i64 k, .int .i64 x.s, .int .i64 x.j.id, .int .i64 x.j.pr, .int .i64 x.j.nd, .int .i64 x.j.na, .int .i64 x.j.nb, .int .i64 x.j.nc, .int .i64 x.j.la, .int .i64 x.j.lb, .int .i64 x.j.lc, .int .i64 x.j.wl, .int .i64 x.j.lv, .int .i64 x.n, .int .i64 x.a, .int .i64 x.b, .int .i64 x.c, .int .i64 p] 30))) := behind_alloc (below_then HB.out hb) _
      clear hb HT
      have heq := seq_self k x p
      go_wp2_with (refine stay_load 30 ?_)
      refine ⟨?_⟩
      generalize w4.alloc (.cells #[.int .i64 k, .int .i64 x.s, .int .i64 x.j.id, .int .i64 x.j.pr, .int .i64 x.j.nd, .int .i64 x.j.na, .int .i64 x.j.nb, .int .i64 x.j.nc, .int .i64 x.j.la, .int .i64 x.j.lb, .int .i64 x.j.lc, .int .i64 x.j.wl, .int .i64 x.j.lv, .int .i64 x.n, .int .i64 x.a, .int .i64 x.b, .int .i64 x.c, .int .i64 p] 30) = u4 at HX HD HB ⊢
      generalize w4.heap.size = q4 at HD ⊢
      refine wpList_load_mid_w rfl 30 _ rfl q 0 rfl [.int .i64 k, .int .i64 x.s, .int .i64 x.j.id, .int .i64 x.j.pr, .int .i64 x.j.nd, .int .i64 x.j.na, .int .i64 x.j.nb, .int .i64 x.j.nc, .int .i64 x.j.la, .int .i64 x.j.lb, .int .i64 x.j.lc, .int .i64 x.j.wl, .int .i64 x.j.lv, .int .i64 x.n, .int .i64 x.a, .int .i64 x.b, .int .i64 x.c, .int .i64 p] _ HX.out.all Tryz.underlying30 rfl szStep ?_
      go_wp2_with (refine stay_load 30 ?_)
      refine ⟨?_⟩
      refine wpList_load_mid_w rfl 30 _ rfl q4 0 rfl [.int .i64 k, .int .i64 x.s, .int .i64 x.j.id, .int .i64 x.j.pr, .int .i64 x.j.nd, .int .i64 x.j.na, .int .i64 x.j.nb, .int .i64 x.j.nc, .int .i64 x.j.la, .int .i64 x.j.lb, .int .i64 x.j.lc, .int .i64 x.j.wl, .int .i64 x.j.lv, .int .i64 x.n, .int .i64 x.a, .int .i64 x.b, .int .i64 x.c, .int .i64 p] _ HD.out.all Tryz.underlying30 rfl szStep ?_
      go_wp2_with fail
      go_ret
      exact ⟨rfl, HB.out⟩
end Go.Proofs.YtejleghdgdbbnaaGreatDoor

namespace Go.Proofs.YtejleghdgdbbnaaGreatDoor
open Go.ChangeShapes Go.WideShapes Go.ChangeAt Go.RowKit

theorem laidOutAll : laidOutB Tryz.prog = true := by kernel_rfl
theorem cellsByte : Tryz.prog.cellsOf 5 = 1 := by kernel_rfl

theorem byte_in {x : Int} (h : (Lit.int .u8 x).wf = true) : 0 ≤ x ∧ x < 256 := by
  have h1 : IntKind.u8.min = 0 := rfl
  have h2 : IntKind.u8.max = 255 := rfl
  simp only [Lit.wf, Bool.and_eq_true, decide_eq_true_eq] at h
  omega

/-- A code that came in: its length, and its bytes where it is no longer than the laws look at. -/
theorem code_opened {H : Type} {enc : TypeId × Value → H} {W : World} {a : Option Addr} {n cap : Nat} {d : DataW H} {p : List MemPlace}
    (h : DataW.Trod enc Tryz.prog W 0 (fun _ => true) true 22 (.slice a n cap) d p) : n ≤ maxLen ∧ (n ≤ 1048576 → CodeIs W a n) := by
  obtain ⟨fuel, hf⟩ := h
  rcases open_ints Tryz.underlying22 Tryz.underlying5 cellsByte hf with ⟨hcs, _⟩ | ⟨b, len, c, zs, hcs, _, hl, hm, hz, _, hcell, hwz⟩
  · simp [Value.cells] at hcs
    obtain ⟨rfl, rfl, rfl⟩ := hcs
    exact ⟨Nat.zero_le _, fun _ => ⟨by omega, fun i hi => by omega⟩⟩
  · simp [Value.cells] at hcs
    obtain ⟨rfl, rfl, rfl⟩ := hcs
    simp only [if_true] at hz
    refine ⟨by omega, fun hn => ⟨hn, fun i hi => ?_⟩⟩
    have hi' : i < zs.length := by omega
    have hc := hcell i hi'
    have hg : zs.getD i 0 = zs[i] := by simp [List.getD, hi']
    have hw := byte_in (hwz zs[i] (List.getElem_mem hi'))
    refine ⟨b, zs[i], rfl, ?_, by rw [hc, hg], hw.1, hw.2⟩
    have := World.block_lt_of_cell? _ _ hc
    rwa [block_add] at this
end Go.Proofs.YtejleghdgdbbnaaGreatDoor

namespace Go.Proofs.YtejleghdgdbbnaaGreatDoor
namespace LawFnStep
open Go.ChangeShapes Go.WideShapes Go.ChangeAt Go.RowKit
open Go.WideMaps Go.WideElems

set_option maxRecDepth 100000 in
theorem lifted (os : Os) (started : os.Started) (H : Type) (enc : TypeId × Value → H) :
    ReturnsInHanded {} Tryz.checked os 3 .any (fun w args => (Rows.fnStepSpec.pre enc Tryz.prog Tryz.f3 [] false w args ∧ laidMetH Tryz.prog Rows.fnStepRow.laid w) ∧ sizedMet enc Tryz.prog Tryz.f3 (OpenSpec.ofChange Rows.fnStepSpec) false w args)
      (Rows.fnStepSpec.post enc Tryz.prog Tryz.f3 false true false false) := by
  refine handed (laid := Rows.fnStepRow.laid) started (by kernel_rfl) Tryz.func3
    (ChangeSpec.witness_shaped (enc := enc) (C := Tryz.checked) (os := os) (X := fun w _ => laidMetH Tryz.prog Rows.fnStepRow.laid w) false (World.laidAll Tryz.prog os Rows.fnStepRow.laid) #[.slice none 0 0] 8 (World.laidAll_os _ _ _)
      (World.shaped_of_ZipB (by kernel_rfl) (by kernel_rfl)) (by kernel_rfl) (by kernel_rfl) (by kernel_rfl)
      (by rw [MakeChecks.laidMetH_plain _ _ _ (by kernel_rfl)]; exact laidMet_laidAll _ (by kernel_rfl) (by kernel_rfl))) ?_
  intro W base args ds gs before hval0 hW hL hsh
  have hval : ∀ (j : Nat) t v, Tryz.f3.params[j]? = some t → args[j]? = some v → Value.okWide Tryz.prog W .any base t v := hval0
  have hW' := hW
  obtain ⟨p, q, hA0, hV, rfl, hfz, hnd⟩ := hW
  have hA : DataW.TrodAll enc Tryz.prog W 0 (fun _ => true) true Tryz.f3.params.toList args.toList ds p := hA0
  rw [Tryz.params3] at hA hval
  obtain ⟨v0, d0, rfl, rfl, h0⟩ := trodAll_one hA
  have hV0 := hV
  obtain ⟨g0, t0, cs0, f0, e0, p0, g1, t1, cs1, f1, e1, p1, rfl, _, _, _, _, _, _, _, _, _⟩ := trodVars_two hV
  obtain ⟨a, n, cap, rfl⟩ := okWide_slice Tryz.underlying22 (hval 0 22 v0 rfl rfl)
  clear hA0 hval0
  obtain ⟨hn, hc⟩ := code_opened h0
  have hM := hL
  rw [MakeChecks.laidMetH_plain _ _ _ (by kernel_rfl)] at hM
  refine (fnStep_walk a n cap W hn hc (st_head hM.tail.tail.tail.tail.tail.tail.tail) (kw_head hM.tail.tail.tail.tail.tail.tail) ⟨tab_head hM.tail.tail, errs_head hM.tail.tail.tail.tail hM.tail.tail.tail.tail.tail, Tryz.laysM146.s1_3 W hsh⟩).mono fun e W' ⟨he, hg⟩ => ?_
  subst he
  have hlt : ∀ x ∈ p, x.block < W.heap.size := fun x hx => by simpa using hW'.lt x (List.mem_append_left _ hx)
  have harg := Below.trod laidOutAll (by kernel_rfl) (of_decide_eq_true (by kernel_rfl)) h0 hg hlt
  have hvars := Below.trodVars laidOutAll hg (by kernel_rfl) hV0
  exact ⟨_, rfl, _, _, _, [], _, _, hW', trodAll_mk1 (shut_bool Tryz.underlying4 _), trodAll_mk1 harg, hvars, hg.frame _, fun h => by cases h⟩
end LawFnStep

theorem fnStep_row : Rows.FnStepSaid :=
  OpenClaim.holds_of_wide 3 Tryz.f3 rfl rfl rfl rfl rfl rfl rfl ⟨rfl, rfl, rfl, rfl, rfl⟩ rfl rfl rfl rfl rfl (by kernel_rfl) Tryz.func3 (by kernel_rfl)
    (of_decide_eq_true (by kernel_rfl)) (by unfold Func.isWrapper; rw [if_neg (of_decide_eq_false (by kernel_rfl))]; exact ⟨rfl, rfl⟩)
    (fun os started H enc _ => LawFnStep.lifted os started H enc)

/-- For every code: the law returns true; what it lists is tied to the program's text. -/
theorem fnStep_holds : Rows.FnStepCardSaid :=
  Claim7.holds_tied_plain_at .later [] _ true _ _
    fnStep_row (fun _ h => by cases h) (by kernel_rfl) (fun _ h => by cases h) fnStep_row_tie rfl ⟨rfl, rfl⟩ (by kernel_rfl) rfl
    (fun f fn hf hfn => by
      obtain rfl : f = 3 := Option.some.inj ((show Tryz.prog.funcNamed Rows.fnStepRow.func = some 3 by kernel_rfl).symm.trans hf) |>.symm
      obtain rfl : fn = Tryz.f3 := (Option.some.inj (Tryz.func3.symm.trans hfn)).symm
      exact ⟨by kernel_rfl, fun j t ht => by
        rw [Tryz.params3] at ht
        have hm : t ∈ [22] := by simpa using Array.mem_of_getElem? ht
        have hall : ([22].all fun u => !Tryz.prog.wantsStandIn u) = true := by kernel_rfl
        exact (show Tryz.prog.wantsStandIn t = false by simpa using List.all_eq_true.1 hall t hm)⟩)
    (by kernel_rfl)
#print axioms fnStep_holds
end Go.Proofs.YtejleghdgdbbnaaGreatDoor
